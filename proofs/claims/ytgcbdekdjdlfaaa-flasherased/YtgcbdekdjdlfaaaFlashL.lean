/-
  What the statements of chapter 7 begin with: a small device that is new; that a first call answers.
-/
import Derived.Test.YtgcbdekdjdlfaaaFlashX
set_option linter.unusedVariables false
set_option linter.unusedSimpArgs false
namespace Go.Proofs.Ytgcbdekdjdlfaaa.Flash
open Go.RowKit
open Go.Proofs.Ytgcbdekdjdlfaaa.Own
open Tup Bytes Foot
theorem FHas.below {w w' : World} {p : Nat} {d : Dev} {S : Nat → Prop} (h : FHas w p d S) (g : Below w.heap.size w w') : FHas w' p d S := h.grows (Grows.of_below (S := fun _ => False) g) (fun _ _ x => x)
/-- nothing below B has turned, and what is held lies beyond -/
structure Safe (B : Nat) (w0 w : World) (S : Nat → Prop) : Prop where
  bel : Below B w0 w
  size : B ≤ w.heap.size
  foot : ∀ k, S k → B ≤ k
theorem Safe.below {B : Nat} {w0 w w' : World} {S : Nat → Prop} (h : Safe B w0 w S) (g : Below w.heap.size w w') : Safe B w0 w' S := ⟨h.bel.trans (g.mono h.size), Nat.le_trans h.size g.size, h.foot⟩
theorem Safe.after {B : Nat} {w0 w w' : World} {S S' : Nat → Prop} (h : Safe B w0 w S) (a : After S w w' S') : Safe B w0 w' S' := ⟨h.bel.trans (a.grows.below h.size h.foot), Nat.le_trans h.size a.grows.size, a.beyond h.size h.foot⟩
theorem fNew_ok (pg pgs rgs : Nat) (im : ByteArray) (hi : im.size ≤ pg * pgs * rgs) (p0 : 32 ≤ pg) (p1 : pg ≤ 128) (s0 : 3 ≤ pgs) (s1 : pgs ≤ 10) (r0 : 4 ≤ rgs) (r1 : rgs ≤ 12) (w : World) :
    Calls Try.prog 13 #[.agg #[.int .i64 (pg : Int), .int .i64 (pgs : Int), .int .i64 (rgs : Int)], .string im] w fun e w' => ∃ p S, e = .returned (.tuple #[.pointer (some ⟨p, 0, none⟩), .int .i64 0]) ∧ FHas w' p (newD pg pgs rgs im.data.toList) S ∧ Below w.heap.size w w' ∧ ∀ k, S k → w.heap.size ≤ k := by
  refine (fNew_any ⟨pg, pgs, rgs⟩ im w).mono ?_
  rintro e w' ⟨hb, h⟩
  rw [if_pos ⟨Geom.right_small.2 ⟨by simp only; omega, by simp only; omega, by simp only; omega, by simp only; omega, by simp only; omega, by simp only; omega⟩, by
    unfold Geom.sizeG; simp only; rw [← Int.natCast_mul, ← Int.natCast_mul]; omega⟩] at h
  obtain ⟨p, S, h1, h2, h3⟩ := h
  simp only [Int.toNat_natCast] at h2
  exact ⟨p, S, h1, h2, hb, h3⟩
theorem fNew_tiny (im : ByteArray) (hi : im.size ≤ 384) (w : World) : Calls Try.prog 13 #[.agg #[.int .i64 32, .int .i64 3, .int .i64 4], .string im] w fun e w' => ∃ p S, e = .returned (.tuple #[.pointer (some ⟨p, 0, none⟩), .int .i64 0]) ∧ FHas w' p (newD 32 3 4 im.data.toList) S ∧ Below w.heap.size w w' ∧ ∀ k, S k → w.heap.size ≤ k :=
  fNew_ok 32 3 4 im (by omega) (by omega) (by omega) (by omega) (by omega) (by omega) (by omega) w
theorem new_tiny_ok (im : List UInt8) (h : im.length ≤ 384) : (newD 32 3 4 im).Ok := new_ok (by omega) (by omega) (by omega) (by omega) (by omega) (by omega) (by omega)
set_option maxRecDepth 100000 in
theorem tiny_any (w : World) : Calls Try.prog 25 #[] w fun e w' => e = .returned (.agg #[.int .i64 32, .int .i64 3, .int .i64 4]) ∧ Below w.heap.size w w' := by
  go_enter Try.func25, Try.ntmps25
  go_wp2
  refine bodyPost_ret (by simp [results, Try.results25, go_sem]; try rfl) rfl ?_
  exact ⟨rfl, Geom.bel_alloc _ _⟩
def rep (n : Nat) (c : UInt8) : List UInt8 := List.replicate n c
def al1 : Dev := tinyD (ff 384) [(0, rep 32 0)]
def al2 : Dev := tinyD (over (ff 384) 0 (rep 2 0)) []
def al3 : Dev := { al2 with fuse := some 0 }
def al4 : Dev := { al3 with down := true, wait := [(3, ff 32), (4, ff 32), (5, ff 32)] }
theorem al_1 : programD (newD 32 3 4 []) 0 (rep 32 0) = (0, al1) := tiny_program (img := ff 384) (p := 0) (b := rep 32 0) (by omega) (by simp [rep]) (blank_ff (by omega))
theorem al_2 : crashD al1 [3] = al2 := rfl
theorem al_3 : readD al2 0 = (rep 2 0 ++ rep 30 255, 0) := by
  have h := tiny_read (img := over (ff 384) 0 (rep 2 0)) (p := 0) (by omega)
  have e : cut (over (ff 384) 0 (rep 2 0)) 0 32 = rep 2 0 ++ rep 30 255 := by
    rw [cut_over_part (by omega) (by simp [rep])]
    unfold ff rep
    rw [List.length_replicate, cut_replicate 255 (by omega)]
  rw [show 0 * 32 = 0 from rfl, e] at h
  exact h
theorem al_4 : fuseD al2 0 = al3 := rfl
theorem al_5 : eraseD al3 1 = (6, al4) := rfl
theorem al_ok0 : (newD 32 3 4 []).Ok := new_tiny_ok [] (by simp)
theorem al_ok1 : al1.Ok := by have := program_keeps al_ok0 0 (rep 32 0); rw [al_1] at this; exact this
theorem al_ok2 : al2.Ok := by have := crash_keeps al_ok1 [3]; rw [al_2] at this; exact this
theorem al_ok3 : al3.Ok := by have := fuse_keeps al_ok2 0; rw [al_4] at this; exact this
theorem al_ok4 : al4.Ok := by have := erase_keeps al_ok3 1; rw [al_5] at this; exact this
theorem fillC (c : UInt8) (x : Int) (n : Nat) (hx : x = (n : Int)) (hn : n ≤ 1000000) (k : Int) (hk : k = (c.toNat : Int)) (w : World) :
    Calls Try.prog 22 #[.int .u8 k, .int .i64 x] w fun e w' => e = .returned (.string (bs (rep n c))) ∧ Below w.heap.size w w' := by rw [hk]; exact fill_any c x n (.inl hx) hn w
theorem mask_new (w : World) (m : Int) (t : TypeId) {S : Nat → Prop} (h : ∀ k, S k → k < w.heap.size) : MaskAt (w.alloc (.cells #[.int .i64 m] t)) (some ⟨w.heap.size, 0, none⟩) [m] S :=
  .inr ⟨w.heap.size, 0, rfl, lies_new w [.int .i64 m] t, fun x => by have := h _ x; omega⟩
set_option maxRecDepth 100000 in
set_option maxHeartbeats 8000000 in
theorem alive_any (w : World) : Calls Try.prog 14 #[] w fun e w' => e = .returned (.bool true) ∧ Below w.heap.size w w' := by
  have HT := Lib.hid (fun w => tiny_any w)
  have HN := Lib.hid (fun w => fNew_tiny ⟨#[]⟩ (Nat.zero_le _) w)
  have HF1 := Lib.hid (fun w => fillC 0 32 32 rfl (by omega) 0 rfl w)
  have HF2 := Lib.hid (fun w => fillC 0 2 2 rfl (by omega) 0 rfl w)
  have HF3 := Lib.hid (fun w => fillC 255 30 30 rfl (by omega) 255 rfl w)
  have HP := Lib.hid (fun w p S (h : FHas w p (newD 32 3 4 []) S) => fProgram_any h al_ok0 0 (bs (rep 32 0)))
  rw [list_bs, al_1] at HP
  have HC := Lib.hid (fun w p S (h : FHas w p al1 S) ma mc hM => fCrash_any h al_ok1 ma [3] 1 mc rfl hM (by simp) (by simp [maxLen]))
  rw [al_2] at HC
  have HR := Lib.hid (fun w p S (h : FHas w p al2 S) => fRead_any h al_ok2 0)
  rw [al_3] at HR
  have HU := Lib.hid (fun w p S (h : FHas w p al2 S) => fFuse_any h al_ok2 0 (by omega))
  rw [al_4] at HU
  have HE := Lib.hid (fun w p S (h : FHas w p al3 S) => fErase_any h al_ok3 1)
  rw [al_5] at HE
  have HPe := Lib.hid (fun w p S (h : FHas w p al4 S) => fPending_any h al_ok4)
  have HD := Lib.hid (fun w p S (h : FHas w p al4 S) => fDown_any h al_ok4)
  have q1 : (bs (rep 2 0 ++ rep 30 255)).toList = (bs (rep 2 0) ++ bs (rep 30 255)).toList := by rw [bs_append]
  go_enter Try.func14, Try.ntmps14
  go_wp2_with (first
    | (go_at_call 25; (with_reducible refine (HT.out _).mono ?_); rintro e w1 ⟨rfl, b1⟩)
    | (go_at_call 13; (with_reducible refine (HN.out _).mono ?_); rintro e w2 ⟨p, S2, rfl, h2, b2, s2⟩; have t2 : Safe w.heap.size w w2 S2 := ⟨bel2 b1 b2, Nat.le_trans b1.size b2.size, fun k hk => Nat.le_trans b1.size (s2 k hk)⟩)
    | (go_at_call 22; (with_reducible refine (HF1.out _).mono ?_); rintro e w3 ⟨rfl, b3⟩; have h3 := h2.below b3; have t3 := t2.below b3)
    | (go_at_call 26; (with_reducible refine (HP.out _ _ _ h3).mono ?_); rintro e w4 ⟨rfl, S4, h4, a4⟩; have t4 := (t3.after a4).below (Geom.bel_alloc w4 (.cells #[.int .i64 3] 3)); have m4 := mask_new w4 3 3 h4.lt; have h5 := h4.below (Geom.bel_alloc w4 (.cells #[.int .i64 3] 3)))
    | (go_at_call 28; (with_reducible refine (HC.out _ _ _ h5 _ _ m4).mono ?_); rintro e w6 ⟨rfl, S6, h6, a6⟩; have t6 := t4.after a6)
    | (go_at_call 29; (with_reducible refine (HR.out _ _ _ h6).mono ?_); rintro e w7 ⟨rfl, b7⟩; have h7 := h6.below b7; have t7 := t6.below b7)
    | (go_at_call 30; (with_reducible refine (HU.out _ _ _ h7).mono ?_); rintro e w8 ⟨rfl, S8, h8, a8⟩; have t8 := t7.after a8)
    | (go_at_call 22; (with_reducible refine (HF2.out _).mono ?_); rintro e w9 ⟨rfl, b9⟩; have h9 := h8.below b9; have t9 := t8.below b9)
    | (go_at_call 22; (with_reducible refine (HF3.out _).mono ?_); rintro e w10 ⟨rfl, b10⟩; have h10 := h9.below b10; have t10 := t9.below b10)
    | (go_at_call 31; (with_reducible refine (HE.out _ _ _ h10).mono ?_); rintro e w11 ⟨rfl, S11, h11, a11⟩; have t11 := t10.after a11)
    | (go_at_call 24; (with_reducible refine (HPe.out _ _ _ h11).mono ?_); rintro e w12 ⟨rfl, b12⟩; have h12 := h11.below b12; have t12 := t11.below b12)
    | (go_at_call 23; (with_reducible refine (HD.out _ _ _ h12).mono ?_); rintro e w13 ⟨rfl, b13⟩))
  go_ret
  exact ⟨rfl, (t12.below b13).bel⟩
end Go.Proofs.Ytgcbdekdjdlfaaa.Flash
