/-
  FlashRots' walk: a byte that rots is turned, and no other one.
-/
import Derived.Test.YtgcbdekdjdlfaaaFlashL2
import Derived.Test.YtgcbdekdjdlfaaaPick
set_option linter.unusedVariables false
set_option linter.unusedSimpArgs false
namespace Go.Proofs.Ytgcbdekdjdlfaaa.Flash
open Go.RowKit
open Go.Proofs.Ytgcbdekdjdlfaaa.Own
open Tup Bytes Foot
open Go.Proofs.Ytgcbdekdjdlfaaa.Region (fill Then Deps Each wp_region_is wp_region_is_tail)
theorem Safe.set {B : Nat} {w0 w : World} {S : Nat → Prop} (h : Safe B w0 w S) (a : Addr) (v : Value) (ha : B ≤ a.block) : Safe B w0 (w.setCell a v) S := ⟨h.bel.setCell ha v, by simpa [World.setCell] using h.size, h.foot⟩
set_option maxRecDepth 100000 in
set_option maxHeartbeats 16000000 in
theorem rots_any (im : ByteArray) (hi : im.size ≤ maxLen) (pp kk : Int) (x : UInt8) (w : World) : Calls Try.prog 9 #[.string im, .int .i64 pp, .int .i64 kk, .int .u8 (x.toNat : Int)] w fun e w' => e = .returned (.bool true) ∧ Below w.heap.size w w' := by
  have HT := Lib.hid (fun w => tiny_any w)
  have HAL := Lib.hid (fun w => alive_any w)
  have HS1 := Lib.hid (fun w => shortB_any im hi 384 (by omega) 384 rfl w)
  obtain ⟨i1, hi1⟩ : ∃ i1, i1 = im.data.toList.take 384 := ⟨_, rfl⟩
  have li : i1.length ≤ 384 := by rw [hi1, List.length_take]; omega
  rw [← hi1] at HS1
  have HN := Lib.hid (fun w => fNew_tiny (bs i1) (by rw [bs_size]; exact li) w)
  rw [list_bs] at HN
  obtain ⟨q, hq⟩ : ∃ q : Nat, (q : Int) = pp % 12 := ⟨(pp % 12).toNat, by omega⟩
  have hq12 : q < 12 := by omega
  obtain ⟨k, hk⟩ : ∃ k : Nat, (k : Int) = kk % 32 := ⟨(kk % 32).toNat, by omega⟩
  have hk32 : k < 32 := by omega
  have HK1 : Hid (∀ w, Calls Try.prog 19 #[.int .i64 pp, .int .i64 12] w fun e w' => e = .returned (.int .i64 (pp % 12)) ∧ w = w') := fun w => Book.pick_any pp 12 (by decide) (by decide) w
  rw [← hq] at HK1
  have HK2 : Hid (∀ w, Calls Try.prog 19 #[.int .i64 kk, .int .i64 32] w fun e w' => e = .returned (.int .i64 (kk % 32)) ∧ w = w') := fun w => Book.pick_any kk 32 (by decide) (by decide) w
  rw [← hk] at HK2
  have ok0 := new_tiny_ok i1 li
  obtain ⟨I0, hI0⟩ : ∃ I0, I0 = (newD 32 3 4 i1).img := ⟨_, rfl⟩
  have hd0 : newD 32 3 4 i1 = tinyD I0 [] := by rw [hI0]; rfl
  rw [hd0] at ok0 HN
  have lI : I0.length = 384 := ok0.len
  have er : ∀ J : List UInt8, rotD (tinyD J []) q k x = (0, tinyD (J.modify (q * 32 + k) (· ^^^ x)) []) := fun J => rot_ok (d := tinyD J []) hq12 hk32 x
  obtain ⟨y, hy⟩ : ∃ y, y = I0.getD (q * 32 + k) 0 := ⟨_, rfl⟩
  obtain ⟨z, hz⟩ : ∃ z, z = y ^^^ x := ⟨_, rfl⟩
  obtain ⟨I1, hI1⟩ : ∃ I1, I1 = I0.set (q * 32 + k) z := ⟨_, rfl⟩
  have em : I0.modify (q * 32 + k) (· ^^^ x) = I1 := by rw [hI1, hz, hy, modify_set]
  have em2 : I1.modify (q * 32 + k) (· ^^^ x) = I0 := by rw [← em]; exact rot_rot I0 _ x
  have ok1 : (tinyD I1 []).Ok := by have := rot_keeps ok0 q k x; rw [er, em] at this; exact this
  have HI1 := Lib.hid (fun w p S (h : FHas w p (tinyD I0 []) S) => fImage_any h ok0)
  have HR1 := Lib.hid (fun w p S (h : FHas w p (tinyD I0 []) S) => fRot_any h ok0 q k x)
  rw [er, em] at HR1
  have HI2 := Lib.hid (fun w p S (h : FHas w p (tinyD I1 []) S) => fImage_any h ok1)
  have HR2 := Lib.hid (fun w p S (h : FHas w p (tinyD I1 []) S) => fRot_any h ok1 q k x)
  rw [er, em2] at HR2
  rw [show (tinyD I0 []).img = I0 from rfl] at HI1
  rw [show (tinyD I1 []).img = I1 from rfl] at HI2
  have s0 : (bs I0).size = 384 := by rw [bs_size, lI]
  have hcv := fun w => Lib.run_convert_string_bytes (P := Try.prog) w 9 61 5 (bs I0) Try.underlying9 Try.underlying61 Try.underlying5
  rw [s0] at hcv
  have HRW := Lib.hid (fun w => Row8.of_string w 5 (bs I0))
  rw [list_bs] at HRW
  have hxr := xor_u8 y x
  rw [← hz] at hxr
  have x1 : 0 ≤ 32 * (q : Int) ∧ 32 * (q : Int) ≤ 384 := by omega
  have x2 : 0 ≤ 32 * (q : Int) + (k : Int) ∧ 32 * (q : Int) + (k : Int) < 384 := by omega
  have x4 : (32 * (q : Int) + (k : Int)).toNat = q * 32 + k := by omega
  have HY := Lib.hid hy
  have HI := Lib.hid hI1
  have HL := Lib.hid lI
  have HLT := Lib.hid (show q * 32 + k < 384 by omega)
  have HL1 := Lib.hid (show I1.length = 384 by rw [hI1, List.length_set, lI])
  clear hz ok0 ok1 er em em2 hd0 hI0 hI1 hy lI hi1 hi hq hk
  go_enter Try.func9, Try.ntmps9
  go_wp2_with (first
    | (go_at_call 25; (with_reducible refine (HT.out _).mono ?_); rintro e w1 ⟨rfl, b1⟩)
    | (go_at_call 11; (with_reducible refine (HS1.out _).mono ?_); rintro e w5 ⟨rfl, rfl⟩)
    | (go_at_call 13; (with_reducible refine (HN.out _).mono ?_); rintro e w2 ⟨p, S2, rfl, h2, b2, s2⟩; have t2 : Safe w.heap.size w w2 S2 := ⟨bel2 b1 b2, Nat.le_trans b1.size b2.size, fun k hk => Nat.le_trans b1.size (s2 k hk)⟩)
    | (go_at_call 14; (with_reducible refine (HAL.out _).mono ?_); rintro e w3 ⟨rfl, b3⟩; have h3 := h2.below b3; have t3 := t2.below b3; clear h2 t2)
    | (go_at_call 19; (with_reducible refine (HK1.out _).mono ?_); rintro e w4 ⟨rfl, rfl⟩)
    | (go_at_call 19; (with_reducible refine (HK2.out _).mono ?_); rintro e w6 ⟨rfl, rfl⟩)
    | (go_at_call 21; (with_reducible refine (HI1.out _ _ _ h3).mono ?_); rintro e w7 ⟨rfl, b7⟩; have h7 := h3.below b7; have t7 := t3.below b7; clear h3 t3)
    | (go_at_call 33; (with_reducible refine (HR1.out _ _ _ h7).mono ?_); rintro e w8 ⟨rfl, S8, h8, a8⟩; have t8 := t7.after a8; clear h7 t7; have hb8 := bytes_below w8 5 (bs I0); have h9 := h8.below hb8; have t9 := t8.below hb8; have RW := HRW.out w8; have g12 := RW (q * 32 + k) (by rw [HL.out]; exact HLT.out); have g1 := g12.1; have g2 := g12.2; rw [← HY.out] at g1; have h10 := h9.grows (Grows.set (S := (· = w8.heap.size)) (Lib.bytesWorld w8 5 (bs I0)) ⟨w8.heap.size, q * 32 + k, none⟩ (.int .u8 (z.toNat : Int)) rfl) (fun j hj e => by have := h8.lt j hj; omega); have t10 := t9.set ⟨w8.heap.size, q * 32 + k, none⟩ (.int .u8 (z.toNat : Int)) t8.size; have HR10 := Lib.hid (show Row8 ((Lib.bytesWorld w8 5 (bs I0)).setCell ⟨w8.heap.size, q * 32 + k, none⟩ (.int .u8 (z.toNat : Int))) w8.heap.size I1 by rw [HI.out]; exact RW.set (q * 32 + k) z (by rw [HL.out]; exact HLT.out)); clear h8 t8 hb8 h9 t9 RW g12)
    | (go_at_call 21; (with_reducible refine (HI2.out _ _ _ h10).mono ?_); rintro e w11 ⟨rfl, b11⟩; have h11 := h10.below b11; have t11 := t10.below b11; have R11 := HR10.out.below b11; have htx : (convert 61 9 (.slice (some ⟨w8.heap.size, 0, none⟩) 384 (grownCap w8 384 0 5))).run Try.prog w11 = .ok (.string (bs I1)) w11 := R11.text (P := Try.prog) 61 9 5 (grownCap w8 384 0 5) Try.underlying61 Try.underlying5 Try.underlying9 384 HL1.out; clear h10 t10 R11 HR10)
    | (go_at_call 33; (with_reducible refine (HR2.out _ _ _ h11).mono ?_); rintro e w12 ⟨rfl, S12, h12, a12⟩; have t12 := t11.after a12; clear h11 t11)
    | (go_at_call 21; (with_reducible refine (HI1.out _ _ _ h12).mono ?_); rintro e w13 ⟨rfl, b13⟩; have h13 := h12.below b13; have t13 := t12.below b13; clear h12 t12))
  go_ret
  exact ⟨rfl, t13.bel⟩
end Go.Proofs.Ytgcbdekdjdlfaaa.Flash
