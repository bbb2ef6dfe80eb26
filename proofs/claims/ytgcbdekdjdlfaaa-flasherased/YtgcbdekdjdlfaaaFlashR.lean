/-
  The document's own device in memory, and what its small calls answer.
-/
import Derived.Test.YtgcbdekdjdlfaaaFlashA
import Derived.Test.YtgcbdekdjdlfaaaRegion2
set_option linter.unusedVariables false
set_option linter.unusedSimpArgs false
namespace Go.Proofs.Ytgcbdekdjdlfaaa.Flash
open Go.RowKit
open Go.Proofs.Ytgcbdekdjdlfaaa.Own
open Tup Bytes Foot

theorem _root_.Go.Proofs.Ytgcbdekdjdlfaaa.Bytes.Row8.grows {S : Nat → Prop} {w w' : World} {B : Nat} {l : List UInt8} (h : Row8 w B l) (g : Grows S w w') (hn : ¬ S B) : Row8 w' B l := fun j hj => by
  have hB : B < w.heap.size := block_lt_of_cell (h j hj).1
  have e := g.block B hB hn
  obtain ⟨h1, h2⟩ := h j hj
  simp only [World.cell?, World.frozen?] at h1 h2 ⊢
  rw [e]; exact ⟨h1, h2⟩
theorem owns_grows {S : Nat → Prop} {w w' : World} {base : Nat} {e : TypeId} {size : Nat} {v : Value} {n : Nat} {xs : List Value} (h : w.ownsRow base e size v n xs) (g : Grows S w w') (hn : ∀ k, v.ownBlock = some k → ¬ S k) : w'.ownsRow base e size v n xs := by
  refine ⟨h.1, ?_⟩
  rcases h.2 with hv | ⟨b, cap, cur, hv, hg, hh, r⟩
  · exact .inl hv
  · refine .inr ⟨b, cap, cur, hv, hg, ?_, r⟩
    rw [g.block b (Array.getElem?_eq_some_iff.1 hh).1 (hn b (by rw [hv]; rfl))]; exact hh
theorem owns_lt {w : World} {base : Nat} {e : TypeId} {size : Nat} {v : Value} {n : Nat} {xs : List Value} (h : w.ownsRow base e size v n xs) {k : Nat} (hk : v.ownBlock = some k) : k < w.heap.size := by
  rcases h.2 with ⟨hv, _⟩ | ⟨b, cap, cur, hv, hg, hh, r⟩
  · rw [hv] at hk; simp [Value.ownBlock] at hk
  · rw [hv] at hk
    have : b = k := by simpa [Value.ownBlock] using hk
    subst this
    exact (Array.getElem?_eq_some_iff.1 hh).1
/-- what is pending, as cells -/
def waitC (l : List (Nat × List UInt8)) : List Value := l.flatMap fun x => [.int .i64 (x.1 : Int), .string (bs x.2)]
theorem waitC_length (l : List (Nat × List UInt8)) : (waitC l).length = l.length * 2 := by
  induction l with
  | nil => rfl
  | cons x r ih => simp only [waitC, List.flatMap_cons, List.length_append] at ih ⊢; simp only [List.length_cons, List.length_nil, ih]; omega
theorem waitC_append (a b : List (Nat × List UInt8)) : waitC (a ++ b) = waitC a ++ waitC b := by simp [waitC]
theorem waitC_get {l : List (Nat × List UInt8)} {k : Nat} (h : k < l.length) : (waitC l)[2 * k]? = some (.int .i64 (l[k].1 : Int)) ∧ (waitC l)[2 * k + 1]? = some (.string (bs l[k].2)) := by
  induction l generalizing k with
  | nil => simp at h
  | cons x r ih =>
    cases k with
    | zero => exact ⟨rfl, rfl⟩
    | succ k =>
      have := ih (k := k) (by simpa using h)
      simp only [waitC, List.flatMap_cons] at this ⊢
      rw [show 2 * (k + 1) = 2 * k + 2 by omega, show 2 * k + 2 + 1 = (2 * k + 1) + 2 by omega]
      exact this
/-- the document's device, at p: its bytes at bB, what is pending in wv -/
structure RAt (w : World) (p : Nat) (d : Dev) (bB cap : Nat) (wv : Value) (fz : Nat) : Prop where
  var : Var w p 69 [.int .i64 (d.pg : Int), .int .i64 (d.pgs : Int), .int .i64 (d.rgs : Int), .slice (some ⟨bB, 0, none⟩) d.img.length cap, wv, .bool d.fuse.isSome, .int .i64 (fz : Int), .bool d.down]
  row : Row8 w bB d.img
  lt : bB < w.heap.size
  wait : w.ownsRow 0 83 2 wv d.wait.length (waitC d.wait)
  fuz : ∀ k, d.fuse = some k → fz = k
  fuz0 : fz < 9223372036854775808
  capl : d.img.length ≤ cap
  ne1 : bB ≠ p
  ne2 : wv.ownBlock ≠ some p
  ne3 : wv.ownBlock ≠ some bB
/-- the blocks that it has -/
def foot (p bB : Nat) (wv : Value) : Nat → Prop := fun k => k = p ∨ k = bB ∨ wv.ownBlock = some k
/-- a call that only reads, and makes memory -/
theorem RAt.grows {S : Nat → Prop} {w w' : World} {p : Nat} {d : Dev} {bB cap : Nat} {wv : Value} {fz : Nat} (h : RAt w p d bB cap wv fz) (g : Grows S w w') (hn : ∀ k, foot p bB wv k → ¬ S k) : RAt w' p d bB cap wv fz :=
  ⟨g.var h.var (hn p (.inl rfl)), h.row.grows g (hn bB (.inr (.inl rfl))), Nat.lt_of_lt_of_le h.lt g.size, owns_grows h.wait g (fun k hk => hn k (.inr (.inr hk))), h.fuz, h.fuz0, h.capl, h.ne1, h.ne2, h.ne3⟩
theorem RAt.below {w w' : World} {p : Nat} {d : Dev} {bB cap : Nat} {wv : Value} {fz : Nat} (h : RAt w p d bB cap wv fz) (g : Below w.heap.size w w') : RAt w' p d bB cap wv fz := h.grows (Grows.of_below (S := fun _ => False) g) (fun _ _ x => x)
theorem RAt.foot_lt {w : World} {p : Nat} {d : Dev} {bB cap : Nat} {wv : Value} {fz : Nat} (h : RAt w p d bB cap wv fz) : ∀ k, foot p bB wv k → k < w.heap.size := by
  rintro k (rfl | rfl | hk)
  · exact h.var.lt
  · exact h.lt
  · exact owns_lt h.wait hk
/-- what stands at p is turned alone -/
theorem RAt.turn {w w' : World} {p : Nat} {d e : Dev} {bB cap : Nat} {wv : Value} {fz fy : Nat} (h : RAt w p d bB cap wv fz) (g : Grows (· = p) w w')
    (hv : Var w' p 69 [.int .i64 (e.pg : Int), .int .i64 (e.pgs : Int), .int .i64 (e.rgs : Int), .slice (some ⟨bB, 0, none⟩) e.img.length cap, wv, .bool e.fuse.isSome, .int .i64 (fy : Int), .bool e.down])
    (hi : e.img = d.img) (hw : e.wait = d.wait) (hf : ∀ k, e.fuse = some k → fy = k) (hf0 : fy < 9223372036854775808) : RAt w' p e bB cap wv fy :=
  ⟨hv, by rw [hi]; exact h.row.grows g h.ne1, Nat.lt_of_lt_of_le h.lt g.size, by rw [hw]; exact owns_grows h.wait g (fun k hk e => h.ne2 (by rw [← e]; exact hk)), hf, hf0, by rw [hi]; exact h.capl, h.ne1, h.ne2, h.ne3⟩
def ptr (p : Nat) : Value := .pointer (some ⟨p, 0, none⟩)
set_option maxRecDepth 100000 in
theorem refPages_any {w : World} {p : Nat} {d : Dev} {bB cap : Nat} {wv : Value} {fz : Nat} (h : RAt w p d bB cap wv fz) (hd : d.Ok) :
    Calls Try.prog 60 #[ptr p] w fun e w' => e = .returned (.int .i64 (d.n : Int)) ∧ ∃ k, w' = w.drewN k := by
  have c1 := h.var.cell (j := 1) rfl
  have c2 := h.var.cell (j := 2) rfl
  have hm : 0 ≤ (d.pgs : Int) * (d.rgs : Int) ∧ (d.pgs : Int) * (d.rgs : Int) ≤ 120 := by
    have := hd.n_le
    unfold Dev.n at this
    constructor
    · exact Int.mul_nonneg (by omega) (by omega)
    · rw [← Int.natCast_mul]; omega
  have HV := Lib.hid (show Ending.returned (.int .i64 ((d.pgs : Int) * (d.rgs : Int))) = .returned (.int .i64 (d.n : Int)) by unfold Dev.n; rw [Int.natCast_mul])
  clear h hd
  unfold ptr
  go_enter Try.func60, Try.ntmps60
  go_wp2
  go_quiet (fail)
  go_wp2
  go_ret
  exact ⟨HV.out, _, rfl⟩
set_option maxRecDepth 100000 in
theorem refBlows_any {w : World} {p : Nat} {d : Dev} {bB cap : Nat} {wv : Value} {fz : Nat} (h : RAt w p d bB cap wv fz) :
    Calls Try.prog 58 #[ptr p] w fun e w' => e = .returned (.bool d.blow.1) ∧ Grows (· = p) w w' ∧ ∃ fy, RAt w' p d.blow.2 bB cap wv fy := by
  have c5 := h.var.cell (j := 5) rfl
  have c6 := h.var.cell (j := 6) rfl
  have c7 := h.var.cell (j := 7) rfl
  have f6 := h.var.frozen 6
  have f7 := h.var.frozen 7
  have HA := Lib.hid h
  unfold ptr
  rcases hf : d.fuse with _ | k
  · rw [hf] at c5
    have HE := Lib.hid (show d.blow = (false, d) by unfold Dev.blow; rw [hf])
    clear h hf
    go_enter Try.func58, Try.ntmps58
    go_wp2
    go_ret
    rw [HE.out]
    exact ⟨rfl, .refl _ _, fz, HA.out⟩
  · obtain rfl := h.fuz k hf
    rw [hf] at c5
    cases fz with
    | zero =>
      have HE := Lib.hid (show d.blow = (true, { d with down := true }) by unfold Dev.blow; rw [hf])
      have HF := Lib.hid hf
      clear h hf
      go_enter Try.func58, Try.ntmps58
      go_wp2
      go_ret
      rw [HE.out]
      refine ⟨rfl, Grows.set _ _ _ rfl, 0, HA.out.turn (Grows.set _ _ _ rfl) ?_ rfl rfl HA.out.fuz HA.out.fuz0⟩
      exact HA.out.var.set 7 (.bool true)
    | succ k =>
      have HE := Lib.hid (show d.blow = (false, { d with fuse := some k }) by unfold Dev.blow; rw [hf])
      have HF := Lib.hid hf
      have b0 := h.fuz0
      have d1 : (((k + 1 : Nat) : Int) == 0) = false := by simp; omega
      have HS := Lib.hid (show ((k + 1 : Nat) : Int) - 1 = (k : Int) by omega)
      have c6' : w.cell? ⟨p, 6, none⟩ = some (.int .i64 ((k + 1 : Nat) : Int)) := c6
      generalize hz : ((k + 1 : Nat) : Int) = z at *
      clear h hf c6
      go_enter Try.func58, Try.ntmps58
      go_wp2
      go_ret
      rw [HE.out]
      refine ⟨rfl, Grows.set _ _ _ rfl, k, HA.out.turn (Grows.set _ _ _ rfl) ?_ rfl rfl (by intro j hj; simpa using hj) (by have := HA.out.fuz0; omega)⟩
      have := HA.out.var.set 6 (.int .i64 (z - 1))
      rw [HF.out] at this
      rw [HS.out] at this ⊢
      exact this
end Go.Proofs.Ytgcbdekdjdlfaaa.Flash
