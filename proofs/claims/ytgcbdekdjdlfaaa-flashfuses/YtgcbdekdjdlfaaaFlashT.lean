/-
  What the document's own device answers to Read and Program.
-/
import Derived.Test.YtgcbdekdjdlfaaaFlashS
set_option linter.unusedVariables false
set_option linter.unusedSimpArgs false
namespace Go.Proofs.Ytgcbdekdjdlfaaa.Flash
open Go.RowKit
open Go.Proofs.Ytgcbdekdjdlfaaa.Own
open Tup Bytes Foot
open Go.Proofs.Ytgcbdekdjdlfaaa.Region (fill Then Deps Each wp_region_is wp_region_is_tail)

theorem below_drewN (w : World) (k : Nat) : Below w.heap.size w (w.drewN k) := ⟨rfl, rfl, rfl, Nat.le_refl _, fun _ _ => rfl⟩
theorem bel2 {a w1 w2 : World} (h : Below a.heap.size a w1) (k : Below w1.heap.size w1 w2) : Below a.heap.size a w2 := h.trans (k.mono h.size)
theorem ret_code {s t : ByteArray} {a b : Nat} (h1 : s = t) (h2 : a = b) : Ending.returned (.tuple #[.string s, .int .i64 (a : Int)]) = .returned (.tuple #[.string t, .int .i64 (b : Int)]) := by rw [h1, h2]
theorem ret_nat {a b : Nat} (h : a = b) : Ending.returned (.int .i64 (a : Int)) = .returned (.int .i64 (b : Int)) := by rw [h]
/-- the device, with the blocks that it has -/
def RHas (w : World) (p : Nat) (d : Dev) (S : Nat → Prop) : Prop := ∃ bB cap wv fz, RAt w p d bB cap wv fz ∧ S = foot p bB wv
theorem RHas.below {w w' : World} {p : Nat} {d : Dev} {S : Nat → Prop} (h : RHas w p d S) (g : Below w.heap.size w w') : RHas w' p d S := by
  obtain ⟨a, b, c, f, h, rfl⟩ := h
  exact ⟨a, b, c, f, h.below g, rfl⟩
theorem RHas.grows {T S : Nat → Prop} {w w' : World} {p : Nat} {d : Dev} (h : RHas w p d S) (g : Grows T w w') (hn : ∀ k, S k → ¬ T k) : RHas w' p d S := by
  obtain ⟨a, b, c, f, h, rfl⟩ := h
  exact ⟨a, b, c, f, h.grows g hn, rfl⟩
theorem RHas.lt {w : World} {p : Nat} {d : Dev} {S : Nat → Prop} (h : RHas w p d S) : ∀ k, S k → k < w.heap.size := by
  obtain ⟨a, b, c, f, h, rfl⟩ := h
  exact h.foot_lt
theorem has_cases (d : Dev) (q : Int) : (decide (q < 0) = true ∧ d.has q = false) ∨ (decide (q < 0) = false ∧ decide ((d.n : Int) ≤ q) = true ∧ d.has q = false) ∨ (decide (q < 0) = false ∧ decide ((d.n : Int) ≤ q) = false ∧ d.has q = true) := by
  unfold Dev.has
  by_cases h1 : q < 0 <;> by_cases h2 : (d.n : Int) ≤ q
  · left; simp [h1] <;> omega
  · left; simp [h1] <;> omega
  · right; left; simp [h1, h2] <;> omega
  · right; right; simp [h1, h2] <;> omega
set_option maxRecDepth 100000 in
theorem refRead_any {w : World} {p : Nat} {d : Dev} {bB cap : Nat} {wv : Value} {fz : Nat} (h : RAt w p d bB cap wv fz) (hd : d.Ok) (q : Int) :
    Calls Try.prog 42 #[ptr p, .int .i64 q] w fun e w' => e = .returned (.tuple #[.string (bs (readD d q).1), .int .i64 ((readD d q).2 : Int)]) ∧ Below w.heap.size w w' := by
  have c7 := h.var.cell (j := 7) rfl
  have HP := Lib.hid (fun w' (hb : Below w.heap.size w w') => refPages_any (h.below hb) hd)
  have HH := Lib.hid (fun w' (hb : Below w.heap.size w w') k hk => refHeld_any (h.below hb) hd k hk)
  unfold ptr at HP HH ⊢
  rcases hdn : d.down with _ | _
  · rw [hdn] at c7
    rcases has_cases d q with ⟨h1, h2⟩ | ⟨h1, h2, h3⟩ | ⟨h1, h2, h3⟩
    · have HE := Lib.hid (show readD d q = ([], 1) by unfold readD; rw [hdn, h2]; rfl)
      clear h hdn h2
      go_enter Try.func42, Try.ntmps42
      go_wp2
      go_ret2
      rw [HE.out]
      exact ⟨rfl, Below.refl _ _⟩
    · have HE := Lib.hid (show readD d q = ([], 1) by unfold readD; rw [hdn, h3]; rfl)
      clear h hdn h3
      go_enter Try.func42, Try.ntmps42
      go_wp2_with (go_at_call 60; (with_reducible refine (HP.out _ (Below.refl _ _)).mono ?_); rintro e w3 ⟨rfl, k3, rfl⟩)
      go_ret2
      rw [HE.out]
      exact ⟨rfl, below_drewN _ _⟩
    · obtain ⟨i1, i2⟩ := has_lt h3
      obtain ⟨k, rfl⟩ : ∃ k : Nat, q = (k : Int) := ⟨q.toNat, by omega⟩
      rw [Int.toNat_natCast] at i1
      have HE := Lib.hid (show readD d k = (d.held k, 0) by unfold readD; rw [hdn, h3, Int.toNat_natCast]; rfl)
      have HK := Lib.hid i1
      have h4 : decide (d.n ≤ k) = false := by simp; omega
      clear h hdn h3 i1 i2
      go_enter Try.func42, Try.ntmps42
      go_wp2_with (first
        | (go_at_call 60; (with_reducible refine (HP.out _ (Below.refl _ _)).mono ?_); rintro e w3 ⟨rfl, k3, rfl⟩)
        | (go_at_call 61; (with_reducible refine (HH.out _ (below_drewN _ _) k HK.out).mono ?_); rintro e w4 ⟨rfl, hb4⟩))
      go_ret2
      rw [HE.out]
      exact ⟨rfl, bel2 (below_drewN _ _) hb4⟩
  · rw [hdn] at c7
    have HE := Lib.hid (show readD d q = ([], 6) by unfold readD; rw [hdn]; rfl)
    clear h hdn
    go_enter Try.func42, Try.ntmps42
    go_wp2
    go_ret2
    rw [HE.out]
    exact ⟨rfl, Below.refl _ _⟩
end Go.Proofs.Ytgcbdekdjdlfaaa.Flash
