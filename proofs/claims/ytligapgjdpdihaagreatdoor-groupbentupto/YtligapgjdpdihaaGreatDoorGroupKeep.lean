/-
  Tables of the values of a drawn region that also writes.
-/
import Derived.Test.YtligapgjdpdihaaGreatDoorGroupLawsS
import Derived.Test.YtligapgjdpdihaaGreatDoorRunRegionKeep
set_option linter.unusedVariables false
set_option linter.unusedSimpArgs false
namespace Go.Proofs.YtligapgjdpdihaaGreatDoor.Group
open Go.RowKit
open Own Tup
open Go.Proofs.YtligapgjdpdihaaGreatDoor.Region (Keeps slotOf)
open Go.Proofs.YtligapgjdpdihaaGreatDoor.Frame (Fr)
theorem vt_keep {tab : List Value} {sp : List (Nat × Sp)} {KL : List (Nat × Nat)} {l : List Oper} {i : Nat} {w w' : World} (hb : Below w.heap.size w w') : Keeps (VT tab sp) KL l i w w' := fun _ _ _ _ _ h => VT.mono _ _ _ _ _ _ h hb
theorem mem_lookup : ∀ {sp : List (Nat × Sp)} {k : Nat} {s : Sp}, sp.lookup k = some s → (k, s) ∈ sp
  | [], k, s, h => by simp at h
  | (a, b) :: r, k, s, h => by
    rw [List.lookup_cons] at h
    cases e : k == a with
    | true =>
      rw [e] at h
      simp only [Option.some.injEq] at h
      subst h
      rw [beq_iff_eq] at e
      subst e
      exact List.mem_cons_self
    | false =>
      rw [e] at h
      exact List.mem_cons_of_mem _ (mem_lookup h)
theorem vt_keeps {tab : List Value} {sp : List (Nat × Sp)} {KL : List (Nat × Nat)} {l : List Oper} {i : Nat} {w w' : World} (h : ∀ x ∈ sp, x.1 ≠ i → (i, x.1) ∉ KL → ∀ u, x.2.p u w → x.2.p u w') : Keeps (VT tab sp) KL l i w w' := by
  intro k u hk hkl _ hv
  unfold VT at hv ⊢
  cases e : sp.lookup k with
  | none => rw [e] at hv; exact hv
  | some s => rw [e] at hv; exact h (k, s) (mem_lookup e) hk hkl u hv
theorem vt_keeps' {tab : List Value} {sp : List (Nat × Sp)} {KL : List (Nat × Nat)} {l : List Oper} {i : Nat} {w w' : World} (h : ∀ x ∈ sp, x.1 ≠ i → (i, x.1) ∉ KL → Region.waits l x.1 i = false → ∀ u, x.2.p u w → x.2.p u w') : Keeps (VT tab sp) KL l i w w' := by
  intro k u hk hkl hwt hv
  unfold VT at hv ⊢
  cases e : sp.lookup k with
  | none => rw [e] at hv; exact hv
  | some s => rw [e] at hv; exact h (k, s) (mem_lookup e) hk hkl hwt u hv
def trueSp : Sp := ⟨fun _ _ => True, fun _ _ _ _ _ => trivial⟩
theorem none_of {dst : List (Option Nat)} {tab : List Value} {sp : List (Nat × Sp)} (N : List Nat) (h1 : ((List.range dst.length).all fun i => (dst.getD i none).isSome || N.contains i) = true) (h2 : ∀ i ∈ N, sp.lookup i = some trueSp) :
    ∀ i, i < dst.length → dst.getD i none = none → ∀ v v' w, VT tab sp i v w → VT tab sp i v' w := by
  intro i hi hn v v' w _
  have := List.all_eq_true.1 h1 i (by simpa using hi)
  rw [hn] at this
  simp at this
  unfold VT
  rw [h2 i this]
  trivial
theorem none_any {dst : List (Option Nat)} {tab : List Value} {sp : List (Nat × Sp)} (N : List Nat) (h1 : ((List.range dst.length).all fun i => (dst.getD i none).isSome || N.contains i) = true) (h2 : ∀ i ∈ N, ∃ q : World → Prop, ∃ m, sp.lookup i = some ⟨fun _ w => q w, m⟩) :
    ∀ i, i < dst.length → dst.getD i none = none → ∀ v v' w, VT tab sp i v w → VT tab sp i v' w := by
  intro i hi hn v v' w hv
  have := List.all_eq_true.1 h1 i (by simpa using hi)
  rw [hn] at this
  simp at this
  obtain ⟨q, m, e⟩ := h2 i this
  unfold VT at hv ⊢
  rw [e] at hv ⊢
  exact hv
/-- a row of frames of one's own, whatever the slot -/
def rowIs (base g n c : Nat) (xs : List Value) : Sp := ⟨fun _ w => w.ownsRow base 29 4 (.slice (some ⟨g, 0, none⟩) n c) n xs, fun _ _ _ h hb => owns_below h hb⟩
/-- a pointer to a variable of four cells -/
def var4 (base : Nat) : Sp := ⟨fun v w => ∃ g : Nat, v = .pointer (some ⟨g, 0, none⟩) ∧ base ≤ g ∧ ∃ c0 c1 c2 c3, Var w g 27 [c0, c1, c2, c3], fun _ _ _ ⟨g, e, h0, c0, c1, c2, c3, h⟩ hb => ⟨g, e, h0, c0, c1, c2, c3, h.below hb h.lt⟩⟩
/-- a row of frames lies in no variable of a group -/
theorem row_var {w : World} {base : Nat} {v : Value} {n : Nat} {xs : List Value} (h : w.ownsRow base 29 4 v n xs) {g : Nat} {cs : List Value} (hv : Var w g 27 cs) : v.ownBlock ≠ some g := by
  rcases h.2 with ⟨rfl, _⟩ | ⟨g', cap, cur, rfl, _, hh, _⟩
  · simp [Value.ownBlock]
  · intro e
    simp only [Value.ownBlock, Option.some.injEq] at e
    subst e
    unfold Var at hv
    rw [hh] at hv
    simp at hv
theorem row_set {w : World} {base : Nat} {v : Value} {n : Nat} {xs : List Value} (h : w.ownsRow base 29 4 v n xs) {g : Nat} {cs : List Value} (hv : Var w g 27 cs) (j : Nat) (u : Value) : (w.setCell ⟨g, j, none⟩ u).ownsRow base 29 4 v n xs := by
  have hne := row_var h hv
  refine ⟨h.1, ?_⟩
  rcases h.2 with hn | ⟨g', cap, cur, e, hg, hh, r⟩
  · exact .inl hn
  · refine .inr ⟨g', cap, cur, e, hg, ?_, r⟩
    rw [Below.heap_setCell w ⟨g, j, none⟩ u g' (fun e2 => hne (by rw [e]; simp [Value.ownBlock]; exact e2))]
    exact hh
theorem var_set4 {w : World} {base : Nat} {v : Value} (h : (var4 base).p v w) {g : Nat} {cs : List Value} (hv : Var w g 27 cs) (j : Nat) (u : Value) : (var4 base).p v (w.setCell ⟨g, j, none⟩ u) := by
  obtain ⟨g', e, h0, c0, c1, c2, c3, h1⟩ := h
  by_cases he : g' = g
  · subst he
    have h2 := h1.set j u
    obtain ⟨d0, d1, d2, d3, hd⟩ : ∃ d0 d1 d2 d3, ([c0, c1, c2, c3] : List Value).set j u = [d0, d1, d2, d3] := by
      match j with
      | 0 => exact ⟨_, _, _, _, rfl⟩
      | 1 => exact ⟨_, _, _, _, rfl⟩
      | 2 => exact ⟨_, _, _, _, rfl⟩
      | 3 => exact ⟨_, _, _, _, rfl⟩
      | k + 4 => exact ⟨_, _, _, _, rfl⟩
    rw [hd] at h2
    exact ⟨g', e, h0, d0, d1, d2, d3, h2⟩
  · exact ⟨g', e, h0, c0, c1, c2, c3, Piece.Var.othr2 h1 ⟨g, j, none⟩ u he⟩
end Go.Proofs.YtligapgjdpdihaaGreatDoor.Group
