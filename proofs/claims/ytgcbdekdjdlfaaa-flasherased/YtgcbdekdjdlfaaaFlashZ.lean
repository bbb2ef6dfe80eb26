/-
  What the document's own device does where an erase blows: one page more is pending.
-/
import Derived.Test.YtgcbdekdjdlfaaaFlashY
import Derived.Test.YtgcbdekdjdlfaaaRegion3
set_option linter.unusedVariables false
set_option linter.unusedSimpArgs false
namespace Go.Proofs.Ytgcbdekdjdlfaaa.Flash
open Go.RowKit
open Go.Proofs.Ytgcbdekdjdlfaaa.Own
open Tup Bytes Foot
open Go.Proofs.Ytgcbdekdjdlfaaa.Region (fill Then Deps2 Each2 Owes upd put wp_region_each3 slots)

def pairs : List (Nat × Nat) := [(2, 1), (3, 2), (4, 3), (7, 6), (8, 7), (9, 8), (10, 9), (11, 10), (12, 5), (12, 11), (13, 12)]
/-- behind some of the operations of 'f.Wait = append(f.Wait, wait{i, Fill(255, n)})' -/
def EJ (wr : World) (p : Nat) (tab : List Value) (cs : List Value) (AP : World → Value → Prop) (d : Nat → Bool) (ys : Nat → Value) (wx : World) : Prop :=
  (∀ i, i < 17 → i ≠ 13 → i ≠ 14 → d i = true → ys (83 + i) = tab.getD i undef) ∧ (∀ x ∈ pairs, d x.1 = true → d x.2 = true)
  ∧ ((d 14 = false ∧ d 17 = false ∧ Below wr.heap.size wr wx ∧ (d 13 = true → ∃ g0, ys 96 = .slice (some ⟨g0, 0, none⟩) 1 1 ∧ Lies wx g0 0 cs))
    ∨ ((∀ i, 1 ≤ i → i < 14 → d i = true) ∧ d 14 = true ∧ ∃ w6, AP w6 (ys 97) ∧ w6.cell? ⟨p, 4, none⟩ ≠ none ∧ w6.frozen? ⟨p, 4, none⟩ = false ∧ ((d 17 = false ∧ wx = w6) ∨ (d 17 = true ∧ wx = w6.setCell ⟨p, 4, none⟩ (ys 97)))))
theorem upd_ne {d : Nat → Bool} {i j : Nat} (h : j ≠ i) : upd d i j = d j := by unfold upd; rw [if_neg h]
theorem upd_eq (d : Nat → Bool) (i : Nat) : upd d i i = true := by unfold upd; rw [if_pos rfl]
theorem put_ne {ys : Nat → Value} {s t : Nat} (v : Value) (h : t ≠ s) : put ys (some s) v t = ys t := by show (if t = s then v else ys t) = ys t; rw [if_neg h]
theorem put_eq (ys : Nat → Value) (s : Nat) (v : Value) : put ys (some s) v s = v := by show (if s = s then v else ys s) = v; rw [if_pos rfl]
theorem no_pair {d : Nat → Bool} {i : Nat} (h : (pairs.all fun x => x.1 != i) = true) : ∀ x ∈ pairs, x.1 = i → d x.2 = true := fun x hx e => absurd e (by simpa using List.all_eq_true.1 h x hx)
theorem closed_upd {d : Nat → Bool} {i : Nat} (h : ∀ x ∈ pairs, d x.1 = true → d x.2 = true) (hi : ∀ x ∈ pairs, x.1 = i → d x.2 = true) : ∀ x ∈ pairs, upd d i x.1 = true → upd d i x.2 = true := by
  intro x hx hd
  by_cases e2 : x.2 = i
  · rw [e2]; exact upd_eq _ _
  · rw [upd_ne e2]
    by_cases e1 : x.1 = i
    · exact hi x hx e1
    · rw [upd_ne e1] at hd; exact h x hx hd
theorem closed_all {d : Nat → Bool} (h : ∀ x ∈ pairs, d x.1 = true → d x.2 = true) (h4 : d 4 = true) (h13 : d 13 = true) : ∀ i, 1 ≤ i → i < 14 → d i = true := by
  have k := fun a b (m : (a, b) ∈ pairs) => h (a, b) m
  have h3 := k 4 3 (by decide) h4
  have h2 := k 3 2 (by decide) h3
  have h1 := k 2 1 (by decide) h2
  have h12 := k 13 12 (by decide) h13
  have h5 := k 12 5 (by decide) h12
  have h11 := k 12 11 (by decide) h12
  have h10 := k 11 10 (by decide) h11
  have h9 := k 10 9 (by decide) h10
  have h8 := k 9 8 (by decide) h9
  have h7 := k 8 7 (by decide) h8
  have h6 := k 7 6 (by decide) h7
  intro i a b
  match i, a, b with
  | 1, _, _ => exact h1
  | 2, _, _ => exact h2
  | 3, _, _ => exact h3
  | 4, _, _ => exact h4
  | 5, _, _ => exact h5
  | 6, _, _ => exact h6
  | 7, _, _ => exact h7
  | 8, _, _ => exact h8
  | 9, _, _ => exact h9
  | 10, _, _ => exact h10
  | 11, _, _ => exact h11
  | 12, _, _ => exact h12
  | 13, _, _ => exact h13
theorem EJ.tabs {wr : World} {p : Nat} {tab cs : List Value} {AP : World → Value → Prop} {d : Nat → Bool} {ys : Nat → Value} {wx : World} (h : EJ wr p tab cs AP d ys wx) {i : Nat} (hi : i < 17) (h13 : i ≠ 13) (h14 : i ≠ 14) {v : Value} (hv : v = tab.getD i undef) :
    ∀ j, j < 17 → j ≠ 13 → j ≠ 14 → upd d i j = true → put ys (some (83 + i)) v (83 + j) = tab.getD j undef := by
  intro j hj a b hd
  by_cases e : j = i
  · subst e; rw [put_eq]; exact hv
  · rw [put_ne v (by omega)]
    rw [upd_ne e] at hd
    exact h.1 j hj a b hd
theorem EJ.early {wr : World} {p : Nat} {tab cs : List Value} {AP : World → Value → Prop} {d : Nat → Bool} {ys : Nat → Value} {wx : World} (h : EJ wr p tab cs AP d ys wx) {i : Nat} (h1 : 1 ≤ i) (hi : i < 14) (hd : d i = false) :
    d 14 = false ∧ d 17 = false ∧ Below wr.heap.size wr wx ∧ (d 13 = true → ∃ g0, ys 96 = .slice (some ⟨g0, 0, none⟩) 1 1 ∧ Lies wx g0 0 cs) := by
  rcases h.2.2 with x | ⟨x, _⟩
  · exact x
  · rw [x i h1 hi] at hd; simp at hd
theorem EJ.front {wr : World} {p : Nat} {tab cs : List Value} {AP : World → Value → Prop} {d : Nat → Bool} {ys : Nat → Value} {wx wy : World} (h : EJ wr p tab cs AP d ys wx) {i : Nat} (h1 : 1 ≤ i) (hi : i < 13) (hd : d i = false) (hc : ∀ x ∈ pairs, x.1 = i → d x.2 = true) {v : Value} (hv : v = tab.getD i undef) (hb : Below wx.heap.size wx wy) :
    EJ wr p tab cs AP (upd d i) (put ys (some (83 + i)) v) wy := by
  refine ⟨h.tabs (by omega) (by omega) (by omega) hv, closed_upd h.2.1 hc, .inl ?_⟩
  obtain ⟨a, b, c, e⟩ := h.early h1 (by omega) hd
  rw [upd_ne (by omega), upd_ne (by omega), upd_ne (by omega), put_ne v (by omega)]
  refine ⟨a, b, c.trans (hb.mono c.size), fun x => ?_⟩
  obtain ⟨g0, y1, y2⟩ := e x
  exact ⟨g0, y1, y2.below hb⟩
theorem EJ.idle {wr : World} {p : Nat} {tab cs : List Value} {AP : World → Value → Prop} {d : Nat → Bool} {ys : Nat → Value} {wx : World} (h : EJ wr p tab cs AP d ys wx) {i : Nat} (hi : i = 0 ∨ i = 15 ∨ i = 16) {v : Value} (hv : v = tab.getD i undef) :
    EJ wr p tab cs AP (upd d i) (put ys (some (83 + i)) v) wx := by
  refine ⟨h.tabs (by omega) (by omega) (by omega) hv, closed_upd h.2.1 (by rcases hi with rfl | rfl | rfl <;> exact no_pair (by decide)), ?_⟩
  rw [upd_ne (by omega), upd_ne (by omega), upd_ne (by omega), put_ne v (by omega), put_ne v (by omega)]
  rcases h.2.2 with x | ⟨x, y⟩
  · exact .inl x
  · exact .inr ⟨fun j h1 hj => by rw [upd_ne (by omega)]; exact x j h1 hj, y⟩
theorem EJ.build {wr : World} {p : Nat} {tab cs : List Value} {AP : World → Value → Prop} {d : Nat → Bool} {ys : Nat → Value} {wx wy : World} (h : EJ wr p tab cs AP d ys wx) (hd : d 13 = false) (h12 : d 12 = true) {g0 : Nat} (hl : Lies wy g0 0 cs) (hb : Below wx.heap.size wx wy) :
    EJ wr p tab cs AP (upd d 13) (put ys (some 96) (.slice (some ⟨g0, 0, none⟩) 1 1)) wy := by
  refine ⟨fun j hj a b hdj => ?_, closed_upd h.2.1 (by intro x hx e; simp only [pairs, List.mem_cons, List.not_mem_nil, or_false] at hx; rcases hx with rfl | rfl | rfl | rfl | rfl | rfl | rfl | rfl | rfl | rfl | rfl <;> first | exact h12 | (simp at e)), .inl ?_⟩
  · rw [put_ne _ (by omega)]
    rw [upd_ne a] at hdj
    exact h.1 j hj a b hdj
  · obtain ⟨a, b, c, _⟩ := h.early (by omega) (by omega) hd
    rw [upd_ne (by omega), upd_ne (by omega), put_eq]
    exact ⟨a, b, c.trans (hb.mono c.size), fun _ => ⟨g0, rfl, hl⟩⟩
theorem EJ.append {wr : World} {p : Nat} {tab cs : List Value} {AP : World → Value → Prop} {d : Nat → Bool} {ys : Nat → Value} {wx wy : World} (h : EJ wr p tab cs AP d ys wx) (hall : ∀ i, 1 ≤ i → i < 14 → d i = true) (h17 : d 17 = false) {v : Value} (hA : AP wy v) (hc : wy.cell? ⟨p, 4, none⟩ ≠ none) (hf : wy.frozen? ⟨p, 4, none⟩ = false) :
    EJ wr p tab cs AP (upd d 14) (put ys (some 97) v) wy := by
  refine ⟨fun j hj a b hdj => ?_, closed_upd h.2.1 (no_pair (by decide)), .inr ⟨fun i h1 hi => by rw [upd_ne (by omega)]; exact hall i h1 hi, upd_eq _ _, wy, ?_, hc, hf, .inl ⟨?_, rfl⟩⟩⟩
  · rw [put_ne _ (by omega)]
    rw [upd_ne b] at hdj
    exact h.1 j hj a b hdj
  · rw [put_eq]; exact hA
  · rw [upd_ne (by omega)]; exact h17
theorem EJ.store {wr : World} {p : Nat} {tab cs : List Value} {AP : World → Value → Prop} {d : Nat → Bool} {ys : Nat → Value} {wx : World} (h : EJ wr p tab cs AP d ys wx) (h14 : d 14 = true) (h17 : d 17 = false) (v : Value) :
    EJ wr p tab cs AP (upd d 17) (put ys none v) (wx.setCell ⟨p, 4, none⟩ (ys 97)) := by
  refine ⟨fun j hj a b hdj => ?_, closed_upd h.2.1 (no_pair (by decide)), ?_⟩
  · rw [upd_ne (by omega)] at hdj
    exact h.1 j hj a b hdj
  · rcases h.2.2 with ⟨x, _⟩ | ⟨x, y, w6, hA, hc, hf, ⟨_, e⟩ | ⟨e, _⟩⟩
    · rw [h14] at x; simp at x
    · refine .inr ⟨fun i h1 hi => by rw [upd_ne (by omega)]; exact x i h1 hi, by rw [upd_ne (by omega)]; exact y, w6, hA, hc, hf, .inr ⟨upd_eq _ _, ?_⟩⟩
      rw [e]; rfl
    · rw [h17] at e; simp at e
end Go.Proofs.Ytgcbdekdjdlfaaa.Flash
