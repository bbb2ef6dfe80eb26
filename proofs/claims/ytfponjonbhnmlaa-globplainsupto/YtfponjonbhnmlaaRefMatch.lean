/-
  What the document's own matching answers: by the places at which the items up to one may end.
-/
import Derived.Test.YtfponjonbhnmlaaRefPartsB
import Derived.Test.YtfponjonbhnmlaaRefHas
import Derived.Deep.RegionHeld3
import Derived.StillTailTactics
namespace Go.Proofs.Ytfponjonbhnmlaa.RefGlob
open Go.RowKit
open RuneM RefRune Own RefKeys GlobM

theorem itemsX_at {w : World} : ∀ {its : List It} {xs : List Value}, ItemsX w xs its → ∀ i (hi : i < its.length), ∃ lo hi2, xs[i * 4]? = some (.int .i64 (its[i].kind : Int)) ∧ xs[i * 4 + 1]? = some (.bool its[i].neg) ∧ xs[i * 4 + 2]? = some lo ∧ xs[i * 4 + 3]? = some hi2 ∧ Mine w 0 3 lo (ns (its[i].sp.map (·.1))) ∧ Mine w 0 3 hi2 (ns (its[i].sp.map (·.2)))
  | [], _, _, i, hi => by simp at hi
  | it :: r, xs, ⟨cs, ys, e, ⟨lo, hi2, ec, h1, h2⟩, h⟩, 0, _ => by
    subst e ec
    exact ⟨lo, hi2, rfl, rfl, rfl, rfl, h1, h2⟩
  | it :: r, xs, ⟨cs, ys, e, ⟨lo, hi2, ec, h1, h2⟩, h⟩, i + 1, hi => by
    subst e ec
    obtain ⟨a, b, k⟩ := itemsX_at h i (by simpa using hi)
    refine ⟨a, b, ?_⟩
    have hh : ∀ d, ([Value.int .i64 (it.kind : Int), .bool it.neg, lo, hi2] ++ ys)[(i + 1) * 4 + d]? = ys[i * 4 + d]? := fun d => by
      rw [List.getElem?_append_right (by simp; omega)]
      congr 1; simp; omega
    have h0 := hh 0
    simp only [Nat.add_zero] at h0
    rw [h0, hh 1, hh 2, hh 3]
    exact k
theorem items_at {w : World} {base : Nat} {v : Value} {its : List It} (h : ItemsM w base v its) {i : Nat} (hi : i < its.length) : ∃ g cap lo hi2, v = .slice (some ⟨g, 0, none⟩) its.length cap ∧ w.cell? ⟨g, i * 4, none⟩ = some (.int .i64 (its[i].kind : Int)) ∧ w.cell? ⟨g, i * 4 + 1, none⟩ = some (.bool its[i].neg) ∧ w.cell? ⟨g, i * 4 + 2, none⟩ = some lo ∧ w.cell? ⟨g, i * 4 + 3, none⟩ = some hi2 ∧ Mine w 0 3 lo (ns (its[i].sp.map (·.1))) ∧ Mine w 0 3 hi2 (ns (its[i].sp.map (·.2))) := by
  obtain ⟨xs, ho, hX⟩ := h
  obtain ⟨lo, hi2, k0, k1, k2, k3, m1, m2⟩ := itemsX_at hX i hi
  rcases ho.2 with ⟨_, h0⟩ | ⟨g, cap, cur, rfl, _⟩
  · omega
  · refine ⟨g, cap, lo, hi2, rfl, ?_, ?_, ?_, ?_, m1, m2⟩
    · rw [ho.cellAt _ (by omega)]; exact k0
    · rw [ho.cellAt _ (by omega)]; exact k1
    · rw [ho.cellAt _ (by omega)]; exact k2
    · rw [ho.cellAt _ (by omega)]; exact k3
end Go.Proofs.Ytfponjonbhnmlaa.RefGlob
