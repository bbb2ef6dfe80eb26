/-
  What the book's Geom answers: a small one, made of any numbers.
-/
import Derived.Test.YtdbfclngllhdlaaGeomA
import Derived.Test.YtdbfclngllhdlaaPick
set_option linter.unusedVariables false
set_option linter.unusedSimpArgs false
namespace Go.Proofs.Ytdbfclngllhdlaa.Geom
open Go.RowKit
open Own Tup
open Go.Proofs.Ytdbfclngllhdlaa.Region (fill Then Deps Each wp_region_is wp_region_is_tail)
def smallG (g : Gm) : Gm := ⟨32 + g.page % 33, 3 + g.pages % 4, 4 + g.regions % 4⟩
def pageG (g : Gm) (i s : Int) : Int × Bool := if rightG g = true ∧ 0 ≤ i ∧ i < g.regions ∧ 0 ≤ s ∧ s < g.pages then (i * g.pages + s, true) else (0, false)
def whereG (g : Gm) (n : Int) : Int × Int × Bool := if rightG g = true ∧ 0 ≤ n ∧ n < g.pages * g.regions then (n / g.pages, n % g.pages, true) else (0, 0, false)
theorem small_small (g : Gm) : Small (smallG g) := by
  unfold smallG
  refine ⟨?_, ?_, ?_, ?_, ?_, ?_⟩ <;> simp only <;> omega
end Go.Proofs.Ytdbfclngllhdlaa.Geom
