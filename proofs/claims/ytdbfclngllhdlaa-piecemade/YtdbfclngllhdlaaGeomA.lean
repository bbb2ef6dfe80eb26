/-
  What the document's own geometry answers, of any numbers.
-/
import Derived.Test.YtdbfclngllhdlaaTup
import Derived.Test.YtdbfclngllhdlaaRegionTail
import Derived.Test.YtdbfclngllhdlaaRegionIs
import Derived.Deep.QuietTactic
import Derived.BigQuiet
set_option linter.unusedVariables false
set_option linter.unusedSimpArgs false
namespace Go.Proofs.Ytdbfclngllhdlaa.Geom
open Go.RowKit
open Own Tup
open Go.Proofs.Ytdbfclngllhdlaa.Region (fill Then Deps Each wp_region_is wp_region_is_tail)

structure Gm where
  page : Int
  pages : Int
  regions : Int
  deriving DecidableEq
/-- a geom as a value -/
def gV (g : Gm) : Value := .agg #[.int .i64 g.page, .int .i64 g.pages, .int .i64 g.regions]
def gC (g : Gm) : List Value := [.int .i64 g.page, .int .i64 g.pages, .int .i64 g.regions]
def rightG (g : Gm) : Bool := decide (32 ≤ g.page) && decide (g.page ≤ 128) && decide (3 ≤ g.pages) && decide (g.pages ≤ 10) && decide (4 ≤ g.regions) && decide (g.regions ≤ 12)
structure Small (g : Gm) : Prop where
  p0 : 32 ≤ g.page
  p1 : g.page ≤ 128
  s0 : 3 ≤ g.pages
  s1 : g.pages ≤ 10
  r0 : 4 ≤ g.regions
  r1 : g.regions ≤ 12
theorem right_small {g : Gm} : rightG g = true ↔ Small g := by
  unfold rightG
  simp only [Bool.and_eq_true, decide_eq_true_eq]
  exact ⟨fun h => ⟨h.1.1.1.1.1, h.1.1.1.1.2, h.1.1.1.2, h.1.1.2, h.1.2, h.2⟩, fun h => ⟨⟨⟨⟨⟨h.p0, h.p1⟩, h.s0⟩, h.s1⟩, h.r0⟩, h.r1⟩⟩
theorem bel_alloc (w : World) (o : Obj) : Below w.heap.size w (w.alloc o) := (Below.refl _ _).alloc (Nat.le_refl _) o
theorem bel0 {a w1 w2 : World} (h : Below a.heap.size a w1) (k : Below w1.heap.size w1 w2) : Below a.heap.size a w2 := h.trans (k.mono h.size)
theorem ret_bool {a b : Bool} (h : a = b) : Ending.returned (.bool a) = .returned (.bool b) := by rw [h]
theorem ret_int {k : IntKind} {a b : Int} (h : a = b) : Ending.returned (.int k a) = .returned (.int k b) := by rw [h]
theorem mul_le {a b A B : Int} (ha : 0 ≤ a) (h1 : a ≤ A) (hb : 0 ≤ b) (h2 : b ≤ B) : 0 ≤ a * b ∧ a * b ≤ A * B :=
  ⟨Int.mul_nonneg ha hb, Int.mul_le_mul h1 h2 hb (by omega)⟩
def sizeG (g : Gm) : Int := g.page * g.pages * g.regions
def roomG (g : Gm) : Int := g.page - 15
def slotsG (g : Gm) : Int := g.pages - 1
def mostG (g : Gm) : Int := (g.regions - 3) * (g.pages - 1)
def heldG (g : Gm) : Int := (g.regions - 2) * (g.pages - 1)
def clampG (n : Int) : Int := min (max n 1) 1048576
def needG (g : Gm) (n : Int) : Int := (clampG n + (g.page - 15) - 1) / (g.page - 15) + 1
end Go.Proofs.Ytdbfclngllhdlaa.Geom
