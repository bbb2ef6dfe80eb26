/-
  What the document's own geometry answers, of any numbers.
-/
import Derived.Test.YtlpjgfafecpbgaaTup
import Derived.Test.YtlpjgfafecpbgaaRegionTail
import Derived.Test.YtlpjgfafecpbgaaRegionIs
import Derived.Deep.QuietTactic
import Derived.BigQuiet
set_option linter.unusedVariables false
set_option linter.unusedSimpArgs false
namespace Go.Proofs.Ytlpjgfafecpbgaa.Geom
open Go.RowKit
open Own Tup
open Go.Proofs.Ytlpjgfafecpbgaa.Region (fill Then Deps Each wp_region_is wp_region_is_tail)

structure Gm where
  page : Int
  pages : Int
  regions : Int
  deriving DecidableEq
/-- a geom as a value -/
def gV (g : Gm) : Value := .agg #[.int .i64 g.page, .int .i64 g.pages, .int .i64 g.regions]
def gC (g : Gm) : List Value := [.int .i64 g.page, .int .i64 g.pages, .int .i64 g.regions]
def rightG (g : Gm) : Bool := decide (32 ≤ g.page) && decide (g.page ≤ 128) && decide (3 ≤ g.pages) && decide (g.pages ≤ 10) && decide (4 ≤ g.regions) && decide (g.regions ≤ 12)
structure Small (g : Gm) : Prop where
  p0 : 32 ≤ g.page
  p1 : g.page ≤ 128
  s0 : 3 ≤ g.pages
  s1 : g.pages ≤ 10
  r0 : 4 ≤ g.regions
  r1 : g.regions ≤ 12
theorem right_small {g : Gm} : rightG g = true ↔ Small g := by
  unfold rightG
  simp only [Bool.and_eq_true, decide_eq_true_eq]
  exact ⟨fun h => ⟨h.1.1.1.1.1, h.1.1.1.1.2, h.1.1.1.2, h.1.1.2, h.1.2, h.2⟩, fun h => ⟨⟨⟨⟨⟨h.p0, h.p1⟩, h.s0⟩, h.s1⟩, h.r0⟩, h.r1⟩⟩
theorem bel_alloc (w : World) (o : Obj) : Below w.heap.size w (w.alloc o) := (Below.refl _ _).alloc (Nat.le_refl _) o
theorem bel0 {a w1 w2 : World} (h : Below a.heap.size a w1) (k : Below w1.heap.size w1 w2) : Below a.heap.size a w2 := h.trans (k.mono h.size)
theorem ret_bool {a b : Bool} (h : a = b) : Ending.returned (.bool a) = .returned (.bool b) := by rw [h]
theorem ret_int {k : IntKind} {a b : Int} (h : a = b) : Ending.returned (.int k a) = .returned (.int k b) := by rw [h]
set_option maxRecDepth 100000 in
set_option maxHeartbeats 4000000 in
theorem refRight_any (g : Gm) (w : World) : Calls Try.prog 34 #[gV g] w fun e w' => e = .returned (.bool (rightG g)) ∧ Below w.heap.size w w' := by
  obtain ⟨p, q, r⟩ := g
  have hd : decide (32 ≤ p) = false ∨ (decide (32 ≤ p) = true ∧ decide (p ≤ 128) = false) ∨ (decide (32 ≤ p) = true ∧ decide (p ≤ 128) = true ∧ decide (3 ≤ q) = false) ∨ (decide (32 ≤ p) = true ∧ decide (p ≤ 128) = true ∧ decide (3 ≤ q) = true ∧ decide (q ≤ 10) = false)
    ∨ (decide (32 ≤ p) = true ∧ decide (p ≤ 128) = true ∧ decide (3 ≤ q) = true ∧ decide (q ≤ 10) = true ∧ decide (4 ≤ r) = false) ∨ (decide (32 ≤ p) = true ∧ decide (p ≤ 128) = true ∧ decide (3 ≤ q) = true ∧ decide (q ≤ 10) = true ∧ decide (4 ≤ r) = true ∧ decide (r ≤ 12) = false)
    ∨ (decide (32 ≤ p) = true ∧ decide (p ≤ 128) = true ∧ decide (3 ≤ q) = true ∧ decide (q ≤ 10) = true ∧ decide (4 ≤ r) = true ∧ decide (r ≤ 12) = true) := by
    simp only [decide_eq_true_eq, decide_eq_false_iff_not]; omega
  unfold gV
  rcases hd with h1 | ⟨h1, h2⟩ | ⟨h1, h2, h3⟩ | ⟨h1, h2, h3, h4⟩ | ⟨h1, h2, h3, h4, h5⟩ | ⟨h1, h2, h3, h4, h5, h6⟩ | ⟨h1, h2, h3, h4, h5, h6⟩
  all_goals
    go_enter Try.func34, Try.ntmps34
    go_wp2
    go_ret
    exact ⟨ret_bool (by unfold rightG; simp [*]), bel_alloc _ _⟩
theorem mul_le {a b A B : Int} (ha : 0 ≤ a) (h1 : a ≤ A) (hb : 0 ≤ b) (h2 : b ≤ B) : 0 ≤ a * b ∧ a * b ≤ A * B :=
  ⟨Int.mul_nonneg ha hb, Int.mul_le_mul h1 h2 hb (by omega)⟩
def sizeG (g : Gm) : Int := g.page * g.pages * g.regions
def roomG (g : Gm) : Int := g.page - 15
def slotsG (g : Gm) : Int := g.pages - 1
def mostG (g : Gm) : Int := (g.regions - 3) * (g.pages - 1)
def heldG (g : Gm) : Int := (g.regions - 2) * (g.pages - 1)
def clampG (n : Int) : Int := min (max n 1) 1048576
def needG (g : Gm) (n : Int) : Int := (clampG n + (g.page - 15) - 1) / (g.page - 15) + 1
theorem refRoom_any (g : Gm) (hg : Small g) (w : World) : Calls Try.prog 24 #[gV g] w fun e w' => e = .returned (.int .i64 (roomG g)) ∧ Below w.heap.size w w' := by
  obtain ⟨p0, p1, s0, s1, r0, r1⟩ := hg
  obtain ⟨p, q, r⟩ := g
  simp only at p0 p1 s0 s1 r0 r1
  have m1 := mul_le (show 0 ≤ p by omega) p1 (show 0 ≤ q by omega) s1
  have m2 := mul_le m1.1 m1.2 (show 0 ≤ r by omega) r1
  have m3 := mul_le (show 0 ≤ r - 3 by omega) (show r - 3 ≤ 9 by omega) (show 0 ≤ q - 1 by omega) (show q - 1 ≤ 9 by omega)
  have m4 := mul_le (show 0 ≤ r - 2 by omega) (show r - 2 ≤ 10 by omega) (show 0 ≤ q - 1 by omega) (show q - 1 ≤ 9 by omega)
  unfold gV
  go_enter Try.func24, Try.ntmps24
  go_wp2
  go_ret
  exact ⟨rfl, bel_alloc _ _⟩
end Go.Proofs.Ytlpjgfafecpbgaa.Geom
