/-
  What the document's own geometry answers, of any numbers.
-/
import Derived.Test.YtmkdhehdfdkbjaaTup
import Derived.Test.YtmkdhehdfdkbjaaRegionTail
import Derived.Test.YtmkdhehdfdkbjaaRegionIs
import Derived.Deep.QuietTactic
import Derived.BigQuiet
set_option linter.unusedVariables false
set_option linter.unusedSimpArgs false
namespace Go.Proofs.Ytmkdhehdfdkbjaa.Geom
open Go.RowKit
open Own Tup
open Go.Proofs.Ytmkdhehdfdkbjaa.Region (fill Then Deps Each wp_region_is wp_region_is_tail)

structure Gm where
  page : Int
  pages : Int
  regions : Int
  deriving DecidableEq
/-- a geom as a value -/
def gV (g : Gm) : Value := .agg #[.int .i64 g.page, .int .i64 g.pages, .int .i64 g.regions]
def gC (g : Gm) : List Value := [.int .i64 g.page, .int .i64 g.pages, .int .i64 g.regions]
def rightG (g : Gm) : Bool := decide (32 ≤ g.page) && decide (g.page ≤ 128) && decide (3 ≤ g.pages) && decide (g.pages ≤ 10) && decide (4 ≤ g.regions) && decide (g.regions ≤ 12)
structure Small (g : Gm) : Prop where
  p0 : 32 ≤ g.page
  p1 : g.page ≤ 128
  s0 : 3 ≤ g.pages
  s1 : g.pages ≤ 10
  r0 : 4 ≤ g.regions
  r1 : g.regions ≤ 12
theorem right_small {g : Gm} : rightG g = true ↔ Small g := by
  unfold rightG
  simp only [Bool.and_eq_true, decide_eq_true_eq]
  exact ⟨fun h => ⟨h.1.1.1.1.1, h.1.1.1.1.2, h.1.1.1.2, h.1.1.2, h.1.2, h.2⟩, fun h => ⟨⟨⟨⟨⟨h.p0, h.p1⟩, h.s0⟩, h.s1⟩, h.r0⟩, h.r1⟩⟩
theorem bel_alloc (w : World) (o : Obj) : Below w.heap.size w (w.alloc o) := (Below.refl _ _).alloc (Nat.le_refl _) o
theorem bel0 {a w1 w2 : World} (h : Below a.heap.size a w1) (k : Below w1.heap.size w1 w2) : Below a.heap.size a w2 := h.trans (k.mono h.size)
theorem ret_bool {a b : Bool} (h : a = b) : Ending.returned (.bool a) = .returned (.bool b) := by rw [h]
theorem ret_int {k : IntKind} {a b : Int} (h : a = b) : Ending.returned (.int k a) = .returned (.int k b) := by rw [h]
set_option maxRecDepth 100000 in
set_option maxHeartbeats 4000000 in
theorem refRight_any (g : Gm) (w : World) : Calls Try.prog 17 #[gV g] w fun e w' => e = .returned (.bool (rightG g)) ∧ Below w.heap.size w w' := by
  obtain ⟨p, q, r⟩ := g
  have hd : decide (32 ≤ p) = false ∨ (decide (32 ≤ p) = true ∧ decide (p ≤ 128) = false) ∨ (decide (32 ≤ p) = true ∧ decide (p ≤ 128) = true ∧ decide (3 ≤ q) = false) ∨ (decide (32 ≤ p) = true ∧ decide (p ≤ 128) = true ∧ decide (3 ≤ q) = true ∧ decide (q ≤ 10) = false)
    ∨ (decide (32 ≤ p) = true ∧ decide (p ≤ 128) = true ∧ decide (3 ≤ q) = true ∧ decide (q ≤ 10) = true ∧ decide (4 ≤ r) = false) ∨ (decide (32 ≤ p) = true ∧ decide (p ≤ 128) = true ∧ decide (3 ≤ q) = true ∧ decide (q ≤ 10) = true ∧ decide (4 ≤ r) = true ∧ decide (r ≤ 12) = false)
    ∨ (decide (32 ≤ p) = true ∧ decide (p ≤ 128) = true ∧ decide (3 ≤ q) = true ∧ decide (q ≤ 10) = true ∧ decide (4 ≤ r) = true ∧ decide (r ≤ 12) = true) := by
    simp only [decide_eq_true_eq, decide_eq_false_iff_not]; omega
  unfold gV
  rcases hd with h1 | ⟨h1, h2⟩ | ⟨h1, h2, h3⟩ | ⟨h1, h2, h3, h4⟩ | ⟨h1, h2, h3, h4, h5⟩ | ⟨h1, h2, h3, h4, h5, h6⟩ | ⟨h1, h2, h3, h4, h5, h6⟩
  all_goals
    go_enter Try.func17, Try.ntmps17
    go_wp2
    go_ret
    exact ⟨ret_bool (by unfold rightG; simp [*]), bel_alloc _ _⟩
theorem mul_le {a b A B : Int} (ha : 0 ≤ a) (h1 : a ≤ A) (hb : 0 ≤ b) (h2 : b ≤ B) : 0 ≤ a * b ∧ a * b ≤ A * B :=
  ⟨Int.mul_nonneg ha hb, Int.mul_le_mul h1 h2 hb (by omega)⟩
def sizeG (g : Gm) : Int := g.page * g.pages * g.regions
def roomG (g : Gm) : Int := g.page - 15
def slotsG (g : Gm) : Int := g.pages - 1
def mostG (g : Gm) : Int := (g.regions - 3) * (g.pages - 1)
def heldG (g : Gm) : Int := (g.regions - 2) * (g.pages - 1)
def clampG (n : Int) : Int := min (max n 1) 1048576
def needG (g : Gm) (n : Int) : Int := (clampG n + (g.page - 15) - 1) / (g.page - 15) + 1
theorem refSlots_any (g : Gm) (hg : Small g) (w : World) : Calls Try.prog 28 #[gV g] w fun e w' => e = .returned (.int .i64 (slotsG g)) ∧ Below w.heap.size w w' := by
  obtain ⟨p0, p1, s0, s1, r0, r1⟩ := hg
  obtain ⟨p, q, r⟩ := g
  simp only at p0 p1 s0 s1 r0 r1
  have m1 := mul_le (show 0 ≤ p by omega) p1 (show 0 ≤ q by omega) s1
  have m2 := mul_le m1.1 m1.2 (show 0 ≤ r by omega) r1
  have m3 := mul_le (show 0 ≤ r - 3 by omega) (show r - 3 ≤ 9 by omega) (show 0 ≤ q - 1 by omega) (show q - 1 ≤ 9 by omega)
  have m4 := mul_le (show 0 ≤ r - 2 by omega) (show r - 2 ≤ 10 by omega) (show 0 ≤ q - 1 by omega) (show q - 1 ≤ 9 by omega)
  unfold gV
  go_enter Try.func28, Try.ntmps28
  go_wp2
  go_ret
  exact ⟨rfl, bel_alloc _ _⟩
theorem refHeld_any (g : Gm) (hg : Small g) (w : World) : Calls Try.prog 23 #[gV g] w fun e w' => e = .returned (.int .i64 (heldG g)) ∧ Below w.heap.size w w' := by
  obtain ⟨p0, p1, s0, s1, r0, r1⟩ := hg
  obtain ⟨p, q, r⟩ := g
  simp only at p0 p1 s0 s1 r0 r1
  have m1 := mul_le (show 0 ≤ p by omega) p1 (show 0 ≤ q by omega) s1
  have m2 := mul_le m1.1 m1.2 (show 0 ≤ r by omega) r1
  have m3 := mul_le (show 0 ≤ r - 3 by omega) (show r - 3 ≤ 9 by omega) (show 0 ≤ q - 1 by omega) (show q - 1 ≤ 9 by omega)
  have m4 := mul_le (show 0 ≤ r - 2 by omega) (show r - 2 ≤ 10 by omega) (show 0 ≤ q - 1 by omega) (show q - 1 ≤ 9 by omega)
  unfold gV
  have H : Hid (∀ w, Calls Try.prog 28 #[.agg #[.int .i64 p, .int .i64 q, .int .i64 r]] w fun e w' => e = .returned (.int .i64 (q - 1)) ∧ Below w.heap.size w w') := fun w => refSlots_any ⟨p, q, r⟩ ⟨p0, p1, s0, s1, r0, r1⟩ w
  go_enter Try.func23, Try.ntmps23
  go_wp2
  refine wp_region_is [3, 4, 5, 6, 7, 8, 2] (fun w' => Below (w.alloc (.cells #[.int .i64 p, .int .i64 q, .int .i64 r] 23)).heap.size (w.alloc (.cells #[.int .i64 p, .int .i64 q, .int .i64 r] 23)) w')
    [.pointer (some ⟨w.heap.size, 2, none⟩), .int .i64 r, .int .i64 (r - 2), .agg #[.int .i64 p, .int .i64 q, .int .i64 r], .int .i64 (q - 1), .int .i64 ((r - 2) * (q - 1)), .int .i64 ((r - 2) * (q - 1))] (by kernel_rfl) (by kernel_rfl) rfl (by decide) (by simp) (Below.refl _ _).drew ?each ?done
  case each =>
    simp only [Each]
    repeat' (first | exact trivial | refine And.intro ?_ ?_)
    all_goals
      intro ys wx hBx hdeps
      simp only [Deps, Region.binds, List.getD_cons_zero, List.getD_cons_succ, forall_const, and_true] at hdeps
      have c0 : wx.cell? ⟨w.heap.size, 0, none⟩ = some (.int .i64 p) := ((Var.new w 23 [.int .i64 p, .int .i64 q, .int .i64 r]).below hBx (by simp)).cell rfl
      have c1 : wx.cell? ⟨w.heap.size, 1, none⟩ = some (.int .i64 q) := ((Var.new w 23 [.int .i64 p, .int .i64 q, .int .i64 r]).below hBx (by simp)).cell rfl
      have c2 : wx.cell? ⟨w.heap.size, 2, none⟩ = some (.int .i64 r) := ((Var.new w 23 [.int .i64 p, .int .i64 q, .int .i64 r]).below hBx (by simp)).cell rfl
      simp only [hdeps, fill, List.foldl_cons, List.foldl_nil, Act.put, List.setIfInBounds_toArray, List.set_cons_succ, List.set_cons_zero]
      first
        | (go_wp2_with fail; exact ⟨_, rfl, rfl, hBx, Below.refl _ _⟩)
        | (go_wp2_with (go_at_call 28; (with_reducible refine (H.out _).mono ?_); rintro e w3 ⟨rfl, hn⟩); exact ⟨_, rfl, rfl, hBx.trans (hn.mono hBx.size), hn⟩)
  case done =>
    intro ys wx hBx hV
    have h2 : ys 2 = .int .i64 ((r - 2) * (q - 1)) := hV 6 (by decide)
    simp only [h2, fill, List.drop_succ_cons, List.drop_zero, List.foldl_cons, List.foldl_nil, Act.put, List.setIfInBounds_toArray, List.set_cons_succ, List.set_cons_zero]
    go_wp2
    go_ret
    exact ⟨rfl, bel0 (bel_alloc _ _) hBx⟩
end Go.Proofs.Ytmkdhehdfdkbjaa.Geom
