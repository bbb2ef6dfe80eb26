/-
  Joined texts: GeomA, GeomB, GeomX, ChartR.
-/
import Derived.Test.YtcmjambbdfangaaGreatRunTup
import Derived.Test.YtcmjambbdfangaaGreatRunRegion
import Derived.Deep.QuietTactic
import Derived.BigQuiet
import Derived.Test.YtcmjambbdfangaaGreatRunCommon
/-
  What the document's own geometry answers, of any numbers.
-/
set_option linter.unusedVariables false
set_option linter.unusedSimpArgs false
namespace Go.Proofs.YtcmjambbdfangaaGreat.Geom
open Go.RowKit
open Own Tup
open Go.Proofs.YtcmjambbdfangaaGreat.Region (fill Then Deps Each wp_region_is wp_region_is_tail)

structure Gm where
  page : Int
  pages : Int
  regions : Int
  deriving DecidableEq
/-- a geom as a value -/
def gV (g : Gm) : Value := .agg #[.int .i64 g.page, .int .i64 g.pages, .int .i64 g.regions]
def gC (g : Gm) : List Value := [.int .i64 g.page, .int .i64 g.pages, .int .i64 g.regions]
def rightG (g : Gm) : Bool := decide (32 ≤ g.page) && decide (g.page ≤ 128) && decide (3 ≤ g.pages) && decide (g.pages ≤ 10) && decide (4 ≤ g.regions) && decide (g.regions ≤ 12)
structure Small (g : Gm) : Prop where
  p0 : 32 ≤ g.page
  p1 : g.page ≤ 128
  s0 : 3 ≤ g.pages
  s1 : g.pages ≤ 10
  r0 : 4 ≤ g.regions
  r1 : g.regions ≤ 12
theorem right_small {g : Gm} : rightG g = true ↔ Small g := by
  unfold rightG
  simp only [Bool.and_eq_true, decide_eq_true_eq]
  exact ⟨fun h => ⟨h.1.1.1.1.1, h.1.1.1.1.2, h.1.1.1.2, h.1.1.2, h.1.2, h.2⟩, fun h => ⟨⟨⟨⟨⟨h.p0, h.p1⟩, h.s0⟩, h.s1⟩, h.r0⟩, h.r1⟩⟩
theorem bel_alloc (w : World) (o : Obj) : Below w.heap.size w (w.alloc o) := (Below.refl _ _).alloc (Nat.le_refl _) o
theorem bel0 {a w1 w2 : World} (h : Below a.heap.size a w1) (k : Below w1.heap.size w1 w2) : Below a.heap.size a w2 := h.trans (k.mono h.size)
theorem ret_bool {a b : Bool} (h : a = b) : Ending.returned (.bool a) = .returned (.bool b) := by rw [h]
theorem ret_int {k : IntKind} {a b : Int} (h : a = b) : Ending.returned (.int k a) = .returned (.int k b) := by rw [h]
set_option maxRecDepth 100000 in
set_option maxHeartbeats 4000000 in
theorem refRight_any (g : Gm) (w : World) : Calls Tryz.prog 87 #[gV g] w fun e w' => e = .returned (.bool (rightG g)) ∧ Below w.heap.size w w' := by
  obtain ⟨p, q, r⟩ := g
  have hd : decide (32 ≤ p) = false ∨ (decide (32 ≤ p) = true ∧ decide (p ≤ 128) = false) ∨ (decide (32 ≤ p) = true ∧ decide (p ≤ 128) = true ∧ decide (3 ≤ q) = false) ∨ (decide (32 ≤ p) = true ∧ decide (p ≤ 128) = true ∧ decide (3 ≤ q) = true ∧ decide (q ≤ 10) = false)
    ∨ (decide (32 ≤ p) = true ∧ decide (p ≤ 128) = true ∧ decide (3 ≤ q) = true ∧ decide (q ≤ 10) = true ∧ decide (4 ≤ r) = false) ∨ (decide (32 ≤ p) = true ∧ decide (p ≤ 128) = true ∧ decide (3 ≤ q) = true ∧ decide (q ≤ 10) = true ∧ decide (4 ≤ r) = true ∧ decide (r ≤ 12) = false)
    ∨ (decide (32 ≤ p) = true ∧ decide (p ≤ 128) = true ∧ decide (3 ≤ q) = true ∧ decide (q ≤ 10) = true ∧ decide (4 ≤ r) = true ∧ decide (r ≤ 12) = true) := by
    simp only [decide_eq_true_eq, decide_eq_false_iff_not]; omega
  unfold gV
  rcases hd with h1 | ⟨h1, h2⟩ | ⟨h1, h2, h3⟩ | ⟨h1, h2, h3, h4⟩ | ⟨h1, h2, h3, h4, h5⟩ | ⟨h1, h2, h3, h4, h5, h6⟩ | ⟨h1, h2, h3, h4, h5, h6⟩
  all_goals
    go_enter Tryz.func87, Tryz.ntmps87
    go_wp2
    go_ret
    exact ⟨ret_bool (by unfold rightG; simp [*]), bel_alloc _ _⟩
theorem mul_le {a b A B : Int} (ha : 0 ≤ a) (h1 : a ≤ A) (hb : 0 ≤ b) (h2 : b ≤ B) : 0 ≤ a * b ∧ a * b ≤ A * B :=
  ⟨Int.mul_nonneg ha hb, Int.mul_le_mul h1 h2 hb (by omega)⟩
def sizeG (g : Gm) : Int := g.page * g.pages * g.regions
def roomG (g : Gm) : Int := g.page - 15
def slotsG (g : Gm) : Int := g.pages - 1
def mostG (g : Gm) : Int := (g.regions - 3) * (g.pages - 1)
def heldG (g : Gm) : Int := (g.regions - 2) * (g.pages - 1)
def clampG (n : Int) : Int := min (max n 1) 1048576
def needG (g : Gm) (n : Int) : Int := (clampG n + (g.page - 15) - 1) / (g.page - 15) + 1
theorem refSize_any (g : Gm) (hg : Small g) (w : World) : Calls Tryz.prog 62 #[gV g] w fun e w' => e = .returned (.int .i64 (sizeG g)) ∧ Below w.heap.size w w' := by
  obtain ⟨p0, p1, s0, s1, r0, r1⟩ := hg
  obtain ⟨p, q, r⟩ := g
  simp only at p0 p1 s0 s1 r0 r1
  have m1 := mul_le (show 0 ≤ p by omega) p1 (show 0 ≤ q by omega) s1
  have m2 := mul_le m1.1 m1.2 (show 0 ≤ r by omega) r1
  have m3 := mul_le (show 0 ≤ r - 3 by omega) (show r - 3 ≤ 9 by omega) (show 0 ≤ q - 1 by omega) (show q - 1 ≤ 9 by omega)
  have m4 := mul_le (show 0 ≤ r - 2 by omega) (show r - 2 ≤ 10 by omega) (show 0 ≤ q - 1 by omega) (show q - 1 ≤ 9 by omega)
  unfold gV
  go_enter Tryz.func62, Tryz.ntmps62
  go_wp2
  go_ret
  exact ⟨rfl, bel_alloc _ _⟩
theorem refRoom_any (g : Gm) (hg : Small g) (w : World) : Calls Tryz.prog 9 #[gV g] w fun e w' => e = .returned (.int .i64 (roomG g)) ∧ Below w.heap.size w w' := by
  obtain ⟨p0, p1, s0, s1, r0, r1⟩ := hg
  obtain ⟨p, q, r⟩ := g
  simp only at p0 p1 s0 s1 r0 r1
  have m1 := mul_le (show 0 ≤ p by omega) p1 (show 0 ≤ q by omega) s1
  have m2 := mul_le m1.1 m1.2 (show 0 ≤ r by omega) r1
  have m3 := mul_le (show 0 ≤ r - 3 by omega) (show r - 3 ≤ 9 by omega) (show 0 ≤ q - 1 by omega) (show q - 1 ≤ 9 by omega)
  have m4 := mul_le (show 0 ≤ r - 2 by omega) (show r - 2 ≤ 10 by omega) (show 0 ≤ q - 1 by omega) (show q - 1 ≤ 9 by omega)
  unfold gV
  go_enter Tryz.func9, Tryz.ntmps9
  go_wp2
  go_ret
  exact ⟨rfl, bel_alloc _ _⟩
theorem refSlots_any (g : Gm) (hg : Small g) (w : World) : Calls Tryz.prog 54 #[gV g] w fun e w' => e = .returned (.int .i64 (slotsG g)) ∧ Below w.heap.size w w' := by
  obtain ⟨p0, p1, s0, s1, r0, r1⟩ := hg
  obtain ⟨p, q, r⟩ := g
  simp only at p0 p1 s0 s1 r0 r1
  have m1 := mul_le (show 0 ≤ p by omega) p1 (show 0 ≤ q by omega) s1
  have m2 := mul_le m1.1 m1.2 (show 0 ≤ r by omega) r1
  have m3 := mul_le (show 0 ≤ r - 3 by omega) (show r - 3 ≤ 9 by omega) (show 0 ≤ q - 1 by omega) (show q - 1 ≤ 9 by omega)
  have m4 := mul_le (show 0 ≤ r - 2 by omega) (show r - 2 ≤ 10 by omega) (show 0 ≤ q - 1 by omega) (show q - 1 ≤ 9 by omega)
  unfold gV
  go_enter Tryz.func54, Tryz.ntmps54
  go_wp2
  go_ret
  exact ⟨rfl, bel_alloc _ _⟩
end Go.Proofs.YtcmjambbdfangaaGreat.Geom
/-
  What the book's Geom answers: a small one, made of any numbers.
-/
set_option linter.unusedVariables false
set_option linter.unusedSimpArgs false
namespace Go.Proofs.YtcmjambbdfangaaGreat.Geom
open Go.RowKit
open Own Tup
open Go.Proofs.YtcmjambbdfangaaGreat.Region (fill Then Deps Each wp_region_is wp_region_is_tail)
def smallG (g : Gm) : Gm := ⟨32 + g.page % 33, 3 + g.pages % 4, 4 + g.regions % 4⟩
def pageG (g : Gm) (i s : Int) : Int × Bool := if rightG g = true ∧ 0 ≤ i ∧ i < g.regions ∧ 0 ≤ s ∧ s < g.pages then (i * g.pages + s, true) else (0, false)
def whereG (g : Gm) (n : Int) : Int × Int × Bool := if rightG g = true ∧ 0 ≤ n ∧ n < g.pages * g.regions then (n / g.pages, n % g.pages, true) else (0, 0, false)
theorem small_small (g : Gm) : Small (smallG g) := by
  unfold smallG
  refine ⟨?_, ?_, ?_, ?_, ?_, ?_⟩ <;> simp only <;> omega
set_option maxRecDepth 100000 in
theorem geom_any (g : Gm) (w : World) : Calls Tryz.prog 4 #[gV g] w fun e w' => e = .returned (gV (smallG g)) ∧ Below w.heap.size w w' := by
  obtain ⟨p, q, r⟩ := g
  have H1 : Hid (∀ w, Calls Tryz.prog 7 #[.int .i64 p, .int .i64 33] w fun e w' => e = .returned (.int .i64 (p % 33)) ∧ w = w') := fun w => Book.pick_any p 33 (by decide) (by decide) w
  have H2 : Hid (∀ w, Calls Tryz.prog 7 #[.int .i64 q, .int .i64 4] w fun e w' => e = .returned (.int .i64 (q % 4)) ∧ w = w') := fun w => Book.pick_any q 4 (by decide) (by decide) w
  have H3 : Hid (∀ w, Calls Tryz.prog 7 #[.int .i64 r, .int .i64 4] w fun e w' => e = .returned (.int .i64 (r % 4)) ∧ w = w') := fun w => Book.pick_any r 4 (by decide) (by decide) w
  have b1 : 0 ≤ p % 33 ∧ p % 33 < 33 := by omega
  have b2 : 0 ≤ q % 4 ∧ q % 4 < 4 := by omega
  have b3 : 0 ≤ r % 4 ∧ r % 4 < 4 := by omega
  have HV : Hid (Var ((w.alloc (.cells #[.int .i64 p, .int .i64 q, .int .i64 r] 23)).alloc (.cells #[.int .i64 0, .int .i64 0, .int .i64 0] 23)) (w.heap.size + 1) 23 [.int .i64 0, .int .i64 0, .int .i64 0]) := by
    have := Var.new (w.alloc (.cells #[.int .i64 p, .int .i64 q, .int .i64 r] 23)) 23 [.int .i64 0, .int .i64 0, .int .i64 0]
    have e : (w.alloc (.cells #[.int .i64 p, .int .i64 q, .int .i64 r] 23)).heap.size = w.heap.size + 1 := by simp
    rw [e] at this; exact this
  unfold gV
  go_enter Tryz.func4, Tryz.ntmps4
  go_wp2
  refine wp_region_is_tail 13 [3, 4, 5, 6, 7, 8, 9, 10, 11, 12, 13, 14, 15] (fun w' => Below ((w.alloc (.cells #[.int .i64 p, .int .i64 q, .int .i64 r] 23)).alloc (.cells #[.int .i64 0, .int .i64 0, .int .i64 0] 23)).heap.size ((w.alloc (.cells #[.int .i64 p, .int .i64 q, .int .i64 r] 23)).alloc (.cells #[.int .i64 0, .int .i64 0, .int .i64 0] 23)) w')
    [.pointer (some ⟨w.heap.size, 0, none⟩), .int .i64 p, .int .i64 (p % 33), .int .i64 (32 + p % 33), .pointer (some ⟨w.heap.size, 1, none⟩), .int .i64 q, .int .i64 (q % 4), .int .i64 (3 + q % 4), .pointer (some ⟨w.heap.size, 2, none⟩), .int .i64 r, .int .i64 (r % 4), .int .i64 (4 + r % 4), .agg #[.int .i64 (32 + p % 33), .int .i64 (3 + q % 4), .int .i64 (4 + r % 4)]] (by kernel_rfl) (by kernel_rfl) (by kernel_rfl) (by decide) rfl (by decide) (by simp) (Below.refl _ _).drew ?each ?done
  case each =>
    simp only [List.take_succ_cons, List.take_zero, Each]
    repeat' (first | exact trivial | refine And.intro ?_ ?_)
    all_goals
      intro ys wx hBx hdeps
      simp only [Deps, Region.binds, List.getD_cons_zero, List.getD_cons_succ, forall_const, and_true] at hdeps
      have c0 : wx.cell? ⟨w.heap.size, 0, none⟩ = some (.int .i64 p) := (((Var.new w 23 [.int .i64 p, .int .i64 q, .int .i64 r]).alloc (.cells #[.int .i64 0, .int .i64 0, .int .i64 0] 23)).below hBx (by simp; omega)).cell rfl
      have c1 : wx.cell? ⟨w.heap.size, 1, none⟩ = some (.int .i64 q) := (((Var.new w 23 [.int .i64 p, .int .i64 q, .int .i64 r]).alloc (.cells #[.int .i64 0, .int .i64 0, .int .i64 0] 23)).below hBx (by simp; omega)).cell rfl
      have c2 : wx.cell? ⟨w.heap.size, 2, none⟩ = some (.int .i64 r) := (((Var.new w 23 [.int .i64 p, .int .i64 q, .int .i64 r]).alloc (.cells #[.int .i64 0, .int .i64 0, .int .i64 0] 23)).below hBx (by simp; omega)).cell rfl
      simp only [hdeps, fill, List.foldl_cons, List.foldl_nil, Act.put, List.setIfInBounds_toArray, List.set_cons_succ, List.set_cons_zero]
      first
        | (go_wp2_with fail; exact ⟨_, rfl, rfl, hBx, Below.refl _ _⟩)
        | (go_wp2_with (go_at_call 7; (with_reducible refine (H1.out _).mono ?_); rintro e w3 ⟨rfl, rfl⟩); exact ⟨_, rfl, rfl, hBx, Below.refl _ _⟩)
        | (go_wp2_with (go_at_call 7; (with_reducible refine (H2.out _).mono ?_); rintro e w3 ⟨rfl, rfl⟩); exact ⟨_, rfl, rfl, hBx, Below.refl _ _⟩)
        | (go_wp2_with (go_at_call 7; (with_reducible refine (H3.out _).mono ?_); rintro e w3 ⟨rfl, rfl⟩); exact ⟨_, rfl, rfl, hBx, Below.refl _ _⟩)
  case done =>
    intro ys wx hBx hV
    have h15 : ys 15 = .agg #[.int .i64 (32 + p % 33), .int .i64 (3 + q % 4), .int .i64 (4 + r % 4)] := hV 12 (by decide)
    have hv : Var wx (w.heap.size + 1) 23 [.int .i64 0, .int .i64 0, .int .i64 0] := (show Var ((w.alloc (.cells #[.int .i64 p, .int .i64 q, .int .i64 r] 23)).alloc (.cells #[.int .i64 0, .int .i64 0, .int .i64 0] 23)) (w.heap.size + 1) 23 [.int .i64 0, .int .i64 0, .int .i64 0] from HV.out).below hBx (by simp)
    have d0 := hv.cell (j := 0) rfl
    have d1 := hv.cell (j := 1) rfl
    have d2 := hv.cell (j := 2) rfl
    have f0 := hv.frozen 0
    have f1 := hv.frozen 1
    have f2 := hv.frozen 2
    simp only [h15, fill, List.drop_succ_cons, List.drop_zero, List.foldl_cons, List.foldl_nil, Act.put, List.setIfInBounds_toArray, List.set_cons_succ, List.set_cons_zero]
    go_wp2
    have hv2 := ((hv.set 0 (.int .i64 (32 + p % 33))).set 1 (.int .i64 (3 + q % 4))).set 2 (.int .i64 (4 + r % 4))
    have e0 := hv2.cell (j := 0) rfl
    have e1 := hv2.cell (j := 1) rfl
    have e2 := hv2.cell (j := 2) rfl
    clear d0 d1 d2 f0 f1 f2
    refine bodyPost_ret (by simp [results, Tryz.results4, go_sem, e0, e1, e2]; try rfl) rfl ?_
    exact ⟨rfl, (((bel0 ((bel_alloc _ _).trans ((bel_alloc _ _).mono (by simp))) hBx).setCell (Nat.le_succ _) _).setCell (Nat.le_succ _) _).setCell (Nat.le_succ _) _⟩
end Go.Proofs.YtcmjambbdfangaaGreat.Geom
/-
  What the landed package geom answers, of any numbers.
-/
set_option linter.unusedVariables false
set_option linter.unusedSimpArgs false
namespace Go.Proofs.YtcmjambbdfangaaGreat.Geom
open Go.RowKit
open Own Tup
open Go.Proofs.YtcmjambbdfangaaGreat.Region (fill Then Deps Each wp_region_is wp_region_is_tail)
theorem within_any (n a b : Int) (w : World) : Calls Tryz.prog 94 #[.int .i64 n, .int .i64 a, .int .i64 b] w fun e w' => e = .returned (.bool (decide (a ≤ n) && decide (n ≤ b))) ∧ w = w' := by
  have hd : decide (a ≤ n) = false ∨ (decide (a ≤ n) = true ∧ decide (n ≤ b) = false) ∨ (decide (a ≤ n) = true ∧ decide (n ≤ b) = true) := by
    simp only [decide_eq_true_eq, decide_eq_false_iff_not]; omega
  rcases hd with h1 | ⟨h1, h2⟩ | ⟨h1, h2⟩
  all_goals
    go_enter Tryz.func94, Tryz.ntmps94
    go_wp2
    go_ret
    exact ⟨ret_bool (by simp [*]), rfl⟩
set_option maxRecDepth 100000 in
theorem right_any (g : Gm) (w : World) : Calls Tryz.prog 57 #[gV g] w fun e w' => e = .returned (.bool (rightG g)) ∧ Below w.heap.size w w' := by
  obtain ⟨p, q, r⟩ := g
  have hv : rightG ⟨p, q, r⟩ = ((decide (32 ≤ p) && decide (p ≤ 128)) && (decide (3 ≤ q) && decide (q ≤ 10)) && (decide (4 ≤ r) && decide (r ≤ 12))) := by
    unfold rightG; simp only [Bool.and_assoc]
  have H1 : Hid (∀ w, Calls Tryz.prog 94 #[.int .i64 p, .int .i64 32, .int .i64 128] w fun e w' => e = .returned (.bool (decide (32 ≤ p) && decide (p ≤ 128))) ∧ w = w') := fun w => within_any _ _ _ w
  have H2 : Hid (∀ w, Calls Tryz.prog 94 #[.int .i64 q, .int .i64 3, .int .i64 10] w fun e w' => e = .returned (.bool (decide (3 ≤ q) && decide (q ≤ 10))) ∧ w = w') := fun w => within_any _ _ _ w
  have H3 : Hid (∀ w, Calls Tryz.prog 94 #[.int .i64 r, .int .i64 4, .int .i64 12] w fun e w' => e = .returned (.bool (decide (4 ≤ r) && decide (r ≤ 12))) ∧ w = w') := fun w => within_any _ _ _ w
  rw [hv]; clear hv
  generalize (decide (32 ≤ p) && decide (p ≤ 128)) = b1 at *
  generalize (decide (3 ≤ q) && decide (q ≤ 10)) = b2 at *
  generalize (decide (4 ≤ r) && decide (r ≤ 12)) = b3 at *
  unfold gV
  cases b1 <;> cases b2 <;> cases b3
  all_goals
    go_enter Tryz.func57, Tryz.ntmps57
    go_wp2_with (first
      | (go_at_call 94; (with_reducible refine (H1.out _).mono ?_); rintro e w3 ⟨rfl, rfl⟩)
      | (go_at_call 94; (with_reducible refine (H2.out _).mono ?_); rintro e w3 ⟨rfl, rfl⟩)
      | (go_at_call 94; (with_reducible refine (H3.out _).mono ?_); rintro e w3 ⟨rfl, rfl⟩))
    go_ret
    exact ⟨rfl, bel_alloc _ _⟩
set_option maxRecDepth 100000 in
theorem bytes_any (g : Gm) (w : World) : Calls Tryz.prog 58 #[gV g] w fun e w' => e = .returned (.int .i64 (if rightG g then sizeG g else 0)) ∧ Below w.heap.size w w' := by
  have H0 := Lib.hid (fun w => right_any g w)
  rcases hb : rightG g with _ | _
  · simp only [hb] at H0
    obtain ⟨p, q, r⟩ := g
    unfold gV at H0 ⊢
    go_enter Tryz.func58, Tryz.ntmps58
    go_wp2_with (go_at_call 57; (with_reducible refine (H0.out _).mono ?_); rintro e w3 ⟨rfl, hn⟩)
    go_ret
    exact ⟨rfl, bel0 (bel_alloc _ _) hn⟩
  · simp only [hb] at H0
    obtain ⟨p0, p1, s0, s1, r0, r1⟩ := right_small.mp hb
    have hg0 := right_small.mp hb
    obtain ⟨p, q, r⟩ := g
    simp only at p0 p1 s0 s1 r0 r1
    clear hb
    have m1 := mul_le (show 0 ≤ r by omega) r1 (show 0 ≤ q by omega) s1
    have m2 := mul_le m1.1 m1.2 (show 0 ≤ p by omega) p1
    have m3 := mul_le (show 0 ≤ r - 3 by omega) (show r - 3 ≤ 9 by omega) (show 0 ≤ q - 1 by omega) (show q - 1 ≤ 9 by omega)
    have m4 := mul_le (show 0 ≤ r - 2 by omega) (show r - 2 ≤ 10 by omega) (show 0 ≤ q - 1 by omega) (show q - 1 ≤ 9 by omega)
    unfold gV at H0 ⊢
    go_enter Tryz.func58, Tryz.ntmps58
    go_wp2_with (go_at_call 57; (with_reducible refine (H0.out _).mono ?_); rintro e w3 ⟨rfl, hn⟩; have c0 : w3.cell? ⟨w.heap.size, 0, none⟩ = some (.int .i64 p) := ((Var.new w 23 [.int .i64 p, .int .i64 q, .int .i64 r]).below hn (by simp)).cell rfl; have c1 : w3.cell? ⟨w.heap.size, 1, none⟩ = some (.int .i64 q) := ((Var.new w 23 [.int .i64 p, .int .i64 q, .int .i64 r]).below hn (by simp)).cell rfl; have c2 : w3.cell? ⟨w.heap.size, 2, none⟩ = some (.int .i64 r) := ((Var.new w 23 [.int .i64 p, .int .i64 q, .int .i64 r]).below hn (by simp)).cell rfl)
    go_ret
    exact ⟨ret_int (by unfold sizeG; simp only [if_true]; rw [Int.mul_comm, Int.mul_comm r q, ← Int.mul_assoc]), bel0 (bel_alloc _ _) hn⟩
set_option maxRecDepth 100000 in
theorem room_any (g : Gm) (w : World) : Calls Tryz.prog 79 #[gV g] w fun e w' => e = .returned (.int .i64 (if rightG g then roomG g else 0)) ∧ Below w.heap.size w w' := by
  have H0 := Lib.hid (fun w => right_any g w)
  rcases hb : rightG g with _ | _
  · simp only [hb] at H0
    obtain ⟨p, q, r⟩ := g
    unfold gV at H0 ⊢
    go_enter Tryz.func79, Tryz.ntmps79
    go_wp2_with (go_at_call 57; (with_reducible refine (H0.out _).mono ?_); rintro e w3 ⟨rfl, hn⟩)
    go_ret
    exact ⟨rfl, bel0 (bel_alloc _ _) hn⟩
  · simp only [hb] at H0
    obtain ⟨p0, p1, s0, s1, r0, r1⟩ := right_small.mp hb
    have hg0 := right_small.mp hb
    obtain ⟨p, q, r⟩ := g
    simp only at p0 p1 s0 s1 r0 r1
    clear hb
    have m1 := mul_le (show 0 ≤ r by omega) r1 (show 0 ≤ q by omega) s1
    have m2 := mul_le m1.1 m1.2 (show 0 ≤ p by omega) p1
    have m3 := mul_le (show 0 ≤ r - 3 by omega) (show r - 3 ≤ 9 by omega) (show 0 ≤ q - 1 by omega) (show q - 1 ≤ 9 by omega)
    have m4 := mul_le (show 0 ≤ r - 2 by omega) (show r - 2 ≤ 10 by omega) (show 0 ≤ q - 1 by omega) (show q - 1 ≤ 9 by omega)
    unfold gV at H0 ⊢
    go_enter Tryz.func79, Tryz.ntmps79
    go_wp2_with (go_at_call 57; (with_reducible refine (H0.out _).mono ?_); rintro e w3 ⟨rfl, hn⟩; have c0 : w3.cell? ⟨w.heap.size, 0, none⟩ = some (.int .i64 p) := ((Var.new w 23 [.int .i64 p, .int .i64 q, .int .i64 r]).below hn (by simp)).cell rfl; have c1 : w3.cell? ⟨w.heap.size, 1, none⟩ = some (.int .i64 q) := ((Var.new w 23 [.int .i64 p, .int .i64 q, .int .i64 r]).below hn (by simp)).cell rfl; have c2 : w3.cell? ⟨w.heap.size, 2, none⟩ = some (.int .i64 r) := ((Var.new w 23 [.int .i64 p, .int .i64 q, .int .i64 r]).below hn (by simp)).cell rfl)
    go_ret
    exact ⟨rfl, bel0 (bel_alloc _ _) hn⟩
set_option maxRecDepth 100000 in
theorem slots_any (g : Gm) (w : World) : Calls Tryz.prog 93 #[gV g] w fun e w' => e = .returned (.int .i64 (if rightG g then slotsG g else 0)) ∧ Below w.heap.size w w' := by
  have H0 := Lib.hid (fun w => right_any g w)
  rcases hb : rightG g with _ | _
  · simp only [hb] at H0
    obtain ⟨p, q, r⟩ := g
    unfold gV at H0 ⊢
    go_enter Tryz.func93, Tryz.ntmps93
    go_wp2_with (go_at_call 57; (with_reducible refine (H0.out _).mono ?_); rintro e w3 ⟨rfl, hn⟩)
    go_ret
    exact ⟨rfl, bel0 (bel_alloc _ _) hn⟩
  · simp only [hb] at H0
    obtain ⟨p0, p1, s0, s1, r0, r1⟩ := right_small.mp hb
    have hg0 := right_small.mp hb
    obtain ⟨p, q, r⟩ := g
    simp only at p0 p1 s0 s1 r0 r1
    clear hb
    have m1 := mul_le (show 0 ≤ r by omega) r1 (show 0 ≤ q by omega) s1
    have m2 := mul_le m1.1 m1.2 (show 0 ≤ p by omega) p1
    have m3 := mul_le (show 0 ≤ r - 3 by omega) (show r - 3 ≤ 9 by omega) (show 0 ≤ q - 1 by omega) (show q - 1 ≤ 9 by omega)
    have m4 := mul_le (show 0 ≤ r - 2 by omega) (show r - 2 ≤ 10 by omega) (show 0 ≤ q - 1 by omega) (show q - 1 ≤ 9 by omega)
    unfold gV at H0 ⊢
    go_enter Tryz.func93, Tryz.ntmps93
    go_wp2_with (go_at_call 57; (with_reducible refine (H0.out _).mono ?_); rintro e w3 ⟨rfl, hn⟩; have c0 : w3.cell? ⟨w.heap.size, 0, none⟩ = some (.int .i64 p) := ((Var.new w 23 [.int .i64 p, .int .i64 q, .int .i64 r]).below hn (by simp)).cell rfl; have c1 : w3.cell? ⟨w.heap.size, 1, none⟩ = some (.int .i64 q) := ((Var.new w 23 [.int .i64 p, .int .i64 q, .int .i64 r]).below hn (by simp)).cell rfl; have c2 : w3.cell? ⟨w.heap.size, 2, none⟩ = some (.int .i64 r) := ((Var.new w 23 [.int .i64 p, .int .i64 q, .int .i64 r]).below hn (by simp)).cell rfl)
    go_ret
    exact ⟨rfl, bel0 (bel_alloc _ _) hn⟩
theorem need_eq {p q r n m0 m d x : Int} (hp : 0 < p - 15) (hm0 : m0 = max n 0) (hm : m = min m0 1048576) (hd : d = (m + (p - 15) - 1) / (p - 15)) (hx : x = max d 1) : x + 1 = needG ⟨p, q, r⟩ n := by
  unfold needG clampG
  simp only
  generalize p - 15 = k at *
  by_cases h : 1 ≤ n
  · have e : min (max n 1) 1048576 = m := by omega
    rw [e, ← hd]
    have : 1 ≤ d := by rw [hd]; exact (Int.le_ediv_iff_mul_le hp).mpr (by omega)
    omega
  · have e : min (max n 1) 1048576 = 1 := by omega
    have e2 : m = 0 := by omega
    rw [e]
    have e3 : (1 + k - 1) / k = 1 := by rw [show 1 + k - 1 = k by omega]; exact Int.ediv_self (by omega)
    have e4 : d = 0 := by rw [hd, e2]; exact Int.ediv_eq_zero_of_lt (by omega) (by omega)
    rw [e3]; omega
set_option maxRecDepth 100000 in
theorem page_any (g : Gm) (i s : Int) (w : World) : Calls Tryz.prog 75 #[gV g, .int .i64 i, .int .i64 s] w fun e w' => e = .returned (.tuple #[.int .i64 (pageG g i s).1, .bool (pageG g i s).2]) ∧ Below w.heap.size w w' := by
  have H0 := Lib.hid (fun w => right_any g w)
  rcases hb : rightG g with _ | _
  · simp only [hb] at H0
    have hr : pageG g i s = (0, false) := by unfold pageG; rw [if_neg (by rw [hb]; simp)]
    rw [hr]
    obtain ⟨p, q, r⟩ := g
    unfold gV at H0 ⊢
    go_enter Tryz.func75, Tryz.ntmps75
    go_wp2_with (go_at_call 57; (with_reducible refine (H0.out _).mono ?_); rintro e w3 ⟨rfl, hn⟩)
    go_ret2
    exact ⟨rfl, bel0 (bel_alloc _ _) hn⟩
  · simp only [hb] at H0
    obtain ⟨p0, p1, s0, s1, r0, r1⟩ := right_small.mp hb
    have hpg : pageG g i s = if (decide (0 ≤ i) && decide (i ≤ g.regions - 1)) && (decide (0 ≤ s) && decide (s ≤ g.pages - 1)) then (i * g.pages + s, true) else (0, false) := by
      unfold pageG
      rw [hb]
      simp only [true_and, Bool.and_eq_true, decide_eq_true_eq]
      split <;> split <;> first | rfl | (exfalso; omega)
    obtain ⟨p, q, r⟩ := g
    simp only at p0 p1 s0 s1 r0 r1 hpg
    rw [hpg]; clear hb hpg
    have H1 : Hid (∀ w, Calls Tryz.prog 94 #[.int .i64 i, .int .i64 0, .int .i64 (r - 1)] w fun e w' => e = .returned (.bool (decide (0 ≤ i) && decide (i ≤ r - 1))) ∧ w = w') := fun w => within_any _ _ _ w
    have H2 : Hid (∀ w, Calls Tryz.prog 94 #[.int .i64 s, .int .i64 0, .int .i64 (q - 1)] w fun e w' => e = .returned (.bool (decide (0 ≤ s) && decide (s ≤ q - 1))) ∧ w = w') := fun w => within_any _ _ _ w
    have h1 : (decide (0 ≤ i) && decide (i ≤ r - 1)) = true → 0 ≤ i ∧ i ≤ r - 1 := by simp only [Bool.and_eq_true, decide_eq_true_eq]; exact id
    have h2 : (decide (0 ≤ s) && decide (s ≤ q - 1)) = true → 0 ≤ s ∧ s ≤ q - 1 := by simp only [Bool.and_eq_true, decide_eq_true_eq]; exact id
    generalize (decide (0 ≤ i) && decide (i ≤ r - 1)) = b1 at *
    generalize (decide (0 ≤ s) && decide (s ≤ q - 1)) = b2 at *
    have hc : b1 = false ∨ (b1 = true ∧ b2 = false) ∨ (b1 = true ∧ b2 = true) := by cases b1 <;> cases b2 <;> simp
    unfold gV at H0 ⊢
    rcases hc with rfl | ⟨rfl, rfl⟩ | ⟨rfl, rfl⟩
    · go_enter Tryz.func75, Tryz.ntmps75
      go_wp2_with (first
        | (go_at_call 57; (with_reducible refine (H0.out _).mono ?_); rintro e w3 ⟨rfl, hn⟩; have c0 : w3.cell? ⟨w.heap.size, 0, none⟩ = some (.int .i64 p) := ((Var.new w 23 [.int .i64 p, .int .i64 q, .int .i64 r]).below hn (by simp)).cell rfl; have c1 : w3.cell? ⟨w.heap.size, 1, none⟩ = some (.int .i64 q) := ((Var.new w 23 [.int .i64 p, .int .i64 q, .int .i64 r]).below hn (by simp)).cell rfl; have c2 : w3.cell? ⟨w.heap.size, 2, none⟩ = some (.int .i64 r) := ((Var.new w 23 [.int .i64 p, .int .i64 q, .int .i64 r]).below hn (by simp)).cell rfl)
        | (go_at_call 94; (with_reducible refine (H1.out _).mono ?_); rintro e w4 ⟨rfl, rfl⟩))
      go_ret2
      exact ⟨rfl, bel0 (bel_alloc _ _) hn⟩
    · go_enter Tryz.func75, Tryz.ntmps75
      go_wp2_with (first
        | (go_at_call 57; (with_reducible refine (H0.out _).mono ?_); rintro e w3 ⟨rfl, hn⟩; have c0 : w3.cell? ⟨w.heap.size, 0, none⟩ = some (.int .i64 p) := ((Var.new w 23 [.int .i64 p, .int .i64 q, .int .i64 r]).below hn (by simp)).cell rfl; have c1 : w3.cell? ⟨w.heap.size, 1, none⟩ = some (.int .i64 q) := ((Var.new w 23 [.int .i64 p, .int .i64 q, .int .i64 r]).below hn (by simp)).cell rfl; have c2 : w3.cell? ⟨w.heap.size, 2, none⟩ = some (.int .i64 r) := ((Var.new w 23 [.int .i64 p, .int .i64 q, .int .i64 r]).below hn (by simp)).cell rfl)
        | (go_at_call 94; (with_reducible refine (H1.out _).mono ?_); rintro e w4 ⟨rfl, rfl⟩)
        | (go_at_call 94; (with_reducible refine (H2.out _).mono ?_); rintro e w4 ⟨rfl, rfl⟩))
      go_ret2
      exact ⟨rfl, bel0 (bel_alloc _ _) hn⟩
    · obtain ⟨i0, i1⟩ := h1 rfl
      obtain ⟨t0, t1⟩ := h2 rfl
      clear h1 h2
      have m1 := mul_le i0 (show i ≤ 11 by omega) (show 0 ≤ q by omega) s1
      go_enter Tryz.func75, Tryz.ntmps75
      go_wp2_with (first
        | (go_at_call 57; (with_reducible refine (H0.out _).mono ?_); rintro e w3 ⟨rfl, hn⟩; have c0 : w3.cell? ⟨w.heap.size, 0, none⟩ = some (.int .i64 p) := ((Var.new w 23 [.int .i64 p, .int .i64 q, .int .i64 r]).below hn (by simp)).cell rfl; have c1 : w3.cell? ⟨w.heap.size, 1, none⟩ = some (.int .i64 q) := ((Var.new w 23 [.int .i64 p, .int .i64 q, .int .i64 r]).below hn (by simp)).cell rfl; have c2 : w3.cell? ⟨w.heap.size, 2, none⟩ = some (.int .i64 r) := ((Var.new w 23 [.int .i64 p, .int .i64 q, .int .i64 r]).below hn (by simp)).cell rfl)
        | (go_at_call 94; (with_reducible refine (H1.out _).mono ?_); rintro e w4 ⟨rfl, rfl⟩)
        | (go_at_call 94; (with_reducible refine (H2.out _).mono ?_); rintro e w4 ⟨rfl, rfl⟩))
      go_ret2
      exact ⟨rfl, bel0 (bel_alloc _ _) hn⟩
set_option maxRecDepth 100000 in
theorem where_any (g : Gm) (n : Int) (w : World) : Calls Tryz.prog 95 #[gV g, .int .i64 n] w fun e w' => e = .returned (.tuple #[.int .i64 (whereG g n).1, .int .i64 (whereG g n).2.1, .bool (whereG g n).2.2]) ∧ Below w.heap.size w w' := by
  have H0 := Lib.hid (fun w => right_any g w)
  rcases hb : rightG g with _ | _
  · simp only [hb] at H0
    have hr : whereG g n = (0, 0, false) := by unfold whereG; rw [if_neg (by rw [hb]; simp)]
    rw [hr]
    obtain ⟨p, q, r⟩ := g
    unfold gV at H0 ⊢
    go_enter Tryz.func95, Tryz.ntmps95
    go_wp2_with (go_at_call 57; (with_reducible refine (H0.out _).mono ?_); rintro e w3 ⟨rfl, hn⟩)
    go_ret3
    exact ⟨rfl, bel0 (bel_alloc _ _) hn⟩
  · simp only [hb] at H0
    obtain ⟨p0, p1, s0, s1, r0, r1⟩ := right_small.mp hb
    have hpg : whereG g n = if (decide (0 ≤ n) && decide (n ≤ g.regions * g.pages - 1)) then (n / g.pages, n % g.pages, true) else (0, 0, false) := by
      unfold whereG
      rw [hb, Int.mul_comm]
      simp only [true_and, Bool.and_eq_true, decide_eq_true_eq]
      split <;> split <;> first | rfl | (exfalso; omega)
    obtain ⟨p, q, r⟩ := g
    simp only at p0 p1 s0 s1 r0 r1 hpg
    rw [hpg]; clear hb hpg
    have H1 : Hid (∀ w, Calls Tryz.prog 94 #[.int .i64 n, .int .i64 0, .int .i64 (r * q - 1)] w fun e w' => e = .returned (.bool (decide (0 ≤ n) && decide (n ≤ r * q - 1))) ∧ w = w') := fun w => within_any _ _ _ w
    have h1 : (decide (0 ≤ n) && decide (n ≤ r * q - 1)) = true → 0 ≤ n ∧ n ≤ r * q - 1 := by simp only [Bool.and_eq_true, decide_eq_true_eq]; exact id
    generalize (decide (0 ≤ n) && decide (n ≤ r * q - 1)) = b1 at *
    have m1 := mul_le (show 0 ≤ r by omega) r1 (show 0 ≤ q by omega) s1
    unfold gV at H0 ⊢
    rcases b1 with _ | _
    · go_enter Tryz.func95, Tryz.ntmps95
      go_wp2_with (first
        | (go_at_call 57; (with_reducible refine (H0.out _).mono ?_); rintro e w3 ⟨rfl, hn⟩; have c0 : w3.cell? ⟨w.heap.size, 0, none⟩ = some (.int .i64 p) := ((Var.new w 23 [.int .i64 p, .int .i64 q, .int .i64 r]).below hn (by simp)).cell rfl; have c1 : w3.cell? ⟨w.heap.size, 1, none⟩ = some (.int .i64 q) := ((Var.new w 23 [.int .i64 p, .int .i64 q, .int .i64 r]).below hn (by simp)).cell rfl; have c2 : w3.cell? ⟨w.heap.size, 2, none⟩ = some (.int .i64 r) := ((Var.new w 23 [.int .i64 p, .int .i64 q, .int .i64 r]).below hn (by simp)).cell rfl)
        | (go_at_call 94; (with_reducible refine (H1.out _).mono ?_); rintro e w4 ⟨rfl, rfl⟩))
      go_ret3
      exact ⟨rfl, bel0 (bel_alloc _ _) hn⟩
    · obtain ⟨i0, i1⟩ := h1 rfl
      clear h1
      have hz : (q == 0) = false := by simp; omega
      have htd : n.tdiv q = n / q := Int.tdiv_eq_ediv_of_nonneg i0
      have htm : n.tmod q = n % q := Int.tmod_eq_emod_of_nonneg i0
      have hq : 0 ≤ n / q ∧ n / q ≤ 200 := ⟨Int.ediv_nonneg i0 (by omega), Int.le_trans (Int.ediv_le_self _ i0) (by omega)⟩
      have hq2 : 0 ≤ n % q ∧ n % q ≤ 200 := ⟨Int.emod_nonneg _ (by omega), by have := Int.emod_lt_of_pos n (show 0 < q by omega); omega⟩
      go_enter Tryz.func95, Tryz.ntmps95
      go_wp2_with (first
        | (go_at_call 57; (with_reducible refine (H0.out _).mono ?_); rintro e w3 ⟨rfl, hn⟩; have c0 : w3.cell? ⟨w.heap.size, 0, none⟩ = some (.int .i64 p) := ((Var.new w 23 [.int .i64 p, .int .i64 q, .int .i64 r]).below hn (by simp)).cell rfl; have c1 : w3.cell? ⟨w.heap.size, 1, none⟩ = some (.int .i64 q) := ((Var.new w 23 [.int .i64 p, .int .i64 q, .int .i64 r]).below hn (by simp)).cell rfl; have c2 : w3.cell? ⟨w.heap.size, 2, none⟩ = some (.int .i64 r) := ((Var.new w 23 [.int .i64 p, .int .i64 q, .int .i64 r]).below hn (by simp)).cell rfl)
        | (go_at_call 94; (with_reducible refine (H1.out _).mono ?_); rintro e w4 ⟨rfl, rfl⟩))
      refine wp_region_is [21, 22, 23, 24, 25, 26, 27, 28, 4, 5, 6] (fun w' => Below w3.heap.size w3 w')
        [.int .i64 n, .pointer (some ⟨w.heap.size, 1, none⟩), .int .i64 q, .int .i64 (n / q), .int .i64 n, .pointer (some ⟨w.heap.size, 1, none⟩), .int .i64 q, .int .i64 (n % q), .int .i64 (n / q), .int .i64 (n % q), .bool true] (by kernel_rfl) (by kernel_rfl) rfl (by decide) (by simp) (Below.refl _ _).drew ?each ?done
      case each =>
        simp only [Each]
        repeat' (first | exact trivial | refine And.intro ?_ ?_)
        all_goals
          intro ys wx hBx hdeps
          simp only [Deps, Region.binds, List.getD_cons_zero, List.getD_cons_succ, forall_const, and_true] at hdeps
          have c0 : wx.cell? ⟨w.heap.size, 0, none⟩ = some (.int .i64 p) := ((Var.new w 23 [.int .i64 p, .int .i64 q, .int .i64 r]).below (hn.trans (hBx.mono hn.size)) (by simp)).cell rfl
          have c1 : wx.cell? ⟨w.heap.size, 1, none⟩ = some (.int .i64 q) := ((Var.new w 23 [.int .i64 p, .int .i64 q, .int .i64 r]).below (hn.trans (hBx.mono hn.size)) (by simp)).cell rfl
          have c2 : wx.cell? ⟨w.heap.size, 2, none⟩ = some (.int .i64 r) := ((Var.new w 23 [.int .i64 p, .int .i64 q, .int .i64 r]).below (hn.trans (hBx.mono hn.size)) (by simp)).cell rfl
          simp only [hdeps, fill, List.foldl_cons, List.foldl_nil, Act.put, List.setIfInBounds_toArray, List.set_cons_succ, List.set_cons_zero]
          first
            | (go_wp2_with fail; exact ⟨_, rfl, rfl, hBx, Below.refl _ _⟩)
      case done =>
        intro ys wx hBx hV
        have h4 : ys 4 = .int .i64 (n / q) := hV 8 (by decide)
        have h5 : ys 5 = .int .i64 (n % q) := hV 9 (by decide)
        have h6 : ys 6 = .bool true := hV 10 (by decide)
        simp only [h4, h5, h6, fill, List.drop_succ_cons, List.drop_zero, List.foldl_cons, List.foldl_nil, Act.put, List.setIfInBounds_toArray, List.set_cons_succ, List.set_cons_zero]
        go_wp2
        go_ret3
        exact ⟨rfl, bel0 (bel_alloc _ _) (bel0 hn hBx)⟩
end Go.Proofs.YtcmjambbdfangaaGreat.Geom
/-
  Rows of cells that may be written; the landed account and the document's own one in memory.
-/
set_option linter.unusedVariables false
set_option linter.unusedSimpArgs false
namespace Go.Proofs.YtcmjambbdfangaaGreat.Chart
open Go.RowKit
open Go.Proofs.YtcmjambbdfangaaGreat.Own
open Tup Foot

/-- a row of cells that may be written -/
def Ro (w : World) (b : Nat) (cs : List Value) : Prop := ∀ j c, cs[j]? = some c → w.cell? ⟨b, j, none⟩ = some c ∧ w.frozen? ⟨b, j, none⟩ = false
theorem Ro.grows {S : Nat → Prop} {w w' : World} {b : Nat} {cs : List Value} (h : Ro w b cs) (g : Grows S w w') (hn : ¬ S b) : Ro w' b cs := fun j c hj => by
  obtain ⟨h1, h2⟩ := h j c hj
  have hB : b < w.heap.size := block_lt_of_cell h1
  have e := g.block b hB hn
  simp only [World.cell?, World.frozen?] at h1 h2 ⊢
  rw [e]; exact ⟨h1, h2⟩
theorem Ro.below {w w' : World} {b : Nat} {cs : List Value} (h : Ro w b cs) (g : Below w.heap.size w w') : Ro w' b cs := h.grows (Grows.of_below (S := fun _ => False) g) (fun x => x)
theorem Ro.set {w : World} {b : Nat} {cs : List Value} (h : Ro w b cs) (i : Nat) (v : Value) : Ro (w.setCell ⟨b, i, none⟩ v) b (cs.set i v) := by
  intro j c hj
  rw [World.frozen?_setCell]
  rw [List.getElem?_set] at hj
  by_cases e : i = j
  · subst e
    simp only [if_true] at hj
    split at hj
    · rename_i hl
      simp only [Option.some.injEq] at hj
      subst hj
      obtain ⟨g1, g2⟩ := h i _ (List.getElem?_eq_getElem hl)
      exact ⟨World.cell?_setCell_same _ _ _ g1, g2⟩
    · simp at hj
  · simp only [e, if_false] at hj
    obtain ⟨h1, h2⟩ := h j c hj
    exact ⟨by rw [World.cell?_setCell_other _ _ _ _ (fun hh => e (congrArg Addr.off hh))]; exact h1, h2⟩
theorem Ro.other {w : World} {b k : Nat} {cs : List Value} (h : Ro w b cs) (i : Nat) (v : Value) (hk : b ≠ k) : Ro (w.setCell ⟨k, i, none⟩ v) b cs :=
  h.grows (Grows.set (S := (· = k)) w ⟨k, i, none⟩ v rfl) hk
theorem Ro.of_owns {w : World} {base : Nat} {e : TypeId} {size g n cap : Nat} {cs : List Value} (h : w.ownsRow base e size (.slice (some ⟨g, 0, none⟩) n cap) n cs) : Ro w g cs := by
  intro j c hj
  refine ⟨?_, h.frozenAt j⟩
  rcases At.of_owns h with hn | ⟨b, off, ha, hl⟩
  · rw [hn] at hj; simp at hj
  · simp only [Option.some.injEq, Addr.mk.injEq, and_true] at ha
    obtain ⟨rfl, rfl⟩ := ha
    have := hl j c hj
    rwa [Nat.zero_add] at this
/-- the cells of the regions' states -/
def stC (l : List (Nat × Nat)) : List Value := l.flatMap fun x => [.int .u32 (x.1 : Int), .int .i64 (x.2 : Int)]
theorem stC_get {l : List (Nat × Nat)} {k : Nat} (h : k < l.length) : (stC l)[k * 2]? = some (.int .u32 (l[k].1 : Int)) ∧ (stC l)[k * 2 + 1]? = some (.int .i64 (l[k].2 : Int)) := by
  induction l generalizing k with
  | nil => simp at h
  | cons x r ih =>
    cases k with
    | zero => exact ⟨rfl, rfl⟩
    | succ k =>
      have := ih (k := k) (by simpa using h)
      simp only [stC, List.flatMap_cons] at this ⊢
      rw [show (k + 1) * 2 = k * 2 + 2 by omega, show k * 2 + 2 + 1 = (k * 2 + 1) + 2 by omega]
      exact this
theorem stC_set (l : List (Nat × Nat)) (k : Nat) (e u : Nat) : stC (l.set k (e, u)) = ((stC l).set (k * 2) (.int .u32 (e : Int))).set (k * 2 + 1) (.int .i64 (u : Int)) := by
  induction l generalizing k with
  | nil => rfl
  | cons x r ih =>
    cases k with
    | zero => rfl
    | succ k =>
      have := ih k
      simp only [stC, List.flatMap_cons, List.set_cons_succ] at this ⊢
      rw [show (k + 1) * 2 = k * 2 + 2 by omega, show k * 2 + 2 + 1 = (k * 2 + 1) + 2 by omega]
      simp only [List.cons_append, List.nil_append, List.set_cons_succ]
      rw [this]
theorem stC_set_used (l : List (Nat × Nat)) (k : Nat) (h : k < l.length) (u : Nat) : stC (l.set k (l[k].1, u)) = (stC l).set (k * 2 + 1) (.int .i64 (u : Int)) := by
  rw [stC_set]
  congr 1
  have h1 := (stC_get h).1
  apply List.ext_getElem?
  intro j
  rw [List.getElem?_set]
  by_cases e : k * 2 = j
  · subst e
    rw [if_pos rfl, h1]
    have := (List.getElem?_eq_some_iff.1 h1).1
    rw [if_pos this]
  · rw [if_neg e]
def ptr (p : Nat) : Value := .pointer (some ⟨p, 0, none⟩)
/-- the landed account, at p: the regions' states at bS -/
structure CAt (w : World) (p : Nat) (c : Ch) (bS cap on : Nat) : Prop where
  var : Var w p 95 [.int .i64 (c.pg : Int), .int .i64 (c.pgs : Int), .int .i64 (c.rgs : Int), .slice (some ⟨bS, 0, none⟩) c.rgs cap, .int .i64 (on : Int), .bool c.now.isSome]
  row : Ro w bS (stC c.st)
  lt : bS < w.heap.size
  onk : ∀ k, c.now = some k → on = k
  on0 : on < 1000
  capl : c.rgs ≤ cap
  ne : bS ≠ p
/-- the blocks that it has -/
def foot (p bS : Nat) : Nat → Prop := fun k => k = p ∨ k = bS
theorem CAt.grows {S : Nat → Prop} {w w' : World} {p : Nat} {c : Ch} {bS cap on : Nat} (h : CAt w p c bS cap on) (g : Grows S w w') (hn : ∀ k, foot p bS k → ¬ S k) : CAt w' p c bS cap on :=
  ⟨g.var h.var (hn p (.inl rfl)), h.row.grows g (hn bS (.inr rfl)), Nat.lt_of_lt_of_le h.lt g.size, h.onk, h.on0, h.capl, h.ne⟩
theorem CAt.below {w w' : World} {p : Nat} {c : Ch} {bS cap on : Nat} (h : CAt w p c bS cap on) (g : Below w.heap.size w w') : CAt w' p c bS cap on := h.grows (Grows.of_below (S := fun _ => False) g) (fun _ _ x => x)
theorem CAt.foot_lt {w : World} {p : Nat} {c : Ch} {bS cap on : Nat} (h : CAt w p c bS cap on) : ∀ k, foot p bS k → k < w.heap.size := by
  rintro k (rfl | rfl)
  · exact h.var.lt
  · exact h.lt
theorem CAt.get {w : World} {p : Nat} {c : Ch} {bS cap on : Nat} (h : CAt w p c bS cap on) (hd : c.Ok) {k : Nat} (hk : k < c.rgs) :
    w.cell? ⟨bS, k * 2, none⟩ = some (.int .u32 (c.ep k : Int)) ∧ w.cell? ⟨bS, k * 2 + 1, none⟩ = some (.int .i64 (c.us k : Int)) ∧ w.frozen? ⟨bS, k * 2, none⟩ = false ∧ w.frozen? ⟨bS, k * 2 + 1, none⟩ = false := by
  have hl : k < c.st.length := by rw [hd.len]; exact hk
  obtain ⟨h0, h1⟩ := stC_get hl
  rw [st_get hl] at h0 h1
  obtain ⟨a1, a2⟩ := h.row _ _ h0
  obtain ⟨b1, b2⟩ := h.row _ _ h1
  exact ⟨a1, b1, a2, b2⟩
/-- a region's state is written -/
theorem CAt.putAt {w : World} {p : Nat} {c : Ch} {bS cap on : Nat} (h : CAt w p c bS cap on) (k e u : Nat) :
    CAt ((w.setCell ⟨bS, k * 2, none⟩ (.int .u32 (e : Int))).setCell ⟨bS, k * 2 + 1, none⟩ (.int .i64 (u : Int))) p (c.put k e u) bS cap on
    ∧ Grows (foot p bS) w ((w.setCell ⟨bS, k * 2, none⟩ (.int .u32 (e : Int))).setCell ⟨bS, k * 2 + 1, none⟩ (.int .i64 (u : Int))) := by
  have g1 := (Grows.set (S := (· = bS)) w ⟨bS, k * 2, none⟩ (.int .u32 (e : Int)) rfl).trans (Grows.set (S := (· = bS)) _ ⟨bS, k * 2 + 1, none⟩ (.int .i64 (u : Int)) rfl) (fun _ x => .inl x)
  refine ⟨⟨g1.var h.var (fun x => h.ne x.symm), ?_, Nat.lt_of_lt_of_le h.lt g1.size, h.onk, h.on0, h.capl, h.ne⟩, g1.mono fun _ x => .inr x⟩
  have := (h.row.set (k * 2) (.int .u32 (e : Int))).set (k * 2 + 1) (.int .i64 (u : Int))
  rw [← stC_set] at this
  exact this
theorem CAt.useAt {w : World} {p : Nat} {c : Ch} {bS cap on : Nat} (h : CAt w p c bS cap on) (hd : c.Ok) (k u : Nat) (hk : k < c.rgs) :
    CAt (w.setCell ⟨bS, k * 2 + 1, none⟩ (.int .i64 (u : Int))) p (c.put k (c.ep k) u) bS cap on
    ∧ Grows (foot p bS) w (w.setCell ⟨bS, k * 2 + 1, none⟩ (.int .i64 (u : Int))) := by
  have g1 := Grows.set (S := (· = bS)) w ⟨bS, k * 2 + 1, none⟩ (.int .i64 (u : Int)) rfl
  refine ⟨⟨g1.var h.var (fun x => h.ne x.symm), ?_, Nat.lt_of_lt_of_le h.lt g1.size, h.onk, h.on0, h.capl, h.ne⟩, g1.mono fun _ x => .inr x⟩
  have hl : k < c.st.length := by rw [hd.len]; exact hk
  have := h.row.set (k * 2 + 1) (.int .i64 (u : Int))
  rw [← stC_set_used c.st k hl, st_get hl] at this
  exact this
/-- a region is open from now on -/
theorem CAt.nowAt {w : World} {p : Nat} {c : Ch} {bS cap on : Nat} (h : CAt w p c bS cap on) (k : Nat) (hk : k < 1000) :
    CAt ((w.setCell ⟨p, 4, none⟩ (.int .i64 (k : Int))).setCell ⟨p, 5, none⟩ (.bool true)) p { c with now := some k } bS cap k
    ∧ Grows (foot p bS) w ((w.setCell ⟨p, 4, none⟩ (.int .i64 (k : Int))).setCell ⟨p, 5, none⟩ (.bool true)) := by
  have g1 := (Grows.set (S := (· = p)) w ⟨p, 4, none⟩ (.int .i64 (k : Int)) rfl).trans (Grows.set (S := (· = p)) _ ⟨p, 5, none⟩ (.bool true) rfl) (fun _ x => .inl x)
  exact ⟨⟨(h.var.set 4 (.int .i64 (k : Int))).set 5 (.bool true), h.row.grows g1 h.ne, Nat.lt_of_lt_of_le h.lt g1.size, fun j hj => by simpa using hj, hk, h.capl, h.ne⟩, g1.mono fun _ x => .inl x⟩
/-- the landed account, with the blocks that it has -/
def CHas (w : World) (p : Nat) (c : Ch) (S : Nat → Prop) : Prop := ∃ bS cap on, CAt w p c bS cap on ∧ S = foot p bS
theorem CHas.grows {T S : Nat → Prop} {w w' : World} {p : Nat} {c : Ch} (h : CHas w p c S) (g : Grows T w w') (hn : ∀ k, S k → ¬ T k) : CHas w' p c S := by
  obtain ⟨a, b, d, h, rfl⟩ := h
  exact ⟨a, b, d, h.grows g hn, rfl⟩
theorem CHas.below {w w' : World} {p : Nat} {c : Ch} {S : Nat → Prop} (h : CHas w p c S) (g : Below w.heap.size w w') : CHas w' p c S := h.grows (Grows.of_below (S := fun _ => False) g) (fun _ _ x => x)
theorem CHas.lt {w : World} {p : Nat} {c : Ch} {S : Nat → Prop} (h : CHas w p c S) : ∀ k, S k → k < w.heap.size := by
  obtain ⟨a, b, d, h, rfl⟩ := h
  exact h.foot_lt
theorem bel2 {a w1 w2 : World} (h : Below a.heap.size a w1) (k : Below w1.heap.size w1 w2) : Below a.heap.size a w2 := h.trans (k.mono h.size)
theorem ret_bool {a b : Bool} (h : a = b) : Ending.returned (.bool a) = .returned (.bool b) := by rw [h]
theorem ret_int {k : IntKind} {a b : Int} (h : a = b) : Ending.returned (.int k a) = .returned (.int k b) := by rw [h]
theorem geo_right {c : Ch} (h : c.Ok) : Geom.rightG ⟨c.pg, c.pgs, c.rgs⟩ = true :=
  Geom.right_small.mpr ⟨by simp only; have := h.p0; omega, by simp only; have := h.p1; omega, by simp only; have := h.s0; omega, by simp only; have := h.s1; omega, by simp only; have := h.r0; omega, by simp only; have := h.r1; omega⟩
theorem geo_slots {c : Ch} (h : c.Ok) : Geom.slotsG ⟨c.pg, c.pgs, c.rgs⟩ = (c.slots : Int) := by
  unfold Geom.slotsG Ch.slots
  have := h.s0
  simp only; omega
/-- the document's own account, at r: the epochs at bE, what is used at bU -/
structure DAt (w : World) (r : Nat) (c : Ch) (bE capE bU capU : Nat) : Prop where
  var : Var w r 82 [.int .i64 (c.pg : Int), .int .i64 (c.pgs : Int), .int .i64 (c.rgs : Int), .slice (some ⟨bE, 0, none⟩) c.rgs capE, .slice (some ⟨bU, 0, none⟩) c.rgs capU, .int .i64 (match c.now with | none => -1 | some k => (k : Int))]
  rowE : Ro w bE (c.st.map fun x => .int .u32 (x.1 : Int))
  rowU : Ro w bU (c.st.map fun x => .int .i64 (x.2 : Int))
  ltE : bE < w.heap.size
  ltU : bU < w.heap.size
  capE : c.rgs ≤ capE
  capU : c.rgs ≤ capU
  neE : bE ≠ r
  neU : bU ≠ r
  ne : bE ≠ bU
def footD (r bE bU : Nat) : Nat → Prop := fun k => k = r ∨ k = bE ∨ k = bU
theorem DAt.grows {S : Nat → Prop} {w w' : World} {r : Nat} {c : Ch} {bE capE bU capU : Nat} (h : DAt w r c bE capE bU capU) (g : Grows S w w') (hn : ∀ k, footD r bE bU k → ¬ S k) : DAt w' r c bE capE bU capU :=
  ⟨g.var h.var (hn r (.inl rfl)), h.rowE.grows g (hn bE (.inr (.inl rfl))), h.rowU.grows g (hn bU (.inr (.inr rfl))), Nat.lt_of_lt_of_le h.ltE g.size, Nat.lt_of_lt_of_le h.ltU g.size, h.capE, h.capU, h.neE, h.neU, h.ne⟩
theorem DAt.below {w w' : World} {r : Nat} {c : Ch} {bE capE bU capU : Nat} (h : DAt w r c bE capE bU capU) (g : Below w.heap.size w w') : DAt w' r c bE capE bU capU := h.grows (Grows.of_below (S := fun _ => False) g) (fun _ _ x => x)
theorem DAt.foot_lt {w : World} {r : Nat} {c : Ch} {bE capE bU capU : Nat} (h : DAt w r c bE capE bU capU) : ∀ k, footD r bE bU k → k < w.heap.size := by
  rintro k (rfl | rfl | rfl)
  · exact h.var.lt
  · exact h.ltE
  · exact h.ltU
theorem DAt.getE {w : World} {r : Nat} {c : Ch} {bE capE bU capU : Nat} (h : DAt w r c bE capE bU capU) (hd : c.Ok) {k : Nat} (hk : k < c.rgs) : w.cell? ⟨bE, k, none⟩ = some (.int .u32 (c.ep k : Int)) ∧ w.frozen? ⟨bE, k, none⟩ = false := by
  have hl : k < c.st.length := by rw [hd.len]; exact hk
  have := h.rowE k (.int .u32 (c.ep k : Int)) (by rw [List.getElem?_map, List.getElem?_eq_getElem hl, st_get hl]; rfl)
  exact this
theorem DAt.getU {w : World} {r : Nat} {c : Ch} {bE capE bU capU : Nat} (h : DAt w r c bE capE bU capU) (hd : c.Ok) {k : Nat} (hk : k < c.rgs) : w.cell? ⟨bU, k, none⟩ = some (.int .i64 (c.us k : Int)) ∧ w.frozen? ⟨bU, k, none⟩ = false := by
  have hl : k < c.st.length := by rw [hd.len]; exact hk
  have := h.rowU k (.int .i64 (c.us k : Int)) (by rw [List.getElem?_map, List.getElem?_eq_getElem hl, st_get hl]; rfl)
  exact this
theorem DAt.putAt {w : World} {r : Nat} {c : Ch} {bE capE bU capU : Nat} (h : DAt w r c bE capE bU capU) (k e u : Nat) :
    DAt ((w.setCell ⟨bE, k, none⟩ (.int .u32 (e : Int))).setCell ⟨bU, k, none⟩ (.int .i64 (u : Int))) r (c.put k e u) bE capE bU capU
    ∧ Grows (footD r bE bU) w ((w.setCell ⟨bE, k, none⟩ (.int .u32 (e : Int))).setCell ⟨bU, k, none⟩ (.int .i64 (u : Int))) := by
  have g1 := (Grows.set (S := fun k => k = bE ∨ k = bU) w ⟨bE, k, none⟩ (.int .u32 (e : Int)) (.inl rfl)).trans (Grows.set (S := fun k => k = bE ∨ k = bU) _ ⟨bU, k, none⟩ (.int .i64 (u : Int)) (.inr rfl)) (fun _ x => .inl x)
  refine ⟨⟨g1.var h.var (fun x => x.elim (fun y => h.neE y.symm) (fun y => h.neU y.symm)), ?_, ?_, Nat.lt_of_lt_of_le h.ltE g1.size, Nat.lt_of_lt_of_le h.ltU g1.size, h.capE, h.capU, h.neE, h.neU, h.ne⟩, g1.mono fun _ x => .inr x⟩
  · have := (h.rowE.set k (.int .u32 (e : Int))).other k (.int .i64 (u : Int)) h.ne
    rw [show (c.put k e u).st.map (fun x => Value.int .u32 (x.1 : Int)) = (c.st.map fun x => Value.int .u32 (x.1 : Int)).set k (.int .u32 (e : Int)) by simp [Ch.put, List.map_set]]
    exact this
  · have := (h.rowU.other k (.int .u32 (e : Int)) (Ne.symm h.ne)).set k (.int .i64 (u : Int))
    rw [show (c.put k e u).st.map (fun x => Value.int .i64 (x.2 : Int)) = (c.st.map fun x => Value.int .i64 (x.2 : Int)).set k (.int .i64 (u : Int)) by simp [Ch.put, List.map_set]]
    exact this
theorem map_set_id {α β : Type} (f : α → β) (l : List α) (k : Nat) (x y : α) (hx : l[k]? = some x) (he : f y = f x) : (l.set k y).map f = l.map f := by
  apply List.ext_getElem?
  intro j
  rw [List.getElem?_map, List.getElem?_map, List.getElem?_set]
  by_cases e : k = j
  · subst e
    have hl := (List.getElem?_eq_some_iff.1 hx).1
    have hg : l[k] = x := (List.getElem?_eq_some_iff.1 hx).2
    simp [hl, he, hg]
  · simp [e]
theorem DAt.useAt {w : World} {r : Nat} {c : Ch} {bE capE bU capU : Nat} (h : DAt w r c bE capE bU capU) (hd : c.Ok) (k u : Nat) (hk : k < c.rgs) :
    DAt (w.setCell ⟨bU, k, none⟩ (.int .i64 (u : Int))) r (c.put k (c.ep k) u) bE capE bU capU
    ∧ Grows (footD r bE bU) w (w.setCell ⟨bU, k, none⟩ (.int .i64 (u : Int))) := by
  have g1 := Grows.set (S := (· = bU)) w ⟨bU, k, none⟩ (.int .i64 (u : Int)) rfl
  have hl : k < c.st.length := by rw [hd.len]; exact hk
  refine ⟨⟨g1.var h.var (fun y => h.neU y.symm), ?_, ?_, Nat.lt_of_lt_of_le h.ltE g1.size, Nat.lt_of_lt_of_le h.ltU g1.size, h.capE, h.capU, h.neE, h.neU, h.ne⟩, g1.mono fun _ x => .inr (.inr x)⟩
  · have e : (c.put k (c.ep k) u).st.map (fun x => Value.int .u32 (x.1 : Int)) = c.st.map (fun x => Value.int .u32 (x.1 : Int)) :=
      map_set_id _ c.st k _ _ (List.getElem?_eq_getElem hl) (by rw [st_get hl])
    rw [e]
    exact h.rowE.other k _ h.ne
  · have := h.rowU.set k (.int .i64 (u : Int))
    rw [show (c.put k (c.ep k) u).st.map (fun x => Value.int .i64 (x.2 : Int)) = (c.st.map fun x => Value.int .i64 (x.2 : Int)).set k (.int .i64 (u : Int)) by simp [Ch.put, List.map_set]]
    exact this
theorem DAt.nowAt {w : World} {r : Nat} {c : Ch} {bE capE bU capU : Nat} (h : DAt w r c bE capE bU capU) (k : Nat) :
    DAt (w.setCell ⟨r, 5, none⟩ (.int .i64 (k : Int))) r { c with now := some k } bE capE bU capU
    ∧ Grows (footD r bE bU) w (w.setCell ⟨r, 5, none⟩ (.int .i64 (k : Int))) := by
  have g1 := Grows.set (S := (· = r)) w ⟨r, 5, none⟩ (.int .i64 (k : Int)) rfl
  exact ⟨⟨h.var.set 5 (.int .i64 (k : Int)), h.rowE.grows g1 h.neE, h.rowU.grows g1 h.neU, Nat.lt_of_lt_of_le h.ltE g1.size, Nat.lt_of_lt_of_le h.ltU g1.size, h.capE, h.capU, h.neE, h.neU, h.ne⟩, g1.mono fun _ x => .inl x⟩
def DHas (w : World) (r : Nat) (c : Ch) (S : Nat → Prop) : Prop := ∃ bE capE bU capU, DAt w r c bE capE bU capU ∧ S = footD r bE bU
theorem DHas.grows {T S : Nat → Prop} {w w' : World} {p : Nat} {c : Ch} (h : DHas w p c S) (g : Grows T w w') (hn : ∀ k, S k → ¬ T k) : DHas w' p c S := by
  obtain ⟨a, b, d, e, h, rfl⟩ := h
  exact ⟨a, b, d, e, h.grows g hn, rfl⟩
theorem DHas.below {w w' : World} {p : Nat} {c : Ch} {S : Nat → Prop} (h : DHas w p c S) (g : Below w.heap.size w w') : DHas w' p c S := h.grows (Grows.of_below (S := fun _ => False) g) (fun _ _ x => x)
theorem DHas.lt {w : World} {p : Nat} {c : Ch} {S : Nat → Prop} (h : DHas w p c S) : ∀ k, S k → k < w.heap.size := by
  obtain ⟨a, b, d, e, h, rfl⟩ := h
  exact h.foot_lt
end Go.Proofs.YtcmjambbdfangaaGreat.Chart
