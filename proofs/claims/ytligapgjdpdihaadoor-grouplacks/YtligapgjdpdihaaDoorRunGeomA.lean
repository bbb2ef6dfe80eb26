/-
  Joined texts: GeomA, GeomB, GeomX.
-/
import Derived.Test.YtligapgjdpdihaaDoorRunTup
import Derived.Test.YtligapgjdpdihaaDoorRunRegion
import Derived.Deep.QuietTactic
import Derived.BigQuiet
import Derived.Test.YtligapgjdpdihaaDoorRunCommon
/-
  What the document's own geometry answers, of any numbers.
-/
set_option linter.unusedVariables false
set_option linter.unusedSimpArgs false
namespace Go.Proofs.YtligapgjdpdihaaDoor.Geom
open Go.RowKit
open Own Tup
open Go.Proofs.YtligapgjdpdihaaDoor.Region (fill Then Deps Each wp_region_is wp_region_is_tail)

structure Gm where
  page : Int
  pages : Int
  regions : Int
  deriving DecidableEq
/-- a geom as a value -/
def gV (g : Gm) : Value := .agg #[.int .i64 g.page, .int .i64 g.pages, .int .i64 g.regions]
def gC (g : Gm) : List Value := [.int .i64 g.page, .int .i64 g.pages, .int .i64 g.regions]
def rightG (g : Gm) : Bool := decide (32 ≤ g.page) && decide (g.page ≤ 128) && decide (3 ≤ g.pages) && decide (g.pages ≤ 10) && decide (4 ≤ g.regions) && decide (g.regions ≤ 12)
structure Small (g : Gm) : Prop where
  p0 : 32 ≤ g.page
  p1 : g.page ≤ 128
  s0 : 3 ≤ g.pages
  s1 : g.pages ≤ 10
  r0 : 4 ≤ g.regions
  r1 : g.regions ≤ 12
theorem right_small {g : Gm} : rightG g = true ↔ Small g := by
  unfold rightG
  simp only [Bool.and_eq_true, decide_eq_true_eq]
  exact ⟨fun h => ⟨h.1.1.1.1.1, h.1.1.1.1.2, h.1.1.1.2, h.1.1.2, h.1.2, h.2⟩, fun h => ⟨⟨⟨⟨⟨h.p0, h.p1⟩, h.s0⟩, h.s1⟩, h.r0⟩, h.r1⟩⟩
theorem bel_alloc (w : World) (o : Obj) : Below w.heap.size w (w.alloc o) := (Below.refl _ _).alloc (Nat.le_refl _) o
theorem bel0 {a w1 w2 : World} (h : Below a.heap.size a w1) (k : Below w1.heap.size w1 w2) : Below a.heap.size a w2 := h.trans (k.mono h.size)
theorem ret_bool {a b : Bool} (h : a = b) : Ending.returned (.bool a) = .returned (.bool b) := by rw [h]
theorem ret_int {k : IntKind} {a b : Int} (h : a = b) : Ending.returned (.int k a) = .returned (.int k b) := by rw [h]
set_option maxRecDepth 100000 in
set_option maxHeartbeats 4000000 in
theorem refRight_any (g : Gm) (w : World) : Calls Tryd.prog 31 #[gV g] w fun e w' => e = .returned (.bool (rightG g)) ∧ Below w.heap.size w w' := by
  obtain ⟨p, q, r⟩ := g
  have hd : decide (32 ≤ p) = false ∨ (decide (32 ≤ p) = true ∧ decide (p ≤ 128) = false) ∨ (decide (32 ≤ p) = true ∧ decide (p ≤ 128) = true ∧ decide (3 ≤ q) = false) ∨ (decide (32 ≤ p) = true ∧ decide (p ≤ 128) = true ∧ decide (3 ≤ q) = true ∧ decide (q ≤ 10) = false)
    ∨ (decide (32 ≤ p) = true ∧ decide (p ≤ 128) = true ∧ decide (3 ≤ q) = true ∧ decide (q ≤ 10) = true ∧ decide (4 ≤ r) = false) ∨ (decide (32 ≤ p) = true ∧ decide (p ≤ 128) = true ∧ decide (3 ≤ q) = true ∧ decide (q ≤ 10) = true ∧ decide (4 ≤ r) = true ∧ decide (r ≤ 12) = false)
    ∨ (decide (32 ≤ p) = true ∧ decide (p ≤ 128) = true ∧ decide (3 ≤ q) = true ∧ decide (q ≤ 10) = true ∧ decide (4 ≤ r) = true ∧ decide (r ≤ 12) = true) := by
    simp only [decide_eq_true_eq, decide_eq_false_iff_not]; omega
  unfold gV
  rcases hd with h1 | ⟨h1, h2⟩ | ⟨h1, h2, h3⟩ | ⟨h1, h2, h3, h4⟩ | ⟨h1, h2, h3, h4, h5⟩ | ⟨h1, h2, h3, h4, h5, h6⟩ | ⟨h1, h2, h3, h4, h5, h6⟩
  all_goals
    go_enter Tryd.func31, Tryd.ntmps31
    go_wp2
    go_ret
    exact ⟨ret_bool (by unfold rightG; simp [*]), bel_alloc _ _⟩
theorem mul_le {a b A B : Int} (ha : 0 ≤ a) (h1 : a ≤ A) (hb : 0 ≤ b) (h2 : b ≤ B) : 0 ≤ a * b ∧ a * b ≤ A * B :=
  ⟨Int.mul_nonneg ha hb, Int.mul_le_mul h1 h2 hb (by omega)⟩
def sizeG (g : Gm) : Int := g.page * g.pages * g.regions
def roomG (g : Gm) : Int := g.page - 15
def slotsG (g : Gm) : Int := g.pages - 1
def mostG (g : Gm) : Int := (g.regions - 3) * (g.pages - 1)
def heldG (g : Gm) : Int := (g.regions - 2) * (g.pages - 1)
def clampG (n : Int) : Int := min (max n 1) 1048576
def needG (g : Gm) (n : Int) : Int := (clampG n + (g.page - 15) - 1) / (g.page - 15) + 1
theorem refRoom_any (g : Gm) (hg : Small g) (w : World) : Calls Tryd.prog 34 #[gV g] w fun e w' => e = .returned (.int .i64 (roomG g)) ∧ Below w.heap.size w w' := by
  obtain ⟨p0, p1, s0, s1, r0, r1⟩ := hg
  obtain ⟨p, q, r⟩ := g
  simp only at p0 p1 s0 s1 r0 r1
  have m1 := mul_le (show 0 ≤ p by omega) p1 (show 0 ≤ q by omega) s1
  have m2 := mul_le m1.1 m1.2 (show 0 ≤ r by omega) r1
  have m3 := mul_le (show 0 ≤ r - 3 by omega) (show r - 3 ≤ 9 by omega) (show 0 ≤ q - 1 by omega) (show q - 1 ≤ 9 by omega)
  have m4 := mul_le (show 0 ≤ r - 2 by omega) (show r - 2 ≤ 10 by omega) (show 0 ≤ q - 1 by omega) (show q - 1 ≤ 9 by omega)
  unfold gV
  go_enter Tryd.func34, Tryd.ntmps34
  go_wp2
  go_ret
  exact ⟨rfl, bel_alloc _ _⟩
theorem refSlots_any (g : Gm) (hg : Small g) (w : World) : Calls Tryd.prog 69 #[gV g] w fun e w' => e = .returned (.int .i64 (slotsG g)) ∧ Below w.heap.size w w' := by
  obtain ⟨p0, p1, s0, s1, r0, r1⟩ := hg
  obtain ⟨p, q, r⟩ := g
  simp only at p0 p1 s0 s1 r0 r1
  have m1 := mul_le (show 0 ≤ p by omega) p1 (show 0 ≤ q by omega) s1
  have m2 := mul_le m1.1 m1.2 (show 0 ≤ r by omega) r1
  have m3 := mul_le (show 0 ≤ r - 3 by omega) (show r - 3 ≤ 9 by omega) (show 0 ≤ q - 1 by omega) (show q - 1 ≤ 9 by omega)
  have m4 := mul_le (show 0 ≤ r - 2 by omega) (show r - 2 ≤ 10 by omega) (show 0 ≤ q - 1 by omega) (show q - 1 ≤ 9 by omega)
  unfold gV
  go_enter Tryd.func69, Tryd.ntmps69
  go_wp2
  go_ret
  exact ⟨rfl, bel_alloc _ _⟩
theorem refMost_any (g : Gm) (hg : Small g) (w : World) : Calls Tryd.prog 33 #[gV g] w fun e w' => e = .returned (.int .i64 (mostG g)) ∧ Below w.heap.size w w' := by
  obtain ⟨p0, p1, s0, s1, r0, r1⟩ := hg
  obtain ⟨p, q, r⟩ := g
  simp only at p0 p1 s0 s1 r0 r1
  have m1 := mul_le (show 0 ≤ p by omega) p1 (show 0 ≤ q by omega) s1
  have m2 := mul_le m1.1 m1.2 (show 0 ≤ r by omega) r1
  have m3 := mul_le (show 0 ≤ r - 3 by omega) (show r - 3 ≤ 9 by omega) (show 0 ≤ q - 1 by omega) (show q - 1 ≤ 9 by omega)
  have m4 := mul_le (show 0 ≤ r - 2 by omega) (show r - 2 ≤ 10 by omega) (show 0 ≤ q - 1 by omega) (show q - 1 ≤ 9 by omega)
  unfold gV
  have H : Hid (∀ w, Calls Tryd.prog 69 #[.agg #[.int .i64 p, .int .i64 q, .int .i64 r]] w fun e w' => e = .returned (.int .i64 (q - 1)) ∧ Below w.heap.size w w') := fun w => refSlots_any ⟨p, q, r⟩ ⟨p0, p1, s0, s1, r0, r1⟩ w
  go_enter Tryd.func33, Tryd.ntmps33
  go_wp2
  refine wp_region_is [3, 4, 5, 6, 7, 8, 2] (fun w' => Below (w.alloc (.cells #[.int .i64 p, .int .i64 q, .int .i64 r] 23)).heap.size (w.alloc (.cells #[.int .i64 p, .int .i64 q, .int .i64 r] 23)) w')
    [.pointer (some ⟨w.heap.size, 2, none⟩), .int .i64 r, .int .i64 (r - 3), .agg #[.int .i64 p, .int .i64 q, .int .i64 r], .int .i64 (q - 1), .int .i64 ((r - 3) * (q - 1)), .int .i64 ((r - 3) * (q - 1))] (by kernel_rfl) (by kernel_rfl) rfl (by decide) (by simp) (Below.refl _ _).drew ?each ?done
  case each =>
    simp only [Each]
    repeat' (first | exact trivial | refine And.intro ?_ ?_)
    all_goals
      intro ys wx hBx hdeps
      simp only [Deps, Region.binds, List.getD_cons_zero, List.getD_cons_succ, forall_const, and_true] at hdeps
      have c0 : wx.cell? ⟨w.heap.size, 0, none⟩ = some (.int .i64 p) := ((Var.new w 23 [.int .i64 p, .int .i64 q, .int .i64 r]).below hBx (by simp)).cell rfl
      have c1 : wx.cell? ⟨w.heap.size, 1, none⟩ = some (.int .i64 q) := ((Var.new w 23 [.int .i64 p, .int .i64 q, .int .i64 r]).below hBx (by simp)).cell rfl
      have c2 : wx.cell? ⟨w.heap.size, 2, none⟩ = some (.int .i64 r) := ((Var.new w 23 [.int .i64 p, .int .i64 q, .int .i64 r]).below hBx (by simp)).cell rfl
      simp only [hdeps, fill, List.foldl_cons, List.foldl_nil, Act.put, List.setIfInBounds_toArray, List.set_cons_succ, List.set_cons_zero]
      first
        | (go_wp2_with fail; exact ⟨_, rfl, rfl, hBx, Below.refl _ _⟩)
        | (go_wp2_with (go_at_call 69; (with_reducible refine (H.out _).mono ?_); rintro e w3 ⟨rfl, hn⟩); exact ⟨_, rfl, rfl, hBx.trans (hn.mono hBx.size), hn⟩)
  case done =>
    intro ys wx hBx hV
    have h2 : ys 2 = .int .i64 ((r - 3) * (q - 1)) := hV 6 (by decide)
    simp only [h2, fill, List.drop_succ_cons, List.drop_zero, List.foldl_cons, List.foldl_nil, Act.put, List.setIfInBounds_toArray, List.set_cons_succ, List.set_cons_zero]
    go_wp2
    go_ret
    exact ⟨rfl, bel0 (bel_alloc _ _) hBx⟩
theorem min2 {P : Program} (w : World) (ts : Array TypeId) (t : TypeId) (x k m : Int) (hm : m = min x k) : (Builtin.min_ ts t #[.int .i64 x, .int .i64 k]).run P w = .ok (.int .i64 m) w := by
  have e : (Builtin.min_ ts t #[.int .i64 x, .int .i64 k]).run P w = .ok (.int .i64 (if k < x then k else x)) w := by
    simp [Builtin.min_, Builtin.min2]
  rw [e, hm]; congr 2; split <;> omega
theorem max2 {P : Program} (w : World) (ts : Array TypeId) (t : TypeId) (x k m : Int) (hm : m = max x k) : (Builtin.max_ ts t #[.int .i64 x, .int .i64 k]).run P w = .ok (.int .i64 m) w := by
  have e : (Builtin.max_ ts t #[.int .i64 x, .int .i64 k]).run P w = .ok (.int .i64 (if x < k then k else x)) w := by
    simp [Builtin.max_, Builtin.max2]
  rw [e, hm]; congr 2; split <;> omega
set_option maxRecDepth 100000 in
theorem refNeed_any (g : Gm) (hg : Small g) (n : Int) (w : World) : Calls Tryd.prog 32 #[gV g, .int .i64 n] w fun e w' => e = .returned (.int .i64 (needG g n)) ∧ Below w.heap.size w w' := by
  obtain ⟨p0, p1, s0, s1, r0, r1⟩ := hg
  obtain ⟨p, q, r⟩ := g
  simp only at p0 p1 s0 s1 r0 r1
  unfold gV
  obtain ⟨m0, hm0⟩ : ∃ m0, m0 = max n 1 := ⟨_, rfl⟩
  obtain ⟨m, hm⟩ : ∃ m, m = min m0 1048576 := ⟨_, rfl⟩
  have hmx := fun w ts t => max2 (P := Tryd.prog) w ts t n 1 m0 hm0
  have hmn := fun w ts t => min2 (P := Tryd.prog) w ts t m0 1048576 m hm
  have b0 : 1 ≤ m ∧ m ≤ 1048576 := by omega
  have hq : 0 ≤ (m + (p - 15) - 1) / (p - 15) ∧ (m + (p - 15) - 1) / (p - 15) ≤ 2000000 := by
    refine ⟨Int.ediv_nonneg (by omega) (by omega), Int.le_trans (Int.ediv_le_self _ (by omega)) (by omega)⟩
  have hz : (p - 15 == 0) = false := by simp; omega
  have htd : (m + (p - 15) - 1).tdiv (p - 15) = (m + (p - 15) - 1) / (p - 15) := Int.tdiv_eq_ediv_of_nonneg (by omega)
  have HV := Lib.hid (show Ending.returned (.int .i64 ((m + (p - 15) - 1) / (p - 15) + 1)) = .returned (.int .i64 (needG ⟨p, q, r⟩ n)) by unfold needG clampG; rw [hm, hm0])
  clear hm hm0
  have H : Hid (∀ w, Calls Tryd.prog 34 #[.agg #[.int .i64 p, .int .i64 q, .int .i64 r]] w fun e w' => e = .returned (.int .i64 (p - 15)) ∧ Below w.heap.size w w') := fun w => refRoom_any ⟨p, q, r⟩ ⟨p0, p1, s0, s1, r0, r1⟩ w
  go_enter Tryd.func32, Tryd.ntmps32
  go_wp2
  refine wp_region_is [8, 9, 10, 11, 12, 13, 14, 15, 16, 4] (fun w' => Below (w.alloc (.cells #[.int .i64 p, .int .i64 q, .int .i64 r] 23)).heap.size (w.alloc (.cells #[.int .i64 p, .int .i64 q, .int .i64 r] 23)) w')
    [.int .i64 m, .agg #[.int .i64 p, .int .i64 q, .int .i64 r], .int .i64 (p - 15), .int .i64 (m + (p - 15)), .int .i64 (m + (p - 15) - 1), .agg #[.int .i64 p, .int .i64 q, .int .i64 r], .int .i64 (p - 15), .int .i64 ((m + (p - 15) - 1) / (p - 15)), .int .i64 ((m + (p - 15) - 1) / (p - 15) + 1), .int .i64 ((m + (p - 15) - 1) / (p - 15) + 1)] (by kernel_rfl) (by kernel_rfl) rfl (by decide) (by simp) (Below.refl _ _).drew ?each ?done
  case each =>
    simp only [Each]
    repeat' (first | exact trivial | refine And.intro ?_ ?_)
    all_goals
      intro ys wx hBx hdeps
      simp only [Deps, Region.binds, List.getD_cons_zero, List.getD_cons_succ, forall_const, and_true] at hdeps
      have c0 : wx.cell? ⟨w.heap.size, 0, none⟩ = some (.int .i64 p) := ((Var.new w 23 [.int .i64 p, .int .i64 q, .int .i64 r]).below hBx (by simp)).cell rfl
      have c1 : wx.cell? ⟨w.heap.size, 1, none⟩ = some (.int .i64 q) := ((Var.new w 23 [.int .i64 p, .int .i64 q, .int .i64 r]).below hBx (by simp)).cell rfl
      have c2 : wx.cell? ⟨w.heap.size, 2, none⟩ = some (.int .i64 r) := ((Var.new w 23 [.int .i64 p, .int .i64 q, .int .i64 r]).below hBx (by simp)).cell rfl
      simp only [hdeps, fill, List.foldl_cons, List.foldl_nil, Act.put, List.setIfInBounds_toArray, List.set_cons_succ, List.set_cons_zero]
      first
        | (go_wp2_with fail; exact ⟨_, rfl, rfl, hBx, Below.refl _ _⟩)
        | (go_wp2_with (go_at_call 34; (with_reducible refine (H.out _).mono ?_); rintro e w3 ⟨rfl, hn⟩); exact ⟨_, rfl, rfl, hBx.trans (hn.mono hBx.size), hn⟩)
  case done =>
    intro ys wx hBx hV
    have h4 : ys 4 = .int .i64 ((m + (p - 15) - 1) / (p - 15) + 1) := hV 9 (by decide)
    simp only [h4, fill, List.drop_succ_cons, List.drop_zero, List.foldl_cons, List.foldl_nil, Act.put, List.setIfInBounds_toArray, List.set_cons_succ, List.set_cons_zero]
    go_wp2
    go_ret
    exact ⟨HV.out, bel0 (bel_alloc _ _) hBx⟩
end Go.Proofs.YtligapgjdpdihaaDoor.Geom
/-
  What the book's Geom answers: a small one, made of any numbers.
-/
set_option linter.unusedVariables false
set_option linter.unusedSimpArgs false
namespace Go.Proofs.YtligapgjdpdihaaDoor.Geom
open Go.RowKit
open Own Tup
open Go.Proofs.YtligapgjdpdihaaDoor.Region (fill Then Deps Each wp_region_is wp_region_is_tail)
def smallG (g : Gm) : Gm := ⟨32 + g.page % 33, 3 + g.pages % 4, 4 + g.regions % 4⟩
def pageG (g : Gm) (i s : Int) : Int × Bool := if rightG g = true ∧ 0 ≤ i ∧ i < g.regions ∧ 0 ≤ s ∧ s < g.pages then (i * g.pages + s, true) else (0, false)
def whereG (g : Gm) (n : Int) : Int × Int × Bool := if rightG g = true ∧ 0 ≤ n ∧ n < g.pages * g.regions then (n / g.pages, n % g.pages, true) else (0, 0, false)
theorem small_small (g : Gm) : Small (smallG g) := by
  unfold smallG
  refine ⟨?_, ?_, ?_, ?_, ?_, ?_⟩ <;> simp only <;> omega
set_option maxRecDepth 100000 in
theorem geom_any (g : Gm) (w : World) : Calls Tryd.prog 9 #[gV g] w fun e w' => e = .returned (gV (smallG g)) ∧ Below w.heap.size w w' := by
  obtain ⟨p, q, r⟩ := g
  have H1 : Hid (∀ w, Calls Tryd.prog 22 #[.int .i64 p, .int .i64 33] w fun e w' => e = .returned (.int .i64 (p % 33)) ∧ w = w') := fun w => Book.pick_any p 33 (by decide) (by decide) w
  have H2 : Hid (∀ w, Calls Tryd.prog 22 #[.int .i64 q, .int .i64 4] w fun e w' => e = .returned (.int .i64 (q % 4)) ∧ w = w') := fun w => Book.pick_any q 4 (by decide) (by decide) w
  have H3 : Hid (∀ w, Calls Tryd.prog 22 #[.int .i64 r, .int .i64 4] w fun e w' => e = .returned (.int .i64 (r % 4)) ∧ w = w') := fun w => Book.pick_any r 4 (by decide) (by decide) w
  have b1 : 0 ≤ p % 33 ∧ p % 33 < 33 := by omega
  have b2 : 0 ≤ q % 4 ∧ q % 4 < 4 := by omega
  have b3 : 0 ≤ r % 4 ∧ r % 4 < 4 := by omega
  have HV : Hid (Var ((w.alloc (.cells #[.int .i64 p, .int .i64 q, .int .i64 r] 23)).alloc (.cells #[.int .i64 0, .int .i64 0, .int .i64 0] 23)) (w.heap.size + 1) 23 [.int .i64 0, .int .i64 0, .int .i64 0]) := by
    have := Var.new (w.alloc (.cells #[.int .i64 p, .int .i64 q, .int .i64 r] 23)) 23 [.int .i64 0, .int .i64 0, .int .i64 0]
    have e : (w.alloc (.cells #[.int .i64 p, .int .i64 q, .int .i64 r] 23)).heap.size = w.heap.size + 1 := by simp
    rw [e] at this; exact this
  unfold gV
  go_enter Tryd.func9, Tryd.ntmps9
  go_wp2
  refine wp_region_is_tail 13 [3, 4, 5, 6, 7, 8, 9, 10, 11, 12, 13, 14, 15] (fun w' => Below ((w.alloc (.cells #[.int .i64 p, .int .i64 q, .int .i64 r] 23)).alloc (.cells #[.int .i64 0, .int .i64 0, .int .i64 0] 23)).heap.size ((w.alloc (.cells #[.int .i64 p, .int .i64 q, .int .i64 r] 23)).alloc (.cells #[.int .i64 0, .int .i64 0, .int .i64 0] 23)) w')
    [.pointer (some ⟨w.heap.size, 0, none⟩), .int .i64 p, .int .i64 (p % 33), .int .i64 (32 + p % 33), .pointer (some ⟨w.heap.size, 1, none⟩), .int .i64 q, .int .i64 (q % 4), .int .i64 (3 + q % 4), .pointer (some ⟨w.heap.size, 2, none⟩), .int .i64 r, .int .i64 (r % 4), .int .i64 (4 + r % 4), .agg #[.int .i64 (32 + p % 33), .int .i64 (3 + q % 4), .int .i64 (4 + r % 4)]] (by kernel_rfl) (by kernel_rfl) (by kernel_rfl) (by decide) rfl (by decide) (by simp) (Below.refl _ _).drew ?each ?done
  case each =>
    simp only [List.take_succ_cons, List.take_zero, Each]
    repeat' (first | exact trivial | refine And.intro ?_ ?_)
    all_goals
      intro ys wx hBx hdeps
      simp only [Deps, Region.binds, List.getD_cons_zero, List.getD_cons_succ, forall_const, and_true] at hdeps
      have c0 : wx.cell? ⟨w.heap.size, 0, none⟩ = some (.int .i64 p) := (((Var.new w 23 [.int .i64 p, .int .i64 q, .int .i64 r]).alloc (.cells #[.int .i64 0, .int .i64 0, .int .i64 0] 23)).below hBx (by simp; omega)).cell rfl
      have c1 : wx.cell? ⟨w.heap.size, 1, none⟩ = some (.int .i64 q) := (((Var.new w 23 [.int .i64 p, .int .i64 q, .int .i64 r]).alloc (.cells #[.int .i64 0, .int .i64 0, .int .i64 0] 23)).below hBx (by simp; omega)).cell rfl
      have c2 : wx.cell? ⟨w.heap.size, 2, none⟩ = some (.int .i64 r) := (((Var.new w 23 [.int .i64 p, .int .i64 q, .int .i64 r]).alloc (.cells #[.int .i64 0, .int .i64 0, .int .i64 0] 23)).below hBx (by simp; omega)).cell rfl
      simp only [hdeps, fill, List.foldl_cons, List.foldl_nil, Act.put, List.setIfInBounds_toArray, List.set_cons_succ, List.set_cons_zero]
      first
        | (go_wp2_with fail; exact ⟨_, rfl, rfl, hBx, Below.refl _ _⟩)
        | (go_wp2_with (go_at_call 22; (with_reducible refine (H1.out _).mono ?_); rintro e w3 ⟨rfl, rfl⟩); exact ⟨_, rfl, rfl, hBx, Below.refl _ _⟩)
        | (go_wp2_with (go_at_call 22; (with_reducible refine (H2.out _).mono ?_); rintro e w3 ⟨rfl, rfl⟩); exact ⟨_, rfl, rfl, hBx, Below.refl _ _⟩)
        | (go_wp2_with (go_at_call 22; (with_reducible refine (H3.out _).mono ?_); rintro e w3 ⟨rfl, rfl⟩); exact ⟨_, rfl, rfl, hBx, Below.refl _ _⟩)
  case done =>
    intro ys wx hBx hV
    have h15 : ys 15 = .agg #[.int .i64 (32 + p % 33), .int .i64 (3 + q % 4), .int .i64 (4 + r % 4)] := hV 12 (by decide)
    have hv : Var wx (w.heap.size + 1) 23 [.int .i64 0, .int .i64 0, .int .i64 0] := (show Var ((w.alloc (.cells #[.int .i64 p, .int .i64 q, .int .i64 r] 23)).alloc (.cells #[.int .i64 0, .int .i64 0, .int .i64 0] 23)) (w.heap.size + 1) 23 [.int .i64 0, .int .i64 0, .int .i64 0] from HV.out).below hBx (by simp)
    have d0 := hv.cell (j := 0) rfl
    have d1 := hv.cell (j := 1) rfl
    have d2 := hv.cell (j := 2) rfl
    have f0 := hv.frozen 0
    have f1 := hv.frozen 1
    have f2 := hv.frozen 2
    simp only [h15, fill, List.drop_succ_cons, List.drop_zero, List.foldl_cons, List.foldl_nil, Act.put, List.setIfInBounds_toArray, List.set_cons_succ, List.set_cons_zero]
    go_wp2
    have hv2 := ((hv.set 0 (.int .i64 (32 + p % 33))).set 1 (.int .i64 (3 + q % 4))).set 2 (.int .i64 (4 + r % 4))
    have e0 := hv2.cell (j := 0) rfl
    have e1 := hv2.cell (j := 1) rfl
    have e2 := hv2.cell (j := 2) rfl
    clear d0 d1 d2 f0 f1 f2
    refine bodyPost_ret (by simp [results, Tryd.results9, go_sem, e0, e1, e2]; try rfl) rfl ?_
    exact ⟨rfl, (((bel0 ((bel_alloc _ _).trans ((bel_alloc _ _).mono (by simp))) hBx).setCell (Nat.le_succ _) _).setCell (Nat.le_succ _) _).setCell (Nat.le_succ _) _⟩
end Go.Proofs.YtligapgjdpdihaaDoor.Geom
/-
  What the landed package geom answers, of any numbers.
-/
set_option linter.unusedVariables false
set_option linter.unusedSimpArgs false
namespace Go.Proofs.YtligapgjdpdihaaDoor.Geom
open Go.RowKit
open Own Tup
open Go.Proofs.YtligapgjdpdihaaDoor.Region (fill Then Deps Each wp_region_is wp_region_is_tail)
theorem within_any (n a b : Int) (w : World) : Calls Tryd.prog 52 #[.int .i64 n, .int .i64 a, .int .i64 b] w fun e w' => e = .returned (.bool (decide (a ≤ n) && decide (n ≤ b))) ∧ w = w' := by
  have hd : decide (a ≤ n) = false ∨ (decide (a ≤ n) = true ∧ decide (n ≤ b) = false) ∨ (decide (a ≤ n) = true ∧ decide (n ≤ b) = true) := by
    simp only [decide_eq_true_eq, decide_eq_false_iff_not]; omega
  rcases hd with h1 | ⟨h1, h2⟩ | ⟨h1, h2⟩
  all_goals
    go_enter Tryd.func52, Tryd.ntmps52
    go_wp2
    go_ret
    exact ⟨ret_bool (by simp [*]), rfl⟩
set_option maxRecDepth 100000 in
theorem right_any (g : Gm) (w : World) : Calls Tryd.prog 26 #[gV g] w fun e w' => e = .returned (.bool (rightG g)) ∧ Below w.heap.size w w' := by
  obtain ⟨p, q, r⟩ := g
  have hv : rightG ⟨p, q, r⟩ = ((decide (32 ≤ p) && decide (p ≤ 128)) && (decide (3 ≤ q) && decide (q ≤ 10)) && (decide (4 ≤ r) && decide (r ≤ 12))) := by
    unfold rightG; simp only [Bool.and_assoc]
  have H1 : Hid (∀ w, Calls Tryd.prog 52 #[.int .i64 p, .int .i64 32, .int .i64 128] w fun e w' => e = .returned (.bool (decide (32 ≤ p) && decide (p ≤ 128))) ∧ w = w') := fun w => within_any _ _ _ w
  have H2 : Hid (∀ w, Calls Tryd.prog 52 #[.int .i64 q, .int .i64 3, .int .i64 10] w fun e w' => e = .returned (.bool (decide (3 ≤ q) && decide (q ≤ 10))) ∧ w = w') := fun w => within_any _ _ _ w
  have H3 : Hid (∀ w, Calls Tryd.prog 52 #[.int .i64 r, .int .i64 4, .int .i64 12] w fun e w' => e = .returned (.bool (decide (4 ≤ r) && decide (r ≤ 12))) ∧ w = w') := fun w => within_any _ _ _ w
  rw [hv]; clear hv
  generalize (decide (32 ≤ p) && decide (p ≤ 128)) = b1 at *
  generalize (decide (3 ≤ q) && decide (q ≤ 10)) = b2 at *
  generalize (decide (4 ≤ r) && decide (r ≤ 12)) = b3 at *
  unfold gV
  cases b1 <;> cases b2 <;> cases b3
  all_goals
    go_enter Tryd.func26, Tryd.ntmps26
    go_wp2_with (first
      | (go_at_call 52; (with_reducible refine (H1.out _).mono ?_); rintro e w3 ⟨rfl, rfl⟩)
      | (go_at_call 52; (with_reducible refine (H2.out _).mono ?_); rintro e w3 ⟨rfl, rfl⟩)
      | (go_at_call 52; (with_reducible refine (H3.out _).mono ?_); rintro e w3 ⟨rfl, rfl⟩))
    go_ret
    exact ⟨rfl, bel_alloc _ _⟩
set_option maxRecDepth 100000 in
theorem room_any (g : Gm) (w : World) : Calls Tryd.prog 23 #[gV g] w fun e w' => e = .returned (.int .i64 (if rightG g then roomG g else 0)) ∧ Below w.heap.size w w' := by
  have H0 := Lib.hid (fun w => right_any g w)
  rcases hb : rightG g with _ | _
  · simp only [hb] at H0
    obtain ⟨p, q, r⟩ := g
    unfold gV at H0 ⊢
    go_enter Tryd.func23, Tryd.ntmps23
    go_wp2_with (go_at_call 26; (with_reducible refine (H0.out _).mono ?_); rintro e w3 ⟨rfl, hn⟩)
    go_ret
    exact ⟨rfl, bel0 (bel_alloc _ _) hn⟩
  · simp only [hb] at H0
    obtain ⟨p0, p1, s0, s1, r0, r1⟩ := right_small.mp hb
    have hg0 := right_small.mp hb
    obtain ⟨p, q, r⟩ := g
    simp only at p0 p1 s0 s1 r0 r1
    clear hb
    have m1 := mul_le (show 0 ≤ r by omega) r1 (show 0 ≤ q by omega) s1
    have m2 := mul_le m1.1 m1.2 (show 0 ≤ p by omega) p1
    have m3 := mul_le (show 0 ≤ r - 3 by omega) (show r - 3 ≤ 9 by omega) (show 0 ≤ q - 1 by omega) (show q - 1 ≤ 9 by omega)
    have m4 := mul_le (show 0 ≤ r - 2 by omega) (show r - 2 ≤ 10 by omega) (show 0 ≤ q - 1 by omega) (show q - 1 ≤ 9 by omega)
    unfold gV at H0 ⊢
    go_enter Tryd.func23, Tryd.ntmps23
    go_wp2_with (go_at_call 26; (with_reducible refine (H0.out _).mono ?_); rintro e w3 ⟨rfl, hn⟩; have c0 : w3.cell? ⟨w.heap.size, 0, none⟩ = some (.int .i64 p) := ((Var.new w 23 [.int .i64 p, .int .i64 q, .int .i64 r]).below hn (by simp)).cell rfl; have c1 : w3.cell? ⟨w.heap.size, 1, none⟩ = some (.int .i64 q) := ((Var.new w 23 [.int .i64 p, .int .i64 q, .int .i64 r]).below hn (by simp)).cell rfl; have c2 : w3.cell? ⟨w.heap.size, 2, none⟩ = some (.int .i64 r) := ((Var.new w 23 [.int .i64 p, .int .i64 q, .int .i64 r]).below hn (by simp)).cell rfl)
    go_ret
    exact ⟨rfl, bel0 (bel_alloc _ _) hn⟩
set_option maxRecDepth 100000 in
theorem slots_any (g : Gm) (w : World) : Calls Tryd.prog 49 #[gV g] w fun e w' => e = .returned (.int .i64 (if rightG g then slotsG g else 0)) ∧ Below w.heap.size w w' := by
  have H0 := Lib.hid (fun w => right_any g w)
  rcases hb : rightG g with _ | _
  · simp only [hb] at H0
    obtain ⟨p, q, r⟩ := g
    unfold gV at H0 ⊢
    go_enter Tryd.func49, Tryd.ntmps49
    go_wp2_with (go_at_call 26; (with_reducible refine (H0.out _).mono ?_); rintro e w3 ⟨rfl, hn⟩)
    go_ret
    exact ⟨rfl, bel0 (bel_alloc _ _) hn⟩
  · simp only [hb] at H0
    obtain ⟨p0, p1, s0, s1, r0, r1⟩ := right_small.mp hb
    have hg0 := right_small.mp hb
    obtain ⟨p, q, r⟩ := g
    simp only at p0 p1 s0 s1 r0 r1
    clear hb
    have m1 := mul_le (show 0 ≤ r by omega) r1 (show 0 ≤ q by omega) s1
    have m2 := mul_le m1.1 m1.2 (show 0 ≤ p by omega) p1
    have m3 := mul_le (show 0 ≤ r - 3 by omega) (show r - 3 ≤ 9 by omega) (show 0 ≤ q - 1 by omega) (show q - 1 ≤ 9 by omega)
    have m4 := mul_le (show 0 ≤ r - 2 by omega) (show r - 2 ≤ 10 by omega) (show 0 ≤ q - 1 by omega) (show q - 1 ≤ 9 by omega)
    unfold gV at H0 ⊢
    go_enter Tryd.func49, Tryd.ntmps49
    go_wp2_with (go_at_call 26; (with_reducible refine (H0.out _).mono ?_); rintro e w3 ⟨rfl, hn⟩; have c0 : w3.cell? ⟨w.heap.size, 0, none⟩ = some (.int .i64 p) := ((Var.new w 23 [.int .i64 p, .int .i64 q, .int .i64 r]).below hn (by simp)).cell rfl; have c1 : w3.cell? ⟨w.heap.size, 1, none⟩ = some (.int .i64 q) := ((Var.new w 23 [.int .i64 p, .int .i64 q, .int .i64 r]).below hn (by simp)).cell rfl; have c2 : w3.cell? ⟨w.heap.size, 2, none⟩ = some (.int .i64 r) := ((Var.new w 23 [.int .i64 p, .int .i64 q, .int .i64 r]).below hn (by simp)).cell rfl)
    go_ret
    exact ⟨rfl, bel0 (bel_alloc _ _) hn⟩
set_option maxRecDepth 100000 in
theorem most_any (g : Gm) (w : World) : Calls Tryd.prog 21 #[gV g] w fun e w' => e = .returned (.int .i64 (if rightG g then mostG g else 0)) ∧ Below w.heap.size w w' := by
  have H0 := Lib.hid (fun w => right_any g w)
  rcases hb : rightG g with _ | _
  · simp only [hb] at H0
    obtain ⟨p, q, r⟩ := g
    unfold gV at H0 ⊢
    go_enter Tryd.func21, Tryd.ntmps21
    go_wp2_with (go_at_call 26; (with_reducible refine (H0.out _).mono ?_); rintro e w3 ⟨rfl, hn⟩)
    go_ret
    exact ⟨rfl, bel0 (bel_alloc _ _) hn⟩
  · simp only [hb] at H0
    obtain ⟨p0, p1, s0, s1, r0, r1⟩ := right_small.mp hb
    have hg0 := right_small.mp hb
    obtain ⟨p, q, r⟩ := g
    simp only at p0 p1 s0 s1 r0 r1
    clear hb
    have m1 := mul_le (show 0 ≤ r by omega) r1 (show 0 ≤ q by omega) s1
    have m2 := mul_le m1.1 m1.2 (show 0 ≤ p by omega) p1
    have m3 := mul_le (show 0 ≤ r - 3 by omega) (show r - 3 ≤ 9 by omega) (show 0 ≤ q - 1 by omega) (show q - 1 ≤ 9 by omega)
    have m4 := mul_le (show 0 ≤ r - 2 by omega) (show r - 2 ≤ 10 by omega) (show 0 ≤ q - 1 by omega) (show q - 1 ≤ 9 by omega)
    unfold gV at H0 ⊢
    have H : Hid (∀ w, Calls Tryd.prog 49 #[.agg #[.int .i64 p, .int .i64 q, .int .i64 r]] w fun e w' => e = .returned (.int .i64 (q - 1)) ∧ Below w.heap.size w w') := fun w => by
      have := slots_any ⟨p, q, r⟩ w
      rw [if_pos (right_small.mpr hg0)] at this; exact this
    go_enter Tryd.func21, Tryd.ntmps21
    go_wp2_with (go_at_call 26; (with_reducible refine (H0.out _).mono ?_); rintro e w3 ⟨rfl, hn⟩; have c0 : w3.cell? ⟨w.heap.size, 0, none⟩ = some (.int .i64 p) := ((Var.new w 23 [.int .i64 p, .int .i64 q, .int .i64 r]).below hn (by simp)).cell rfl; have c1 : w3.cell? ⟨w.heap.size, 1, none⟩ = some (.int .i64 q) := ((Var.new w 23 [.int .i64 p, .int .i64 q, .int .i64 r]).below hn (by simp)).cell rfl; have c2 : w3.cell? ⟨w.heap.size, 2, none⟩ = some (.int .i64 r) := ((Var.new w 23 [.int .i64 p, .int .i64 q, .int .i64 r]).below hn (by simp)).cell rfl)
    refine wp_region_is [6, 7, 8, 9, 10, 11, 2] (fun w' => Below w3.heap.size w3 w')
      [.pointer (some ⟨w.heap.size, 2, none⟩), .int .i64 r, .int .i64 (r - 3), .agg #[.int .i64 p, .int .i64 q, .int .i64 r], .int .i64 (q - 1), .int .i64 ((r - 3) * (q - 1)), .int .i64 ((r - 3) * (q - 1))] (by kernel_rfl) (by kernel_rfl) rfl (by decide) (by simp) (Below.refl _ _).drew ?each ?done
    case each =>
      simp only [Each]
      repeat' (first | exact trivial | refine And.intro ?_ ?_)
      all_goals
        intro ys wx hBx hdeps
        simp only [Deps, Region.binds, List.getD_cons_zero, List.getD_cons_succ, forall_const, and_true] at hdeps
        have c0 : wx.cell? ⟨w.heap.size, 0, none⟩ = some (.int .i64 p) := ((Var.new w 23 [.int .i64 p, .int .i64 q, .int .i64 r]).below (hn.trans (hBx.mono hn.size)) (by simp)).cell rfl
        have c1 : wx.cell? ⟨w.heap.size, 1, none⟩ = some (.int .i64 q) := ((Var.new w 23 [.int .i64 p, .int .i64 q, .int .i64 r]).below (hn.trans (hBx.mono hn.size)) (by simp)).cell rfl
        have c2 : wx.cell? ⟨w.heap.size, 2, none⟩ = some (.int .i64 r) := ((Var.new w 23 [.int .i64 p, .int .i64 q, .int .i64 r]).below (hn.trans (hBx.mono hn.size)) (by simp)).cell rfl
        simp only [hdeps, fill, List.foldl_cons, List.foldl_nil, Act.put, List.setIfInBounds_toArray, List.set_cons_succ, List.set_cons_zero]
        first
          | (go_wp2_with fail; exact ⟨_, rfl, rfl, hBx, Below.refl _ _⟩)
          | (go_wp2_with (go_at_call 49; (with_reducible refine (H.out _).mono ?_); rintro e w3 ⟨rfl, hm⟩); exact ⟨_, rfl, rfl, hBx.trans (hm.mono hBx.size), hm⟩)
    case done =>
      intro ys wx hBx hV
      have h2 : ys 2 = .int .i64 ((r - 3) * (q - 1)) := hV 6 (by decide)
      simp only [h2, fill, List.drop_succ_cons, List.drop_zero, List.foldl_cons, List.foldl_nil, Act.put, List.setIfInBounds_toArray, List.set_cons_succ, List.set_cons_zero]
      go_wp2
      go_ret
      exact ⟨rfl, bel0 (bel_alloc _ _) (bel0 hn hBx)⟩
theorem need_eq {p q r n m0 m d x : Int} (hp : 0 < p - 15) (hm0 : m0 = max n 0) (hm : m = min m0 1048576) (hd : d = (m + (p - 15) - 1) / (p - 15)) (hx : x = max d 1) : x + 1 = needG ⟨p, q, r⟩ n := by
  unfold needG clampG
  simp only
  generalize p - 15 = k at *
  by_cases h : 1 ≤ n
  · have e : min (max n 1) 1048576 = m := by omega
    rw [e, ← hd]
    have : 1 ≤ d := by rw [hd]; exact (Int.le_ediv_iff_mul_le hp).mpr (by omega)
    omega
  · have e : min (max n 1) 1048576 = 1 := by omega
    have e2 : m = 0 := by omega
    rw [e]
    have e3 : (1 + k - 1) / k = 1 := by rw [show 1 + k - 1 = k by omega]; exact Int.ediv_self (by omega)
    have e4 : d = 0 := by rw [hd, e2]; exact Int.ediv_eq_zero_of_lt (by omega) (by omega)
    rw [e3]; omega
set_option maxRecDepth 100000 in
theorem need_any (g : Gm) (n : Int) (w : World) : Calls Tryd.prog 20 #[gV g, .int .i64 n] w fun e w' => e = .returned (.int .i64 (if rightG g then needG g n else 0)) ∧ Below w.heap.size w w' := by
  have H0 := Lib.hid (fun w => right_any g w)
  rcases hb : rightG g with _ | _
  · simp only [hb] at H0
    obtain ⟨p, q, r⟩ := g
    unfold gV at H0 ⊢
    go_enter Tryd.func20, Tryd.ntmps20
    go_wp2_with (go_at_call 26; (with_reducible refine (H0.out _).mono ?_); rintro e w3 ⟨rfl, hn⟩)
    go_ret
    exact ⟨rfl, bel0 (bel_alloc _ _) hn⟩
  · simp only [hb] at H0
    obtain ⟨p0, p1, s0, s1, r0, r1⟩ := right_small.mp hb
    have hg0 := right_small.mp hb
    obtain ⟨p, q, r⟩ := g
    simp only at p0 p1 s0 s1 r0 r1
    clear hb
    have m1 := mul_le (show 0 ≤ r by omega) r1 (show 0 ≤ q by omega) s1
    have m2 := mul_le m1.1 m1.2 (show 0 ≤ p by omega) p1
    have m3 := mul_le (show 0 ≤ r - 3 by omega) (show r - 3 ≤ 9 by omega) (show 0 ≤ q - 1 by omega) (show q - 1 ≤ 9 by omega)
    have m4 := mul_le (show 0 ≤ r - 2 by omega) (show r - 2 ≤ 10 by omega) (show 0 ≤ q - 1 by omega) (show q - 1 ≤ 9 by omega)
    unfold gV at H0 ⊢
    have H : Hid (∀ w, Calls Tryd.prog 23 #[.agg #[.int .i64 p, .int .i64 q, .int .i64 r]] w fun e w' => e = .returned (.int .i64 (p - 15)) ∧ Below w.heap.size w w') := fun w => by
      have := room_any ⟨p, q, r⟩ w
      rw [if_pos (right_small.mpr hg0)] at this; exact this
    obtain ⟨m0, hm0⟩ : ∃ m0, m0 = max n 0 := ⟨_, rfl⟩
    obtain ⟨m, hm⟩ : ∃ m, m = min m0 1048576 := ⟨_, rfl⟩
    obtain ⟨d, hd⟩ : ∃ d, d = (m + (p - 15) - 1) / (p - 15) := ⟨_, rfl⟩
    obtain ⟨x, hx⟩ : ∃ x, x = max d 1 := ⟨_, rfl⟩
    have hmx := fun w ts t => max2 (P := Tryd.prog) w ts t n 0 m0 hm0
    have hmn := fun w ts t => min2 (P := Tryd.prog) w ts t m0 1048576 m hm
    have hmd := fun w ts t => max2 (P := Tryd.prog) w ts t d 1 x hx
    have b0 : 0 ≤ m ∧ m ≤ 1048576 := by omega
    have hq : 0 ≤ d ∧ d ≤ 2000000 := by
      rw [hd]
      exact ⟨Int.ediv_nonneg (by omega) (by omega), Int.le_trans (Int.ediv_le_self _ (by omega)) (by omega)⟩
    have hz : (p - 15 == 0) = false := by simp; omega
    have htd : (m + (p - 15) - 1).tdiv (p - 15) = d := by rw [hd]; exact Int.tdiv_eq_ediv_of_nonneg (by omega)
    have hq2 : 1 ≤ x ∧ x ≤ 2000000 := by omega
    have HV := Lib.hid (show Ending.returned (.int .i64 (x + 1)) = .returned (.int .i64 (if true then needG ⟨p, q, r⟩ n else 0)) by
      rw [if_pos rfl]; exact ret_int (need_eq (show 0 < p - 15 by omega) hm0 hm hd hx))
    clear hm hm0 hd hx
    go_enter Tryd.func20, Tryd.ntmps20
    go_wp2_with (first
      | (go_at_call 26; (with_reducible refine (H0.out _).mono ?_); rintro e w3 ⟨rfl, hn⟩; have c0 : w3.cell? ⟨w.heap.size, 0, none⟩ = some (.int .i64 p) := ((Var.new w 23 [.int .i64 p, .int .i64 q, .int .i64 r]).below hn (by simp)).cell rfl; have c1 : w3.cell? ⟨w.heap.size, 1, none⟩ = some (.int .i64 q) := ((Var.new w 23 [.int .i64 p, .int .i64 q, .int .i64 r]).below hn (by simp)).cell rfl; have c2 : w3.cell? ⟨w.heap.size, 2, none⟩ = some (.int .i64 r) := ((Var.new w 23 [.int .i64 p, .int .i64 q, .int .i64 r]).below hn (by simp)).cell rfl)
      | (go_at_call 23; (with_reducible refine (H.out _).mono ?_); rintro e w4 ⟨rfl, hk⟩))
    go_ret
    exact ⟨HV.out, bel0 (bel_alloc _ _) (bel0 hn hk)⟩
end Go.Proofs.YtligapgjdpdihaaDoor.Geom
