/-
  What the book's Geom answers: a small one, made of any numbers.
-/
import Derived.Test.YtmkdhehdfdkbjaaGeomA
import Derived.Test.YtmkdhehdfdkbjaaPick
set_option linter.unusedVariables false
set_option linter.unusedSimpArgs false
namespace Go.Proofs.Ytmkdhehdfdkbjaa.Geom
open Go.RowKit
open Own Tup
open Go.Proofs.Ytmkdhehdfdkbjaa.Region (fill Then Deps Each wp_region_is wp_region_is_tail)
def smallG (g : Gm) : Gm := ⟨32 + g.page % 33, 3 + g.pages % 4, 4 + g.regions % 4⟩
def pageG (g : Gm) (i s : Int) : Int × Bool := if rightG g = true ∧ 0 ≤ i ∧ i < g.regions ∧ 0 ≤ s ∧ s < g.pages then (i * g.pages + s, true) else (0, false)
def whereG (g : Gm) (n : Int) : Int × Int × Bool := if rightG g = true ∧ 0 ≤ n ∧ n < g.pages * g.regions then (n / g.pages, n % g.pages, true) else (0, 0, false)
theorem small_small (g : Gm) : Small (smallG g) := by
  unfold smallG
  refine ⟨?_, ?_, ?_, ?_, ?_, ?_⟩ <;> simp only <;> omega
set_option maxRecDepth 100000 in
theorem geom_any (g : Gm) (w : World) : Calls Try.prog 10 #[gV g] w fun e w' => e = .returned (gV (smallG g)) ∧ Below w.heap.size w w' := by
  obtain ⟨p, q, r⟩ := g
  have H1 : Hid (∀ w, Calls Try.prog 26 #[.int .i64 p, .int .i64 33] w fun e w' => e = .returned (.int .i64 (p % 33)) ∧ w = w') := fun w => Book.pick_any p 33 (by decide) (by decide) w
  have H2 : Hid (∀ w, Calls Try.prog 26 #[.int .i64 q, .int .i64 4] w fun e w' => e = .returned (.int .i64 (q % 4)) ∧ w = w') := fun w => Book.pick_any q 4 (by decide) (by decide) w
  have H3 : Hid (∀ w, Calls Try.prog 26 #[.int .i64 r, .int .i64 4] w fun e w' => e = .returned (.int .i64 (r % 4)) ∧ w = w') := fun w => Book.pick_any r 4 (by decide) (by decide) w
  have b1 : 0 ≤ p % 33 ∧ p % 33 < 33 := by omega
  have b2 : 0 ≤ q % 4 ∧ q % 4 < 4 := by omega
  have b3 : 0 ≤ r % 4 ∧ r % 4 < 4 := by omega
  have HV : Hid (Var ((w.alloc (.cells #[.int .i64 p, .int .i64 q, .int .i64 r] 23)).alloc (.cells #[.int .i64 0, .int .i64 0, .int .i64 0] 23)) (w.heap.size + 1) 23 [.int .i64 0, .int .i64 0, .int .i64 0]) := by
    have := Var.new (w.alloc (.cells #[.int .i64 p, .int .i64 q, .int .i64 r] 23)) 23 [.int .i64 0, .int .i64 0, .int .i64 0]
    have e : (w.alloc (.cells #[.int .i64 p, .int .i64 q, .int .i64 r] 23)).heap.size = w.heap.size + 1 := by simp
    rw [e] at this; exact this
  unfold gV
  go_enter Try.func10, Try.ntmps10
  go_wp2
  refine wp_region_is_tail 13 [3, 4, 5, 6, 7, 8, 9, 10, 11, 12, 13, 14, 15] (fun w' => Below ((w.alloc (.cells #[.int .i64 p, .int .i64 q, .int .i64 r] 23)).alloc (.cells #[.int .i64 0, .int .i64 0, .int .i64 0] 23)).heap.size ((w.alloc (.cells #[.int .i64 p, .int .i64 q, .int .i64 r] 23)).alloc (.cells #[.int .i64 0, .int .i64 0, .int .i64 0] 23)) w')
    [.pointer (some ⟨w.heap.size, 0, none⟩), .int .i64 p, .int .i64 (p % 33), .int .i64 (32 + p % 33), .pointer (some ⟨w.heap.size, 1, none⟩), .int .i64 q, .int .i64 (q % 4), .int .i64 (3 + q % 4), .pointer (some ⟨w.heap.size, 2, none⟩), .int .i64 r, .int .i64 (r % 4), .int .i64 (4 + r % 4), .agg #[.int .i64 (32 + p % 33), .int .i64 (3 + q % 4), .int .i64 (4 + r % 4)]] (by kernel_rfl) (by kernel_rfl) (by kernel_rfl) (by decide) rfl (by decide) (by simp) (Below.refl _ _).drew ?each ?done
  case each =>
    simp only [List.take_succ_cons, List.take_zero, Each]
    repeat' (first | exact trivial | refine And.intro ?_ ?_)
    all_goals
      intro ys wx hBx hdeps
      simp only [Deps, Region.binds, List.getD_cons_zero, List.getD_cons_succ, forall_const, and_true] at hdeps
      have c0 : wx.cell? ⟨w.heap.size, 0, none⟩ = some (.int .i64 p) := (((Var.new w 23 [.int .i64 p, .int .i64 q, .int .i64 r]).alloc (.cells #[.int .i64 0, .int .i64 0, .int .i64 0] 23)).below hBx (by simp; omega)).cell rfl
      have c1 : wx.cell? ⟨w.heap.size, 1, none⟩ = some (.int .i64 q) := (((Var.new w 23 [.int .i64 p, .int .i64 q, .int .i64 r]).alloc (.cells #[.int .i64 0, .int .i64 0, .int .i64 0] 23)).below hBx (by simp; omega)).cell rfl
      have c2 : wx.cell? ⟨w.heap.size, 2, none⟩ = some (.int .i64 r) := (((Var.new w 23 [.int .i64 p, .int .i64 q, .int .i64 r]).alloc (.cells #[.int .i64 0, .int .i64 0, .int .i64 0] 23)).below hBx (by simp; omega)).cell rfl
      simp only [hdeps, fill, List.foldl_cons, List.foldl_nil, Act.put, List.setIfInBounds_toArray, List.set_cons_succ, List.set_cons_zero]
      first
        | (go_wp2_with fail; exact ⟨_, rfl, rfl, hBx, Below.refl _ _⟩)
        | (go_wp2_with (go_at_call 26; (with_reducible refine (H1.out _).mono ?_); rintro e w3 ⟨rfl, rfl⟩); exact ⟨_, rfl, rfl, hBx, Below.refl _ _⟩)
        | (go_wp2_with (go_at_call 26; (with_reducible refine (H2.out _).mono ?_); rintro e w3 ⟨rfl, rfl⟩); exact ⟨_, rfl, rfl, hBx, Below.refl _ _⟩)
        | (go_wp2_with (go_at_call 26; (with_reducible refine (H3.out _).mono ?_); rintro e w3 ⟨rfl, rfl⟩); exact ⟨_, rfl, rfl, hBx, Below.refl _ _⟩)
  case done =>
    intro ys wx hBx hV
    have h15 : ys 15 = .agg #[.int .i64 (32 + p % 33), .int .i64 (3 + q % 4), .int .i64 (4 + r % 4)] := hV 12 (by decide)
    have hv : Var wx (w.heap.size + 1) 23 [.int .i64 0, .int .i64 0, .int .i64 0] := (show Var ((w.alloc (.cells #[.int .i64 p, .int .i64 q, .int .i64 r] 23)).alloc (.cells #[.int .i64 0, .int .i64 0, .int .i64 0] 23)) (w.heap.size + 1) 23 [.int .i64 0, .int .i64 0, .int .i64 0] from HV.out).below hBx (by simp)
    have d0 := hv.cell (j := 0) rfl
    have d1 := hv.cell (j := 1) rfl
    have d2 := hv.cell (j := 2) rfl
    have f0 := hv.frozen 0
    have f1 := hv.frozen 1
    have f2 := hv.frozen 2
    simp only [h15, fill, List.drop_succ_cons, List.drop_zero, List.foldl_cons, List.foldl_nil, Act.put, List.setIfInBounds_toArray, List.set_cons_succ, List.set_cons_zero]
    go_wp2
    have hv2 := ((hv.set 0 (.int .i64 (32 + p % 33))).set 1 (.int .i64 (3 + q % 4))).set 2 (.int .i64 (4 + r % 4))
    have e0 := hv2.cell (j := 0) rfl
    have e1 := hv2.cell (j := 1) rfl
    have e2 := hv2.cell (j := 2) rfl
    clear d0 d1 d2 f0 f1 f2
    refine bodyPost_ret (by simp [results, Try.results10, go_sem, e0, e1, e2]; try rfl) rfl ?_
    exact ⟨rfl, (((bel0 ((bel_alloc _ _).trans ((bel_alloc _ _).mono (by simp))) hBx).setCell (Nat.le_succ _) _).setCell (Nat.le_succ _) _).setCell (Nat.le_succ _) _⟩
end Go.Proofs.Ytmkdhehdfdkbjaa.Geom
