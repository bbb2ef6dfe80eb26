/-
  The walk of GeomBounds.
-/
import Derived.Test.YtbjjaojkfdjcdaaGeomLaws
namespace Go.Proofs.Ytbjjaojkfdjcdaa.Geom
open Go.RowKit
open Own Tup
open Go.Proofs.Ytbjjaojkfdjcdaa.Region (fill Then Deps Each wp_region_is wp_region_is_tail)
set_option maxRecDepth 100000 in
set_option maxHeartbeats 8000000 in
theorem bounds_any (g : Gm) (w : World) : Calls Try.prog 7 #[gV g] w fun e w' => e = .returned (.bool true) ∧ Below w.heap.size w w' := by
  obtain ⟨p', q', r'⟩ := g
  obtain ⟨p, hp⟩ : ∃ p, p = 32 + p' % 33 := ⟨_, rfl⟩
  obtain ⟨q, hq⟩ : ∃ q, q = 3 + q' % 4 := ⟨_, rfl⟩
  obtain ⟨r, hr⟩ : ∃ r, r = 4 + r' % 4 := ⟨_, rfl⟩
  have hsm : Small ⟨p, q, r⟩ := by have := small_small ⟨p', q', r'⟩; unfold smallG at this; rw [hp, hq, hr]; exact this
  have H0 : Hid (∀ w, Calls Try.prog 8 #[.agg #[.int .i64 p', .int .i64 q', .int .i64 r']] w fun e w' => e = .returned (.agg #[.int .i64 p, .int .i64 q, .int .i64 r]) ∧ Below w.heap.size w w') := fun w => by
    rw [hp, hq, hr]; exact geom_any ⟨p', q', r'⟩ w
  clear hp hq hr
  have hV := Var.new w 23 [.int .i64 p', .int .i64 q', .int .i64 r']
  unfold gV
  go_enter Try.func7, Try.ntmps7
  go_wp2_with fail
  go_at_call 8
  with_reducible refine (H0.out _).mono ?_
  rintro e w1 ⟨rfl, hb1⟩
  have hv1 := hV.below hb1 (by simp)
  have d0 := hv1.cell (j := 0) rfl
  have d1 := hv1.cell (j := 1) rfl
  have d2 := hv1.cell (j := 2) rfl
  have f0 := hv1.frozen 0
  have f1 := hv1.frozen 1
  have f2 := hv1.frozen 2
  have hv2 := ((hv1.set 0 (.int .i64 p)).set 1 (.int .i64 q)).set 2 (.int .i64 r)
  have hbk : Below w.heap.size w (((w1.setCell ⟨w.heap.size, 0, none⟩ (.int .i64 p)).setCell ⟨w.heap.size, 1, none⟩ (.int .i64 q)).setCell ⟨w.heap.size, 2, none⟩ (.int .i64 r)) := (((bel0 (bel_alloc _ _) hb1).setCell (Nat.le_refl _) _).setCell (Nat.le_refl _) _).setCell (Nat.le_refl _) _
  clear hV hb1 hv1
  go_wp2_with fail
  generalize ((w1.setCell ⟨w.heap.size, 0, none⟩ (.int .i64 p)).setCell ⟨w.heap.size, 1, none⟩ (.int .i64 q)).setCell ⟨w.heap.size, 2, none⟩ (.int .i64 r) = wk at hv2 hbk ⊢
  have HB := Lib.hid hbk
  have HC0 := Lib.hid (show wk.cell? ⟨w.heap.size, 0, none⟩ = some (.int .i64 p) from hv2.cell rfl)
  have HC1 := Lib.hid (show wk.cell? ⟨w.heap.size, 1, none⟩ = some (.int .i64 q) from hv2.cell rfl)
  have HC2 := Lib.hid (show wk.cell? ⟨w.heap.size, 2, none⟩ = some (.int .i64 r) from hv2.cell rfl)
  clear hv2 hbk d0 d1 d2 f0 f1 f2
  obtain ⟨p0, p1, s0, s1, r0, r1⟩ := hsm
  simp only at p0 p1 s0 s1 r0 r1
  have hR : rightG ⟨p, q, r⟩ = true := right_small.2 ⟨p0, p1, s0, s1, r0, r1⟩
  have HA := Lib.hid alive_any
  have K1 := Lib.hid (fun w => bytes_any ⟨p, q, r⟩ w)
  have K4 := Lib.hid (fun w => slots_any ⟨p, q, r⟩ w)
  have K7 := Lib.hid (fun w => most_any ⟨p, q, r⟩ w)
  have K9 := Lib.hid (fun w => held_any ⟨p, q, r⟩ w)
  rw [hR] at K1 K4 K7 K9
  simp only [if_true, gV, sizeG, slotsG, mostG, heldG] at K1 K4 K7 K9
  clear hR
  have m1 := mul_le (show 0 ≤ p by omega) p1 (show 0 ≤ q by omega) s1
  have m2 := mul_le m1.1 m1.2 (show 0 ≤ r by omega) r1
  have m3 := mul_le (show 0 ≤ r - 3 by omega) (show r - 3 ≤ 9 by omega) (show 0 ≤ q - 1 by omega) (show q - 1 ≤ 9 by omega)
  have m4 := mul_le (show 0 ≤ r - 2 by omega) (show r - 2 ≤ 10 by omega) (show 0 ≤ q - 1 by omega) (show q - 1 ≤ 9 by omega)
  have e1 : (r - 3) * (q - 1) + (q - 1) = (r - 2) * (q - 1) := by rw [show r - 2 = (r - 3) + 1 by omega, Int.add_mul]; omega
  have e2 : p * ((r - 2) * (q - 1) + 2 * (q - 1) + r) = p * q * r := by
    rw [show (r - 2) * (q - 1) + 2 * (q - 1) + r = q * r by rw [← Int.add_mul, show r - 2 + 2 = r by omega, Int.mul_sub, Int.mul_one, Int.mul_comm r q]; omega, Int.mul_assoc]
  have e3 : decide (q - 1 ≤ (r - 3) * (q - 1)) = true := by
    have h := Int.mul_le_mul_of_nonneg_right (show (1 : Int) ≤ r - 3 by omega) (show 0 ≤ q - 1 by omega)
    simp only [decide_eq_true_eq]; omega
  refine wp_region_is [5, 6, 7, 8, 9, 10, 11, 12, 13, 14, 15, 16, 17, 18, 19, 20, 21, 22, 23, 24, 25, 26, 27, 28, 29, 30, 31, 32, 33, 34, 35, 36, 37, 38, 39, 2] (fun w' => Below wk.heap.size wk w')
    [.bool true, .bool true, .agg #[.int .i64 p, .int .i64 q, .int .i64 r], .int .i64 ((r - 3) * (q - 1)), .agg #[.int .i64 p, .int .i64 q, .int .i64 r], .int .i64 (q - 1), .bool true, .bool true, .bool true, .agg #[.int .i64 p, .int .i64 q, .int .i64 r], .int .i64 ((r - 2) * (q - 1)), .agg #[.int .i64 p, .int .i64 q, .int .i64 r], .int .i64 ((r - 3) * (q - 1)), .agg #[.int .i64 p, .int .i64 q, .int .i64 r], .int .i64 (q - 1), .int .i64 ((r - 2) * (q - 1)), .bool true, .bool true, .bool true, .agg #[.int .i64 p, .int .i64 q, .int .i64 r], .int .i64 (p * q * r), .pointer (some ⟨w.heap.size, 0, none⟩), .int .i64 (p), .agg #[.int .i64 p, .int .i64 q, .int .i64 r], .int .i64 ((r - 2) * (q - 1)), .agg #[.int .i64 p, .int .i64 q, .int .i64 r], .int .i64 (q - 1), .int .i64 (2 * (q - 1)), .int .i64 ((r - 2) * (q - 1) + 2 * (q - 1)), .pointer (some ⟨w.heap.size, 2, none⟩), .int .i64 (r), .int .i64 ((r - 2) * (q - 1) + 2 * (q - 1) + r), .int .i64 (p * q * r), .bool true, .bool true, .bool true] (by kernel_rfl) (by kernel_rfl) rfl (by decide) (by simp) (Below.refl _ _).drew ?each ?done
  case each =>
    simp only [Each]
    repeat' (first | exact trivial | refine And.intro ?_ ?_)
    all_goals
      intro ys wx hBx hdeps
      simp only [Deps, Region.binds, List.getD_cons_zero, List.getD_cons_succ, forall_const, and_true] at hdeps
      have c0 := cellB HC0.out hBx
      have c1 := cellB HC1.out hBx
      have c2 := cellB HC2.out hBx
      simp only [hdeps, fill, List.foldl_cons, List.foldl_nil, Act.put, List.setIfInBounds_toArray, List.set_cons_succ, List.set_cons_zero]
      first
        | (go_wp2_with fail; exact ⟨_, rfl, rfl, hBx, Below.refl _ _⟩)
        | (go_wp2_with (go_at_call 9; (with_reducible refine (HA.out _).mono ?_); rintro e w3 ⟨rfl, hn⟩); exact ⟨_, rfl, rfl, hBx.trans (hn.mono hBx.size), hn⟩)
        | (go_wp2_with (go_at_call 12; (with_reducible refine (K1.out _).mono ?_); rintro e w3 ⟨rfl, hn⟩); exact ⟨_, rfl, rfl, hBx.trans (hn.mono hBx.size), hn⟩)
        | (go_wp2_with (go_at_call 14; (with_reducible refine (K4.out _).mono ?_); rintro e w3 ⟨rfl, hn⟩); exact ⟨_, rfl, rfl, hBx.trans (hn.mono hBx.size), hn⟩)
        | (go_wp2_with (go_at_call 16; (with_reducible refine (K7.out _).mono ?_); rintro e w3 ⟨rfl, hn⟩); exact ⟨_, rfl, rfl, hBx.trans (hn.mono hBx.size), hn⟩)
        | (go_wp2_with (go_at_call 17; (with_reducible refine (K9.out _).mono ?_); rintro e w3 ⟨rfl, hn⟩); exact ⟨_, rfl, rfl, hBx.trans (hn.mono hBx.size), hn⟩)
  case done =>
    intro ys wx hBx hV
    have h2 : ys 2 = .bool true := hV 35 (by decide)
    simp only [h2, fill, List.drop_succ_cons, List.drop_zero, List.foldl_cons, List.foldl_nil, Act.put, List.setIfInBounds_toArray, List.set_cons_succ, List.set_cons_zero]
    go_wp2
    go_ret
    exact ⟨rfl, bel0 HB.out hBx⟩
end Go.Proofs.Ytbjjaojkfdjcdaa.Geom
