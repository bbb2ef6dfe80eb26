/-
  The walk of GeomNeeds.
-/
import Derived.Test.YtbjjaojkfdjcdaaGeomLaws
namespace Go.Proofs.Ytbjjaojkfdjcdaa.Geom
open Go.RowKit
open Own Tup
open Go.Proofs.Ytbjjaojkfdjcdaa.Region (fill Then Deps Each wp_region_is wp_region_is_tail)
theorem ceil_spec {c k : Int} (hk : 0 < k) (hc : 1 ≤ c) : 1 ≤ (c + k - 1) / k ∧ c ≤ (c + k - 1) / k * k ∧ ((c + k - 1) / k - 1) * k < c := by
  have h1 := Int.mul_ediv_add_emod (c + k - 1) k
  have h2 := Int.emod_lt_of_pos (c + k - 1) hk
  have h3 := Int.emod_nonneg (c + k - 1) (show k ≠ 0 by omega)
  have h5 : 0 ≤ (c + k - 1) / k := Int.ediv_nonneg (by omega) (by omega)
  generalize (c + k - 1) / k = Q at *
  generalize (c + k - 1) % k = R at *
  have h4 : k * Q = Q * k := Int.mul_comm _ _
  rw [h4] at h1
  have h6 : (Q - 1) * k = Q * k - k := by rw [Int.sub_mul, Int.one_mul]
  rw [h6]
  refine ⟨?_, by omega, by omega⟩
  rcases (show Q = 0 ∨ 1 ≤ Q by omega) with h0 | h0
  · rw [h0, Int.zero_mul] at h1; omega
  · exact h0
set_option maxRecDepth 100000 in
set_option maxHeartbeats 8000000 in
theorem needs_any (g : Gm) (n0 m0 : Int) (w : World) : Calls Try.prog 6 #[gV g, .int .i64 n0, .int .i64 m0] w fun e w' => e = .returned (.bool true) ∧ Below w.heap.size w w' := by
  obtain ⟨p', q', r'⟩ := g
  obtain ⟨p, hp⟩ : ∃ p, p = 32 + p' % 33 := ⟨_, rfl⟩
  obtain ⟨q, hq⟩ : ∃ q, q = 3 + q' % 4 := ⟨_, rfl⟩
  obtain ⟨r, hr⟩ : ∃ r, r = 4 + r' % 4 := ⟨_, rfl⟩
  have hsm : Small ⟨p, q, r⟩ := by have := small_small ⟨p', q', r'⟩; unfold smallG at this; rw [hp, hq, hr]; exact this
  have H0 : Hid (∀ w, Calls Try.prog 8 #[.agg #[.int .i64 p', .int .i64 q', .int .i64 r']] w fun e w' => e = .returned (.agg #[.int .i64 p, .int .i64 q, .int .i64 r]) ∧ Below w.heap.size w w') := fun w => by
    rw [hp, hq, hr]; exact geom_any ⟨p', q', r'⟩ w
  clear hp hq hr
  have hV := Var.new w 23 [.int .i64 p', .int .i64 q', .int .i64 r']
  unfold gV
  go_enter Try.func6, Try.ntmps6
  go_wp2_with fail
  go_at_call 8
  with_reducible refine (H0.out _).mono ?_
  rintro e w1 ⟨rfl, hb1⟩
  have hv1 := hV.below hb1 (by simp)
  have d0 := hv1.cell (j := 0) rfl
  have d1 := hv1.cell (j := 1) rfl
  have d2 := hv1.cell (j := 2) rfl
  have f0 := hv1.frozen 0
  have f1 := hv1.frozen 1
  have f2 := hv1.frozen 2
  have hv2 := ((hv1.set 0 (.int .i64 p)).set 1 (.int .i64 q)).set 2 (.int .i64 r)
  have hbk : Below w.heap.size w (((w1.setCell ⟨w.heap.size, 0, none⟩ (.int .i64 p)).setCell ⟨w.heap.size, 1, none⟩ (.int .i64 q)).setCell ⟨w.heap.size, 2, none⟩ (.int .i64 r)) := (((bel0 (bel_alloc _ _) hb1).setCell (Nat.le_refl _) _).setCell (Nat.le_refl _) _).setCell (Nat.le_refl _) _
  clear hV hb1 hv1
  go_wp2_with fail
  generalize ((w1.setCell ⟨w.heap.size, 0, none⟩ (.int .i64 p)).setCell ⟨w.heap.size, 1, none⟩ (.int .i64 q)).setCell ⟨w.heap.size, 2, none⟩ (.int .i64 r) = wk at hv2 hbk ⊢
  have HB := Lib.hid hbk
  have HC0 := Lib.hid (show wk.cell? ⟨w.heap.size, 0, none⟩ = some (.int .i64 p) from hv2.cell rfl)
  have HC1 := Lib.hid (show wk.cell? ⟨w.heap.size, 1, none⟩ = some (.int .i64 q) from hv2.cell rfl)
  have HC2 := Lib.hid (show wk.cell? ⟨w.heap.size, 2, none⟩ = some (.int .i64 r) from hv2.cell rfl)
  clear hv2 hbk d0 d1 d2 f0 f1 f2
  obtain ⟨p0, p1, s0, s1, r0, r1⟩ := hsm
  simp only at p0 p1 s0 s1 r0 r1
  have hR : rightG ⟨p, q, r⟩ = true := right_small.2 ⟨p0, p1, s0, s1, r0, r1⟩
  obtain ⟨n, hn0⟩ : ∃ n, n = n0 % 1048576 := ⟨_, rfl⟩
  obtain ⟨m, hm0⟩ : ∃ m, m = m0 % 1048576 := ⟨_, rfl⟩
  have P1 : Hid (∀ w, Calls Try.prog 24 #[.int .i64 n0, .int .i64 1048576] w fun e w' => e = .returned (.int .i64 n) ∧ w = w') := fun w => by rw [hn0]; exact Book.pick_any n0 1048576 (by decide) (by decide) w
  have P2 : Hid (∀ w, Calls Try.prog 24 #[.int .i64 m0, .int .i64 1048576] w fun e w' => e = .returned (.int .i64 m) ∧ w = w') := fun w => by rw [hm0]; exact Book.pick_any m0 1048576 (by decide) (by decide) w
  have bn : 0 ≤ n ∧ n < 1048576 := by omega
  have bm : 0 ≤ m ∧ m < 1048576 := by omega
  clear hn0 hm0
  have HA := Lib.hid alive_any
  obtain ⟨a, ha⟩ : ∃ a, a = needG ⟨p, q, r⟩ n := ⟨_, rfl⟩
  obtain ⟨b, hb⟩ : ∃ b, b = needG ⟨p, q, r⟩ (n + m) := ⟨_, rfl⟩
  have hk : 0 < p - 15 := by omega
  have c1 := ceil_spec (c := clampG n) hk (by unfold clampG; omega)
  have c2 := ceil_spec (c := clampG (n + m)) hk (by unfold clampG; omega)
  have hmono : a ≤ b := by
    rw [ha, hb]; unfold needG
    simp only
    have : (clampG n + (p - 15) - 1) / (p - 15) ≤ (clampG (n + m) + (p - 15) - 1) / (p - 15) := Int.ediv_le_ediv hk (by unfold clampG; omega)
    omega
  have ha1 : (clampG n + (p - 15) - 1) / (p - 15) = a - 1 := by rw [ha]; unfold needG; simp only; omega
  rw [ha1] at c1
  have hcl : clampG n = max n 1 := by unfold clampG; omega
  rw [hcl] at c1
  have hn2 : needG ⟨p, q, r⟩ (-1 - n) = 2 := by
    unfold needG
    have e1 : clampG (-1 - n) = 1 := by unfold clampG; omega
    rw [e1]; simp only
    rw [show 1 + (p - 15) - 1 = p - 15 by omega, Int.ediv_self (by omega)]; rfl
  have K1 : Hid (∀ w, Calls Try.prog 15 #[.agg #[.int .i64 p, .int .i64 q, .int .i64 r], .int .i64 n] w fun e w' => e = .returned (.int .i64 a) ∧ Below w.heap.size w w') := fun w => by have := need_any ⟨p, q, r⟩ n w; rw [hR] at this; rw [ha]; exact this
  have K2 : Hid (∀ w, Calls Try.prog 15 #[.agg #[.int .i64 p, .int .i64 q, .int .i64 r], .int .i64 (n + m)] w fun e w' => e = .returned (.int .i64 b) ∧ Below w.heap.size w w') := fun w => by have := need_any ⟨p, q, r⟩ (n + m) w; rw [hR] at this; rw [hb]; exact this
  have K3 : Hid (∀ w, Calls Try.prog 15 #[.agg #[.int .i64 p, .int .i64 q, .int .i64 r], .int .i64 (-1 - n)] w fun e w' => e = .returned (.int .i64 2) ∧ Below w.heap.size w w') := fun w => by have := need_any ⟨p, q, r⟩ (-1 - n) w; rw [hR, if_pos rfl, hn2] at this; exact this
  have K4 : Hid (∀ w, Calls Try.prog 13 #[.agg #[.int .i64 p, .int .i64 q, .int .i64 r]] w fun e w' => e = .returned (.int .i64 (p - 15)) ∧ Below w.heap.size w w') := fun w => by have := room_any ⟨p, q, r⟩ w; rw [hR] at this; exact this
  have hb2 : b ≤ 2000001 := by
    rw [hb]; unfold needG
    have : (clampG (n + m) + (p - 15) - 1) / (p - 15) ≤ clampG (n + m) + (p - 15) - 1 := Int.ediv_le_self _ (by unfold clampG; omega)
    have : clampG (n + m) ≤ 1048576 := by unfold clampG; omega
    simp only; omega
  clear ha hb hR ha1 hcl hn2 c2
  obtain ⟨X, hX⟩ : ∃ X, X = (a - 1) * (p - 15) := ⟨_, rfl⟩
  obtain ⟨Y, hY⟩ : ∃ Y, Y = (a - 2) * (p - 15) := ⟨_, rfl⟩
  have hXY : X = Y + (p - 15) := by rw [hX, hY, show a - 1 = (a - 2) + 1 by omega, Int.add_mul, Int.one_mul]
  rw [show a - 1 - 1 = a - 2 by omega, ← hX, ← hY] at c1
  have q1 : decide (2 ≤ a) = true := by simp only [decide_eq_true_eq]; omega
  have q2 : decide (a ≤ b) = true := by simpa using hmono
  have q3 : decide (n ≤ X) = true := by simp only [decide_eq_true_eq]; omega
  have hY0 : -200 ≤ Y := by
    have : 0 ≤ Y := by rw [hY]; exact Int.mul_nonneg (by omega) (by omega)
    omega
  have hnz : (n == 0) = true ∨ ((n == 0) = false ∧ decide (Y < n) = true) := by
    by_cases h : n = 0
    · left; simpa using h
    · right; refine ⟨by simpa using h, by simp only [decide_eq_true_eq]; omega⟩
  have hX2 := hX.symm
  have hY2 := hY.symm
  clear hX hY
  go_wp2_with (first
    | (go_at_call 24; (with_reducible refine (P1.out _).mono ?_); rintro e w2 ⟨rfl, rfl⟩)
    | (go_at_call 24; (with_reducible refine (P2.out _).mono ?_); rintro e w2 ⟨rfl, rfl⟩))
  go_at_call 9
  with_reducible refine (HA.out _).mono ?_
  rintro e w2 ⟨rfl, hn⟩
  have HB' := Lib.hid (bel0 HB.out hn)
  have HC0' := Lib.hid (cellB HC0.out hn)
  have HC1' := Lib.hid (cellB HC1.out hn)
  have HC2' := Lib.hid (cellB HC2.out hn)
  clear hn HB HC0 HC1 HC2
  go_wp2
  refine wp_region_is [18, 19, 20, 21, 22, 23, 24, 25, 7, 8] (fun w' => Below w2.heap.size w2 w')
    [.agg #[.int .i64 p, .int .i64 q, .int .i64 r], .int .i64 (n), .int .i64 (a), .agg #[.int .i64 p, .int .i64 q, .int .i64 r], .int .i64 (n), .int .i64 (m), .int .i64 (n + m), .int .i64 (b), .int .i64 (a), .int .i64 (b)] (by kernel_rfl) (by kernel_rfl) rfl (by decide) (by simp) (Below.refl _ _).drew ?each ?done
  case each =>
    simp only [Each]
    repeat' (first | exact trivial | refine And.intro ?_ ?_)
    all_goals
      intro ys wx hBx hdeps
      simp only [Deps, Region.binds, List.getD_cons_zero, List.getD_cons_succ, forall_const, and_true] at hdeps
      have cn0 := cellB HC0'.out hBx
      have cn1 := cellB HC1'.out hBx
      have cn2 := cellB HC2'.out hBx
      simp only [hdeps, fill, List.foldl_cons, List.foldl_nil, Act.put, List.setIfInBounds_toArray, List.set_cons_succ, List.set_cons_zero]
      first
        | (go_wp2_with fail; exact ⟨_, rfl, rfl, hBx, Below.refl _ _⟩)
        | (go_wp2_with (go_at_call 15; (with_reducible refine (K1.out _).mono ?_); rintro e w3 ⟨rfl, hn⟩); exact ⟨_, rfl, rfl, hBx.trans (hn.mono hBx.size), hn⟩)
        | (go_wp2_with (go_at_call 15; (with_reducible refine (K2.out _).mono ?_); rintro e w3 ⟨rfl, hn⟩); exact ⟨_, rfl, rfl, hBx.trans (hn.mono hBx.size), hn⟩)
  case done =>
    intro ys wx hBx hV
    have h7 : ys 7 = .int .i64 (a) := hV 8 (by decide)
    have h8 : ys 8 = .int .i64 (b) := hV 9 (by decide)
    simp only [h7, h8, fill, List.drop_succ_cons, List.drop_zero, List.foldl_cons, List.foldl_nil, Act.put, List.setIfInBounds_toArray, List.set_cons_succ, List.set_cons_zero]
    have hB := bel0 HB'.out hBx
    have c0 := cellB HC0'.out hBx
    have cc1 := cellB HC1'.out hBx
    have cc2 := cellB HC2'.out hBx
    rcases hnz with q4 | ⟨q4, q5⟩
    all_goals
      go_wp2_with (first
        | (go_at_call 13; (with_reducible refine (K4.out _).mono ?_); rintro e w3 ⟨rfl, hn⟩; replace hB := bel0 hB hn; replace c0 := cellB c0 hn; replace cc1 := cellB cc1 hn; replace cc2 := cellB cc2 hn; clear hn)
        | (go_at_call 15; (with_reducible refine (K3.out _).mono ?_); rintro e w3 ⟨rfl, hn⟩; replace hB := bel0 hB hn; clear hn))
      go_ret
      exact ⟨rfl, hB⟩
end Go.Proofs.Ytbjjaojkfdjcdaa.Geom
