/-
  What the landed package geom answers, of any numbers.
-/
import Derived.Test.YtmkdhehdfdkbjaaGeomB
set_option linter.unusedVariables false
set_option linter.unusedSimpArgs false
namespace Go.Proofs.Ytmkdhehdfdkbjaa.Geom
open Go.RowKit
open Own Tup
open Go.Proofs.Ytmkdhehdfdkbjaa.Region (fill Then Deps Each wp_region_is wp_region_is_tail)
theorem within_any (n a b : Int) (w : World) : Calls Try.prog 50 #[.int .i64 n, .int .i64 a, .int .i64 b] w fun e w' => e = .returned (.bool (decide (a ≤ n) && decide (n ≤ b))) ∧ w = w' := by
  have hd : decide (a ≤ n) = false ∨ (decide (a ≤ n) = true ∧ decide (n ≤ b) = false) ∨ (decide (a ≤ n) = true ∧ decide (n ≤ b) = true) := by
    simp only [decide_eq_true_eq, decide_eq_false_iff_not]; omega
  rcases hd with h1 | ⟨h1, h2⟩ | ⟨h1, h2⟩
  all_goals
    go_enter Try.func50, Try.ntmps50
    go_wp2
    go_ret
    exact ⟨ret_bool (by simp [*]), rfl⟩
set_option maxRecDepth 100000 in
theorem right_any (g : Gm) (w : World) : Calls Try.prog 32 #[gV g] w fun e w' => e = .returned (.bool (rightG g)) ∧ Below w.heap.size w w' := by
  obtain ⟨p, q, r⟩ := g
  have hv : rightG ⟨p, q, r⟩ = ((decide (32 ≤ p) && decide (p ≤ 128)) && (decide (3 ≤ q) && decide (q ≤ 10)) && (decide (4 ≤ r) && decide (r ≤ 12))) := by
    unfold rightG; simp only [Bool.and_assoc]
  have H1 : Hid (∀ w, Calls Try.prog 50 #[.int .i64 p, .int .i64 32, .int .i64 128] w fun e w' => e = .returned (.bool (decide (32 ≤ p) && decide (p ≤ 128))) ∧ w = w') := fun w => within_any _ _ _ w
  have H2 : Hid (∀ w, Calls Try.prog 50 #[.int .i64 q, .int .i64 3, .int .i64 10] w fun e w' => e = .returned (.bool (decide (3 ≤ q) && decide (q ≤ 10))) ∧ w = w') := fun w => within_any _ _ _ w
  have H3 : Hid (∀ w, Calls Try.prog 50 #[.int .i64 r, .int .i64 4, .int .i64 12] w fun e w' => e = .returned (.bool (decide (4 ≤ r) && decide (r ≤ 12))) ∧ w = w') := fun w => within_any _ _ _ w
  rw [hv]; clear hv
  generalize (decide (32 ≤ p) && decide (p ≤ 128)) = b1 at *
  generalize (decide (3 ≤ q) && decide (q ≤ 10)) = b2 at *
  generalize (decide (4 ≤ r) && decide (r ≤ 12)) = b3 at *
  unfold gV
  cases b1 <;> cases b2 <;> cases b3
  all_goals
    go_enter Try.func32, Try.ntmps32
    go_wp2_with (first
      | (go_at_call 50; (with_reducible refine (H1.out _).mono ?_); rintro e w3 ⟨rfl, rfl⟩)
      | (go_at_call 50; (with_reducible refine (H2.out _).mono ?_); rintro e w3 ⟨rfl, rfl⟩)
      | (go_at_call 50; (with_reducible refine (H3.out _).mono ?_); rintro e w3 ⟨rfl, rfl⟩))
    go_ret
    exact ⟨rfl, bel_alloc _ _⟩
set_option maxRecDepth 100000 in
theorem slots_any (g : Gm) (w : World) : Calls Try.prog 52 #[gV g] w fun e w' => e = .returned (.int .i64 (if rightG g then slotsG g else 0)) ∧ Below w.heap.size w w' := by
  have H0 := Lib.hid (fun w => right_any g w)
  rcases hb : rightG g with _ | _
  · simp only [hb] at H0
    obtain ⟨p, q, r⟩ := g
    unfold gV at H0 ⊢
    go_enter Try.func52, Try.ntmps52
    go_wp2_with (go_at_call 32; (with_reducible refine (H0.out _).mono ?_); rintro e w3 ⟨rfl, hn⟩)
    go_ret
    exact ⟨rfl, bel0 (bel_alloc _ _) hn⟩
  · simp only [hb] at H0
    obtain ⟨p0, p1, s0, s1, r0, r1⟩ := right_small.mp hb
    have hg0 := right_small.mp hb
    obtain ⟨p, q, r⟩ := g
    simp only at p0 p1 s0 s1 r0 r1
    clear hb
    have m1 := mul_le (show 0 ≤ r by omega) r1 (show 0 ≤ q by omega) s1
    have m2 := mul_le m1.1 m1.2 (show 0 ≤ p by omega) p1
    have m3 := mul_le (show 0 ≤ r - 3 by omega) (show r - 3 ≤ 9 by omega) (show 0 ≤ q - 1 by omega) (show q - 1 ≤ 9 by omega)
    have m4 := mul_le (show 0 ≤ r - 2 by omega) (show r - 2 ≤ 10 by omega) (show 0 ≤ q - 1 by omega) (show q - 1 ≤ 9 by omega)
    unfold gV at H0 ⊢
    go_enter Try.func52, Try.ntmps52
    go_wp2_with (go_at_call 32; (with_reducible refine (H0.out _).mono ?_); rintro e w3 ⟨rfl, hn⟩; have c0 : w3.cell? ⟨w.heap.size, 0, none⟩ = some (.int .i64 p) := ((Var.new w 23 [.int .i64 p, .int .i64 q, .int .i64 r]).below hn (by simp)).cell rfl; have c1 : w3.cell? ⟨w.heap.size, 1, none⟩ = some (.int .i64 q) := ((Var.new w 23 [.int .i64 p, .int .i64 q, .int .i64 r]).below hn (by simp)).cell rfl; have c2 : w3.cell? ⟨w.heap.size, 2, none⟩ = some (.int .i64 r) := ((Var.new w 23 [.int .i64 p, .int .i64 q, .int .i64 r]).below hn (by simp)).cell rfl)
    go_ret
    exact ⟨rfl, bel0 (bel_alloc _ _) hn⟩
theorem need_eq {p q r n m0 m d x : Int} (hp : 0 < p - 15) (hm0 : m0 = max n 0) (hm : m = min m0 1048576) (hd : d = (m + (p - 15) - 1) / (p - 15)) (hx : x = max d 1) : x + 1 = needG ⟨p, q, r⟩ n := by
  unfold needG clampG
  simp only
  generalize p - 15 = k at *
  by_cases h : 1 ≤ n
  · have e : min (max n 1) 1048576 = m := by omega
    rw [e, ← hd]
    have : 1 ≤ d := by rw [hd]; exact (Int.le_ediv_iff_mul_le hp).mpr (by omega)
    omega
  · have e : min (max n 1) 1048576 = 1 := by omega
    have e2 : m = 0 := by omega
    rw [e]
    have e3 : (1 + k - 1) / k = 1 := by rw [show 1 + k - 1 = k by omega]; exact Int.ediv_self (by omega)
    have e4 : d = 0 := by rw [hd, e2]; exact Int.ediv_eq_zero_of_lt (by omega) (by omega)
    rw [e3]; omega
set_option maxRecDepth 100000 in
theorem page_any (g : Gm) (i s : Int) (w : World) : Calls Try.prog 46 #[gV g, .int .i64 i, .int .i64 s] w fun e w' => e = .returned (.tuple #[.int .i64 (pageG g i s).1, .bool (pageG g i s).2]) ∧ Below w.heap.size w w' := by
  have H0 := Lib.hid (fun w => right_any g w)
  rcases hb : rightG g with _ | _
  · simp only [hb] at H0
    have hr : pageG g i s = (0, false) := by unfold pageG; rw [if_neg (by rw [hb]; simp)]
    rw [hr]
    obtain ⟨p, q, r⟩ := g
    unfold gV at H0 ⊢
    go_enter Try.func46, Try.ntmps46
    go_wp2_with (go_at_call 32; (with_reducible refine (H0.out _).mono ?_); rintro e w3 ⟨rfl, hn⟩)
    go_ret2
    exact ⟨rfl, bel0 (bel_alloc _ _) hn⟩
  · simp only [hb] at H0
    obtain ⟨p0, p1, s0, s1, r0, r1⟩ := right_small.mp hb
    have hpg : pageG g i s = if (decide (0 ≤ i) && decide (i ≤ g.regions - 1)) && (decide (0 ≤ s) && decide (s ≤ g.pages - 1)) then (i * g.pages + s, true) else (0, false) := by
      unfold pageG
      rw [hb]
      simp only [true_and, Bool.and_eq_true, decide_eq_true_eq]
      split <;> split <;> first | rfl | (exfalso; omega)
    obtain ⟨p, q, r⟩ := g
    simp only at p0 p1 s0 s1 r0 r1 hpg
    rw [hpg]; clear hb hpg
    have H1 : Hid (∀ w, Calls Try.prog 50 #[.int .i64 i, .int .i64 0, .int .i64 (r - 1)] w fun e w' => e = .returned (.bool (decide (0 ≤ i) && decide (i ≤ r - 1))) ∧ w = w') := fun w => within_any _ _ _ w
    have H2 : Hid (∀ w, Calls Try.prog 50 #[.int .i64 s, .int .i64 0, .int .i64 (q - 1)] w fun e w' => e = .returned (.bool (decide (0 ≤ s) && decide (s ≤ q - 1))) ∧ w = w') := fun w => within_any _ _ _ w
    have h1 : (decide (0 ≤ i) && decide (i ≤ r - 1)) = true → 0 ≤ i ∧ i ≤ r - 1 := by simp only [Bool.and_eq_true, decide_eq_true_eq]; exact id
    have h2 : (decide (0 ≤ s) && decide (s ≤ q - 1)) = true → 0 ≤ s ∧ s ≤ q - 1 := by simp only [Bool.and_eq_true, decide_eq_true_eq]; exact id
    generalize (decide (0 ≤ i) && decide (i ≤ r - 1)) = b1 at *
    generalize (decide (0 ≤ s) && decide (s ≤ q - 1)) = b2 at *
    have hc : b1 = false ∨ (b1 = true ∧ b2 = false) ∨ (b1 = true ∧ b2 = true) := by cases b1 <;> cases b2 <;> simp
    unfold gV at H0 ⊢
    rcases hc with rfl | ⟨rfl, rfl⟩ | ⟨rfl, rfl⟩
    · go_enter Try.func46, Try.ntmps46
      go_wp2_with (first
        | (go_at_call 32; (with_reducible refine (H0.out _).mono ?_); rintro e w3 ⟨rfl, hn⟩; have c0 : w3.cell? ⟨w.heap.size, 0, none⟩ = some (.int .i64 p) := ((Var.new w 23 [.int .i64 p, .int .i64 q, .int .i64 r]).below hn (by simp)).cell rfl; have c1 : w3.cell? ⟨w.heap.size, 1, none⟩ = some (.int .i64 q) := ((Var.new w 23 [.int .i64 p, .int .i64 q, .int .i64 r]).below hn (by simp)).cell rfl; have c2 : w3.cell? ⟨w.heap.size, 2, none⟩ = some (.int .i64 r) := ((Var.new w 23 [.int .i64 p, .int .i64 q, .int .i64 r]).below hn (by simp)).cell rfl)
        | (go_at_call 50; (with_reducible refine (H1.out _).mono ?_); rintro e w4 ⟨rfl, rfl⟩))
      go_ret2
      exact ⟨rfl, bel0 (bel_alloc _ _) hn⟩
    · go_enter Try.func46, Try.ntmps46
      go_wp2_with (first
        | (go_at_call 32; (with_reducible refine (H0.out _).mono ?_); rintro e w3 ⟨rfl, hn⟩; have c0 : w3.cell? ⟨w.heap.size, 0, none⟩ = some (.int .i64 p) := ((Var.new w 23 [.int .i64 p, .int .i64 q, .int .i64 r]).below hn (by simp)).cell rfl; have c1 : w3.cell? ⟨w.heap.size, 1, none⟩ = some (.int .i64 q) := ((Var.new w 23 [.int .i64 p, .int .i64 q, .int .i64 r]).below hn (by simp)).cell rfl; have c2 : w3.cell? ⟨w.heap.size, 2, none⟩ = some (.int .i64 r) := ((Var.new w 23 [.int .i64 p, .int .i64 q, .int .i64 r]).below hn (by simp)).cell rfl)
        | (go_at_call 50; (with_reducible refine (H1.out _).mono ?_); rintro e w4 ⟨rfl, rfl⟩)
        | (go_at_call 50; (with_reducible refine (H2.out _).mono ?_); rintro e w4 ⟨rfl, rfl⟩))
      go_ret2
      exact ⟨rfl, bel0 (bel_alloc _ _) hn⟩
    · obtain ⟨i0, i1⟩ := h1 rfl
      obtain ⟨t0, t1⟩ := h2 rfl
      clear h1 h2
      have m1 := mul_le i0 (show i ≤ 11 by omega) (show 0 ≤ q by omega) s1
      go_enter Try.func46, Try.ntmps46
      go_wp2_with (first
        | (go_at_call 32; (with_reducible refine (H0.out _).mono ?_); rintro e w3 ⟨rfl, hn⟩; have c0 : w3.cell? ⟨w.heap.size, 0, none⟩ = some (.int .i64 p) := ((Var.new w 23 [.int .i64 p, .int .i64 q, .int .i64 r]).below hn (by simp)).cell rfl; have c1 : w3.cell? ⟨w.heap.size, 1, none⟩ = some (.int .i64 q) := ((Var.new w 23 [.int .i64 p, .int .i64 q, .int .i64 r]).below hn (by simp)).cell rfl; have c2 : w3.cell? ⟨w.heap.size, 2, none⟩ = some (.int .i64 r) := ((Var.new w 23 [.int .i64 p, .int .i64 q, .int .i64 r]).below hn (by simp)).cell rfl)
        | (go_at_call 50; (with_reducible refine (H1.out _).mono ?_); rintro e w4 ⟨rfl, rfl⟩)
        | (go_at_call 50; (with_reducible refine (H2.out _).mono ?_); rintro e w4 ⟨rfl, rfl⟩))
      go_ret2
      exact ⟨rfl, bel0 (bel_alloc _ _) hn⟩
end Go.Proofs.Ytmkdhehdfdkbjaa.Geom
