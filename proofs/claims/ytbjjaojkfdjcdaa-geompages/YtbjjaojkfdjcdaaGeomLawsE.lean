/-
  The walk of GeomPages.
-/
import Derived.Test.YtbjjaojkfdjcdaaGeomLaws
namespace Go.Proofs.Ytbjjaojkfdjcdaa.Geom
open Go.RowKit
open Own Tup
open Go.Proofs.Ytbjjaojkfdjcdaa.Region (fill Then Deps Each wp_region_is wp_region_is_tail)
set_option maxRecDepth 100000 in
set_option maxHeartbeats 8000000 in
theorem pages_small (g : Gm) (i s n : Int) (w : World) : Calls Try.prog 4 #[gV g, .int .i64 i, .int .i64 s, .int .i64 n, .bool true] w fun e w' => e = .returned (.bool true) ∧ Below w.heap.size w w' := by
  obtain ⟨p', q', r'⟩ := g
  obtain ⟨p, hp⟩ : ∃ p, p = 32 + p' % 33 := ⟨_, rfl⟩
  obtain ⟨q, hq⟩ : ∃ q, q = 3 + q' % 4 := ⟨_, rfl⟩
  obtain ⟨r, hr⟩ : ∃ r, r = 4 + r' % 4 := ⟨_, rfl⟩
  have hsm : Small ⟨p, q, r⟩ := by have := small_small ⟨p', q', r'⟩; unfold smallG at this; rw [hp, hq, hr]; exact this
  have H0 : Hid (∀ w, Calls Try.prog 8 #[.agg #[.int .i64 p', .int .i64 q', .int .i64 r']] w fun e w' => e = .returned (.agg #[.int .i64 p, .int .i64 q, .int .i64 r]) ∧ Below w.heap.size w w') := fun w => by
    rw [hp, hq, hr]; exact geom_any ⟨p', q', r'⟩ w
  clear hp hq hr
  have hV := Var.new w 23 [.int .i64 p', .int .i64 q', .int .i64 r']
  unfold gV
  go_enter Try.func4, Try.ntmps4
  go_wp2_with fail
  go_at_call 8
  with_reducible refine (H0.out _).mono ?_
  rintro e w1 ⟨rfl, hb1⟩
  have hv1 := hV.below hb1 (by simp)
  have d0 := hv1.cell (j := 0) rfl
  have d1 := hv1.cell (j := 1) rfl
  have d2 := hv1.cell (j := 2) rfl
  have f0 := hv1.frozen 0
  have f1 := hv1.frozen 1
  have f2 := hv1.frozen 2
  have hv2 := ((hv1.set 0 (.int .i64 p)).set 1 (.int .i64 q)).set 2 (.int .i64 r)
  have hbk : Below w.heap.size w (((w1.setCell ⟨w.heap.size, 0, none⟩ (.int .i64 p)).setCell ⟨w.heap.size, 1, none⟩ (.int .i64 q)).setCell ⟨w.heap.size, 2, none⟩ (.int .i64 r)) := (((bel0 (bel_alloc _ _) hb1).setCell (Nat.le_refl _) _).setCell (Nat.le_refl _) _).setCell (Nat.le_refl _) _
  clear hV hb1 hv1
  go_wp2_with fail
  generalize ((w1.setCell ⟨w.heap.size, 0, none⟩ (.int .i64 p)).setCell ⟨w.heap.size, 1, none⟩ (.int .i64 q)).setCell ⟨w.heap.size, 2, none⟩ (.int .i64 r) = wk at hv2 hbk ⊢
  have HB := Lib.hid hbk
  have HC0 := Lib.hid (show wk.cell? ⟨w.heap.size, 0, none⟩ = some (.int .i64 p) from hv2.cell rfl)
  have HC1 := Lib.hid (show wk.cell? ⟨w.heap.size, 1, none⟩ = some (.int .i64 q) from hv2.cell rfl)
  have HC2 := Lib.hid (show wk.cell? ⟨w.heap.size, 2, none⟩ = some (.int .i64 r) from hv2.cell rfl)
  clear hv2 hbk d0 d1 d2 f0 f1 f2
  clear hsm
  have HA := Lib.hid alive_any
  have HS : Hid (∀ w, Calls Try.prog 11 #[.agg #[.int .i64 p, .int .i64 q, .int .i64 r]] w fun e w' => e = .returned (.bool (rightG ⟨p, q, r⟩)) ∧ Below w.heap.size w w') := fun w => refRight_any ⟨p, q, r⟩ w
  have K1 : Hid (∀ w, Calls Try.prog 23 #[.agg #[.int .i64 p, .int .i64 q, .int .i64 r], .int .i64 n] w fun e w' => e = .returned (.tuple #[.int .i64 (whereG ⟨p, q, r⟩ n).1, .int .i64 (whereG ⟨p, q, r⟩ n).2.1, .bool (whereG ⟨p, q, r⟩ n).2.2]) ∧ Below w.heap.size w w') := fun w => where_any ⟨p, q, r⟩ n w
  have K2 : Hid (∀ w, Calls Try.prog 22 #[.agg #[.int .i64 p, .int .i64 q, .int .i64 r], .int .i64 i, .int .i64 s] w fun e w' => e = .returned (.tuple #[.int .i64 (pageG ⟨p, q, r⟩ i s).1, .bool (pageG ⟨p, q, r⟩ i s).2]) ∧ Below w.heap.size w w') := fun w => page_any ⟨p, q, r⟩ i s w
  have HSM := Lib.hid (right_small (g := ⟨p, q, r⟩))
  have hB := HB.out
  have c0 := HC0.out
  have c1 := HC1.out
  have c2 := HC2.out
  cases hR : rightG ⟨p, q, r⟩ with
  | false =>
    have hw : whereG ⟨p, q, r⟩ n = (0, 0, false) := by unfold whereG; rw [if_neg (by rw [hR]; simp)]
    have hp : pageG ⟨p, q, r⟩ i s = (0, false) := by unfold pageG; rw [if_neg (by rw [hR]; simp)]
    rw [hw] at K1
    rw [hp] at K2
    rw [hR] at HS
    simp only at K1 K2
    clear hR hw hp
    go_wp2_with (first
              | (go_at_call 23; (with_reducible refine (K1.out _).mono ?_); rintro e w3 ⟨rfl, hn⟩; replace hB := bel0 hB hn; replace c0 := cellB c0 hn; replace c1 := cellB c1 hn; replace c2 := cellB c2 hn; clear hn)
              | (go_at_call 22; (with_reducible refine (K2.out _).mono ?_); rintro e w3 ⟨rfl, hn⟩; replace hB := bel0 hB hn; replace c0 := cellB c0 hn; replace c1 := cellB c1 hn; replace c2 := cellB c2 hn; clear hn)
              | (go_at_call 9; (with_reducible refine (HA.out _).mono ?_); rintro e w3 ⟨rfl, hn⟩; replace hB := bel0 hB hn; replace c0 := cellB c0 hn; replace c1 := cellB c1 hn; replace c2 := cellB c2 hn; clear hn)
              | (go_at_call 11; (with_reducible refine (HS.out _).mono ?_); rintro e w3 ⟨rfl, hn⟩; replace hB := bel0 hB hn; replace c0 := cellB c0 hn; replace c1 := cellB c1 hn; replace c2 := cellB c2 hn; clear hn))
    go_ret
    exact ⟨rfl, hB⟩
  | true =>
    obtain ⟨p0, p1, s0, s1, r0, r1⟩ := HSM.out.1 hR
    simp only at p0 p1 s0 s1 r0 r1
    have m1 := mul_le (show 0 ≤ q by omega) s1 (show 0 ≤ r by omega) r1
    have hz : (q == 0) = false := by simp; omega
    have hpg : (0 ≤ i ∧ i < r ∧ 0 ≤ s ∧ s < q ∧ decide (0 ≤ i) = true ∧ decide (i < r) = true ∧ decide (0 ≤ s) = true ∧ decide (s < q) = true ∧ pageG ⟨p, q, r⟩ i s = (i * q + s, true)) ∨
        ((decide (0 ≤ i) = false ∨ (decide (0 ≤ i) = true ∧ decide (i < r) = false) ∨ (decide (0 ≤ i) = true ∧ decide (i < r) = true ∧ decide (0 ≤ s) = false) ∨ (decide (0 ≤ i) = true ∧ decide (i < r) = true ∧ decide (0 ≤ s) = true ∧ decide (s < q) = false)) ∧ pageG ⟨p, q, r⟩ i s = (0, false)) := by
      unfold pageG
      by_cases h : rightG ⟨p, q, r⟩ = true ∧ 0 ≤ i ∧ i < r ∧ 0 ≤ s ∧ s < q
      · left
        rw [if_pos h]
        obtain ⟨_, h1, h2, h3, h4⟩ := h
        simp [h1, h2, h3, h4]
      · right
        rw [if_neg h]
        refine ⟨?_, rfl⟩
        have : ¬ (0 ≤ i ∧ i < r ∧ 0 ≤ s ∧ s < q) := fun hh => h ⟨hR, hh⟩
        simp only [decide_eq_true_eq, decide_eq_false_iff_not]; omega
    have hwh : (0 ≤ n ∧ n < q * r ∧ decide (0 ≤ n) = true ∧ decide (n < q * r) = true ∧ whereG ⟨p, q, r⟩ n = (n / q, n % q, true)) ∨
        ((decide (0 ≤ n) = false ∨ (decide (0 ≤ n) = true ∧ decide (n < q * r) = false)) ∧ whereG ⟨p, q, r⟩ n = (0, 0, false)) := by
      unfold whereG
      by_cases h : rightG ⟨p, q, r⟩ = true ∧ 0 ≤ n ∧ n < q * r
      · left
        rw [if_pos h]
        obtain ⟨_, h1, h2⟩ := h
        simp [h1, h2]
      · right
        rw [if_neg h]
        refine ⟨?_, rfl⟩
        have : ¬ (0 ≤ n ∧ n < q * r) := fun hh => h ⟨hR, hh⟩
        simp only [decide_eq_true_eq, decide_eq_false_iff_not]; omega
    rw [hR] at HS
    clear hR
    rcases hwh with ⟨n1, n2, t5, t6, hw⟩ | ⟨hn, hw⟩
    · have htd : n.tdiv q = n / q := Int.tdiv_eq_ediv_of_nonneg n1
      have htm : n.tmod q = n % q := Int.tmod_eq_emod_of_nonneg n1
      have b1 : 0 ≤ n / q ∧ n / q ≤ n := ⟨Int.ediv_nonneg n1 (by omega), Int.ediv_le_self _ n1⟩
      have b2 : 0 ≤ n % q ∧ n % q < q := ⟨Int.emod_nonneg _ (by omega), Int.emod_lt_of_pos _ (by omega)⟩
      rw [hw] at K1
      simp only at K1
      clear hw
      rcases hpg with ⟨i1, i2, j1, j2, t1, t2, t3, t4, hp⟩ | ⟨hi, hp⟩
      · have m2 := mul_le i1 (show i ≤ 12 by omega) (show 0 ≤ q by omega) s1
        rw [hp] at K2
        simp only at K2
        clear hp
        go_wp2_with (first
              | (go_at_call 23; (with_reducible refine (K1.out _).mono ?_); rintro e w3 ⟨rfl, hn⟩; replace hB := bel0 hB hn; replace c0 := cellB c0 hn; replace c1 := cellB c1 hn; replace c2 := cellB c2 hn; clear hn)
              | (go_at_call 22; (with_reducible refine (K2.out _).mono ?_); rintro e w3 ⟨rfl, hn⟩; replace hB := bel0 hB hn; replace c0 := cellB c0 hn; replace c1 := cellB c1 hn; replace c2 := cellB c2 hn; clear hn)
              | (go_at_call 9; (with_reducible refine (HA.out _).mono ?_); rintro e w3 ⟨rfl, hn⟩; replace hB := bel0 hB hn; replace c0 := cellB c0 hn; replace c1 := cellB c1 hn; replace c2 := cellB c2 hn; clear hn)
              | (go_at_call 11; (with_reducible refine (HS.out _).mono ?_); rintro e w3 ⟨rfl, hn⟩; replace hB := bel0 hB hn; replace c0 := cellB c0 hn; replace c1 := cellB c1 hn; replace c2 := cellB c2 hn; clear hn))
        go_ret
        exact ⟨by simp, hB⟩
      · rw [hp] at K2
        simp only at K2
        clear hp
        rcases hi with t1 | ⟨t1, t2⟩ | ⟨t1, t2, t3⟩ | ⟨t1, t2, t3, t4⟩
        all_goals
          go_wp2_with (first
              | (go_at_call 23; (with_reducible refine (K1.out _).mono ?_); rintro e w3 ⟨rfl, hn⟩; replace hB := bel0 hB hn; replace c0 := cellB c0 hn; replace c1 := cellB c1 hn; replace c2 := cellB c2 hn; clear hn)
              | (go_at_call 22; (with_reducible refine (K2.out _).mono ?_); rintro e w3 ⟨rfl, hn⟩; replace hB := bel0 hB hn; replace c0 := cellB c0 hn; replace c1 := cellB c1 hn; replace c2 := cellB c2 hn; clear hn)
              | (go_at_call 9; (with_reducible refine (HA.out _).mono ?_); rintro e w3 ⟨rfl, hn⟩; replace hB := bel0 hB hn; replace c0 := cellB c0 hn; replace c1 := cellB c1 hn; replace c2 := cellB c2 hn; clear hn)
              | (go_at_call 11; (with_reducible refine (HS.out _).mono ?_); rintro e w3 ⟨rfl, hn⟩; replace hB := bel0 hB hn; replace c0 := cellB c0 hn; replace c1 := cellB c1 hn; replace c2 := cellB c2 hn; clear hn))
          go_ret
          exact ⟨by simp, hB⟩
    · rw [hw] at K1
      simp only at K1
      clear hw
      rcases hn with t5 | ⟨t5, t6⟩
      all_goals
        rcases hpg with ⟨i1, i2, j1, j2, t1, t2, t3, t4, hp⟩ | ⟨hi, hp⟩
        · have m2 := mul_le i1 (show i ≤ 12 by omega) (show 0 ≤ q by omega) s1
          rw [hp] at K2
          simp only at K2
          clear hp
          go_wp2_with (first
              | (go_at_call 23; (with_reducible refine (K1.out _).mono ?_); rintro e w3 ⟨rfl, hn⟩; replace hB := bel0 hB hn; replace c0 := cellB c0 hn; replace c1 := cellB c1 hn; replace c2 := cellB c2 hn; clear hn)
              | (go_at_call 22; (with_reducible refine (K2.out _).mono ?_); rintro e w3 ⟨rfl, hn⟩; replace hB := bel0 hB hn; replace c0 := cellB c0 hn; replace c1 := cellB c1 hn; replace c2 := cellB c2 hn; clear hn)
              | (go_at_call 9; (with_reducible refine (HA.out _).mono ?_); rintro e w3 ⟨rfl, hn⟩; replace hB := bel0 hB hn; replace c0 := cellB c0 hn; replace c1 := cellB c1 hn; replace c2 := cellB c2 hn; clear hn)
              | (go_at_call 11; (with_reducible refine (HS.out _).mono ?_); rintro e w3 ⟨rfl, hn⟩; replace hB := bel0 hB hn; replace c0 := cellB c0 hn; replace c1 := cellB c1 hn; replace c2 := cellB c2 hn; clear hn))
          go_ret
          exact ⟨by simp, hB⟩
        · rw [hp] at K2
          simp only at K2
          clear hp
          rcases hi with t1 | ⟨t1, t2⟩ | ⟨t1, t2, t3⟩ | ⟨t1, t2, t3, t4⟩
          all_goals
            go_wp2_with (first
              | (go_at_call 23; (with_reducible refine (K1.out _).mono ?_); rintro e w3 ⟨rfl, hn⟩; replace hB := bel0 hB hn; replace c0 := cellB c0 hn; replace c1 := cellB c1 hn; replace c2 := cellB c2 hn; clear hn)
              | (go_at_call 22; (with_reducible refine (K2.out _).mono ?_); rintro e w3 ⟨rfl, hn⟩; replace hB := bel0 hB hn; replace c0 := cellB c0 hn; replace c1 := cellB c1 hn; replace c2 := cellB c2 hn; clear hn)
              | (go_at_call 9; (with_reducible refine (HA.out _).mono ?_); rintro e w3 ⟨rfl, hn⟩; replace hB := bel0 hB hn; replace c0 := cellB c0 hn; replace c1 := cellB c1 hn; replace c2 := cellB c2 hn; clear hn)
              | (go_at_call 11; (with_reducible refine (HS.out _).mono ?_); rintro e w3 ⟨rfl, hn⟩; replace hB := bel0 hB hn; replace c0 := cellB c0 hn; replace c1 := cellB c1 hn; replace c2 := cellB c2 hn; clear hn))
            go_ret
            exact ⟨by simp, hB⟩
set_option maxRecDepth 100000 in
set_option maxHeartbeats 8000000 in
theorem pages_plain (g : Gm) (i s n : Int) (w : World) : Calls Try.prog 4 #[gV g, .int .i64 i, .int .i64 s, .int .i64 n, .bool false] w fun e w' => e = .returned (.bool true) ∧ Below w.heap.size w w' := by
  obtain ⟨p, q, r⟩ := g
  have hV := Var.new w 23 [.int .i64 p, .int .i64 q, .int .i64 r]
  obtain ⟨wk, hwk⟩ : ∃ wk, wk = w.alloc (.cells #[.int .i64 p, .int .i64 q, .int .i64 r] 23) := ⟨_, rfl⟩
  have HB := Lib.hid (show Below w.heap.size w wk by rw [hwk]; exact bel_alloc _ _)
  have HC0 := Lib.hid (show wk.cell? ⟨w.heap.size, 0, none⟩ = some (.int .i64 p) by rw [hwk]; exact hV.cell rfl)
  have HC1 := Lib.hid (show wk.cell? ⟨w.heap.size, 1, none⟩ = some (.int .i64 q) by rw [hwk]; exact hV.cell rfl)
  have HC2 := Lib.hid (show wk.cell? ⟨w.heap.size, 2, none⟩ = some (.int .i64 r) by rw [hwk]; exact hV.cell rfl)
  clear hV
  unfold gV
  go_enter Try.func4, Try.ntmps4
  go_wp2_with fail
  rw [← hwk]
  clear hwk
  have HA := Lib.hid alive_any
  have HS : Hid (∀ w, Calls Try.prog 11 #[.agg #[.int .i64 p, .int .i64 q, .int .i64 r]] w fun e w' => e = .returned (.bool (rightG ⟨p, q, r⟩)) ∧ Below w.heap.size w w') := fun w => refRight_any ⟨p, q, r⟩ w
  have K1 : Hid (∀ w, Calls Try.prog 23 #[.agg #[.int .i64 p, .int .i64 q, .int .i64 r], .int .i64 n] w fun e w' => e = .returned (.tuple #[.int .i64 (whereG ⟨p, q, r⟩ n).1, .int .i64 (whereG ⟨p, q, r⟩ n).2.1, .bool (whereG ⟨p, q, r⟩ n).2.2]) ∧ Below w.heap.size w w') := fun w => where_any ⟨p, q, r⟩ n w
  have K2 : Hid (∀ w, Calls Try.prog 22 #[.agg #[.int .i64 p, .int .i64 q, .int .i64 r], .int .i64 i, .int .i64 s] w fun e w' => e = .returned (.tuple #[.int .i64 (pageG ⟨p, q, r⟩ i s).1, .bool (pageG ⟨p, q, r⟩ i s).2]) ∧ Below w.heap.size w w') := fun w => page_any ⟨p, q, r⟩ i s w
  have HSM := Lib.hid (right_small (g := ⟨p, q, r⟩))
  have hB := HB.out
  have c0 := HC0.out
  have c1 := HC1.out
  have c2 := HC2.out
  cases hR : rightG ⟨p, q, r⟩ with
  | false =>
    have hw : whereG ⟨p, q, r⟩ n = (0, 0, false) := by unfold whereG; rw [if_neg (by rw [hR]; simp)]
    have hp : pageG ⟨p, q, r⟩ i s = (0, false) := by unfold pageG; rw [if_neg (by rw [hR]; simp)]
    rw [hw] at K1
    rw [hp] at K2
    rw [hR] at HS
    simp only at K1 K2
    clear hR hw hp
    go_wp2_with (first
              | (go_at_call 23; (with_reducible refine (K1.out _).mono ?_); rintro e w3 ⟨rfl, hn⟩; replace hB := bel0 hB hn; replace c0 := cellB c0 hn; replace c1 := cellB c1 hn; replace c2 := cellB c2 hn; clear hn)
              | (go_at_call 22; (with_reducible refine (K2.out _).mono ?_); rintro e w3 ⟨rfl, hn⟩; replace hB := bel0 hB hn; replace c0 := cellB c0 hn; replace c1 := cellB c1 hn; replace c2 := cellB c2 hn; clear hn)
              | (go_at_call 9; (with_reducible refine (HA.out _).mono ?_); rintro e w3 ⟨rfl, hn⟩; replace hB := bel0 hB hn; replace c0 := cellB c0 hn; replace c1 := cellB c1 hn; replace c2 := cellB c2 hn; clear hn)
              | (go_at_call 11; (with_reducible refine (HS.out _).mono ?_); rintro e w3 ⟨rfl, hn⟩; replace hB := bel0 hB hn; replace c0 := cellB c0 hn; replace c1 := cellB c1 hn; replace c2 := cellB c2 hn; clear hn))
    go_ret
    exact ⟨rfl, hB⟩
  | true =>
    obtain ⟨p0, p1, s0, s1, r0, r1⟩ := HSM.out.1 hR
    simp only at p0 p1 s0 s1 r0 r1
    have m1 := mul_le (show 0 ≤ q by omega) s1 (show 0 ≤ r by omega) r1
    have hz : (q == 0) = false := by simp; omega
    have hpg : (0 ≤ i ∧ i < r ∧ 0 ≤ s ∧ s < q ∧ decide (0 ≤ i) = true ∧ decide (i < r) = true ∧ decide (0 ≤ s) = true ∧ decide (s < q) = true ∧ pageG ⟨p, q, r⟩ i s = (i * q + s, true)) ∨
        ((decide (0 ≤ i) = false ∨ (decide (0 ≤ i) = true ∧ decide (i < r) = false) ∨ (decide (0 ≤ i) = true ∧ decide (i < r) = true ∧ decide (0 ≤ s) = false) ∨ (decide (0 ≤ i) = true ∧ decide (i < r) = true ∧ decide (0 ≤ s) = true ∧ decide (s < q) = false)) ∧ pageG ⟨p, q, r⟩ i s = (0, false)) := by
      unfold pageG
      by_cases h : rightG ⟨p, q, r⟩ = true ∧ 0 ≤ i ∧ i < r ∧ 0 ≤ s ∧ s < q
      · left
        rw [if_pos h]
        obtain ⟨_, h1, h2, h3, h4⟩ := h
        simp [h1, h2, h3, h4]
      · right
        rw [if_neg h]
        refine ⟨?_, rfl⟩
        have : ¬ (0 ≤ i ∧ i < r ∧ 0 ≤ s ∧ s < q) := fun hh => h ⟨hR, hh⟩
        simp only [decide_eq_true_eq, decide_eq_false_iff_not]; omega
    have hwh : (0 ≤ n ∧ n < q * r ∧ decide (0 ≤ n) = true ∧ decide (n < q * r) = true ∧ whereG ⟨p, q, r⟩ n = (n / q, n % q, true)) ∨
        ((decide (0 ≤ n) = false ∨ (decide (0 ≤ n) = true ∧ decide (n < q * r) = false)) ∧ whereG ⟨p, q, r⟩ n = (0, 0, false)) := by
      unfold whereG
      by_cases h : rightG ⟨p, q, r⟩ = true ∧ 0 ≤ n ∧ n < q * r
      · left
        rw [if_pos h]
        obtain ⟨_, h1, h2⟩ := h
        simp [h1, h2]
      · right
        rw [if_neg h]
        refine ⟨?_, rfl⟩
        have : ¬ (0 ≤ n ∧ n < q * r) := fun hh => h ⟨hR, hh⟩
        simp only [decide_eq_true_eq, decide_eq_false_iff_not]; omega
    rw [hR] at HS
    clear hR
    rcases hwh with ⟨n1, n2, t5, t6, hw⟩ | ⟨hn, hw⟩
    · have htd : n.tdiv q = n / q := Int.tdiv_eq_ediv_of_nonneg n1
      have htm : n.tmod q = n % q := Int.tmod_eq_emod_of_nonneg n1
      have b1 : 0 ≤ n / q ∧ n / q ≤ n := ⟨Int.ediv_nonneg n1 (by omega), Int.ediv_le_self _ n1⟩
      have b2 : 0 ≤ n % q ∧ n % q < q := ⟨Int.emod_nonneg _ (by omega), Int.emod_lt_of_pos _ (by omega)⟩
      rw [hw] at K1
      simp only at K1
      clear hw
      rcases hpg with ⟨i1, i2, j1, j2, t1, t2, t3, t4, hp⟩ | ⟨hi, hp⟩
      · have m2 := mul_le i1 (show i ≤ 12 by omega) (show 0 ≤ q by omega) s1
        rw [hp] at K2
        simp only at K2
        clear hp
        go_wp2_with (first
              | (go_at_call 23; (with_reducible refine (K1.out _).mono ?_); rintro e w3 ⟨rfl, hn⟩; replace hB := bel0 hB hn; replace c0 := cellB c0 hn; replace c1 := cellB c1 hn; replace c2 := cellB c2 hn; clear hn)
              | (go_at_call 22; (with_reducible refine (K2.out _).mono ?_); rintro e w3 ⟨rfl, hn⟩; replace hB := bel0 hB hn; replace c0 := cellB c0 hn; replace c1 := cellB c1 hn; replace c2 := cellB c2 hn; clear hn)
              | (go_at_call 9; (with_reducible refine (HA.out _).mono ?_); rintro e w3 ⟨rfl, hn⟩; replace hB := bel0 hB hn; replace c0 := cellB c0 hn; replace c1 := cellB c1 hn; replace c2 := cellB c2 hn; clear hn)
              | (go_at_call 11; (with_reducible refine (HS.out _).mono ?_); rintro e w3 ⟨rfl, hn⟩; replace hB := bel0 hB hn; replace c0 := cellB c0 hn; replace c1 := cellB c1 hn; replace c2 := cellB c2 hn; clear hn))
        go_ret
        exact ⟨by simp, hB⟩
      · rw [hp] at K2
        simp only at K2
        clear hp
        rcases hi with t1 | ⟨t1, t2⟩ | ⟨t1, t2, t3⟩ | ⟨t1, t2, t3, t4⟩
        all_goals
          go_wp2_with (first
              | (go_at_call 23; (with_reducible refine (K1.out _).mono ?_); rintro e w3 ⟨rfl, hn⟩; replace hB := bel0 hB hn; replace c0 := cellB c0 hn; replace c1 := cellB c1 hn; replace c2 := cellB c2 hn; clear hn)
              | (go_at_call 22; (with_reducible refine (K2.out _).mono ?_); rintro e w3 ⟨rfl, hn⟩; replace hB := bel0 hB hn; replace c0 := cellB c0 hn; replace c1 := cellB c1 hn; replace c2 := cellB c2 hn; clear hn)
              | (go_at_call 9; (with_reducible refine (HA.out _).mono ?_); rintro e w3 ⟨rfl, hn⟩; replace hB := bel0 hB hn; replace c0 := cellB c0 hn; replace c1 := cellB c1 hn; replace c2 := cellB c2 hn; clear hn)
              | (go_at_call 11; (with_reducible refine (HS.out _).mono ?_); rintro e w3 ⟨rfl, hn⟩; replace hB := bel0 hB hn; replace c0 := cellB c0 hn; replace c1 := cellB c1 hn; replace c2 := cellB c2 hn; clear hn))
          go_ret
          exact ⟨by simp, hB⟩
    · rw [hw] at K1
      simp only at K1
      clear hw
      rcases hn with t5 | ⟨t5, t6⟩
      all_goals
        rcases hpg with ⟨i1, i2, j1, j2, t1, t2, t3, t4, hp⟩ | ⟨hi, hp⟩
        · have m2 := mul_le i1 (show i ≤ 12 by omega) (show 0 ≤ q by omega) s1
          rw [hp] at K2
          simp only at K2
          clear hp
          go_wp2_with (first
              | (go_at_call 23; (with_reducible refine (K1.out _).mono ?_); rintro e w3 ⟨rfl, hn⟩; replace hB := bel0 hB hn; replace c0 := cellB c0 hn; replace c1 := cellB c1 hn; replace c2 := cellB c2 hn; clear hn)
              | (go_at_call 22; (with_reducible refine (K2.out _).mono ?_); rintro e w3 ⟨rfl, hn⟩; replace hB := bel0 hB hn; replace c0 := cellB c0 hn; replace c1 := cellB c1 hn; replace c2 := cellB c2 hn; clear hn)
              | (go_at_call 9; (with_reducible refine (HA.out _).mono ?_); rintro e w3 ⟨rfl, hn⟩; replace hB := bel0 hB hn; replace c0 := cellB c0 hn; replace c1 := cellB c1 hn; replace c2 := cellB c2 hn; clear hn)
              | (go_at_call 11; (with_reducible refine (HS.out _).mono ?_); rintro e w3 ⟨rfl, hn⟩; replace hB := bel0 hB hn; replace c0 := cellB c0 hn; replace c1 := cellB c1 hn; replace c2 := cellB c2 hn; clear hn))
          go_ret
          exact ⟨by simp, hB⟩
        · rw [hp] at K2
          simp only at K2
          clear hp
          rcases hi with t1 | ⟨t1, t2⟩ | ⟨t1, t2, t3⟩ | ⟨t1, t2, t3, t4⟩
          all_goals
            go_wp2_with (first
              | (go_at_call 23; (with_reducible refine (K1.out _).mono ?_); rintro e w3 ⟨rfl, hn⟩; replace hB := bel0 hB hn; replace c0 := cellB c0 hn; replace c1 := cellB c1 hn; replace c2 := cellB c2 hn; clear hn)
              | (go_at_call 22; (with_reducible refine (K2.out _).mono ?_); rintro e w3 ⟨rfl, hn⟩; replace hB := bel0 hB hn; replace c0 := cellB c0 hn; replace c1 := cellB c1 hn; replace c2 := cellB c2 hn; clear hn)
              | (go_at_call 9; (with_reducible refine (HA.out _).mono ?_); rintro e w3 ⟨rfl, hn⟩; replace hB := bel0 hB hn; replace c0 := cellB c0 hn; replace c1 := cellB c1 hn; replace c2 := cellB c2 hn; clear hn)
              | (go_at_call 11; (with_reducible refine (HS.out _).mono ?_); rintro e w3 ⟨rfl, hn⟩; replace hB := bel0 hB hn; replace c0 := cellB c0 hn; replace c1 := cellB c1 hn; replace c2 := cellB c2 hn; clear hn))
            go_ret
            exact ⟨by simp, hB⟩
end Go.Proofs.Ytbjjaojkfdjcdaa.Geom
