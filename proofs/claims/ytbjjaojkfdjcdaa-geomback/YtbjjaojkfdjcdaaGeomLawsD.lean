/-
  The walk of GeomBack.
-/
import Derived.Test.YtbjjaojkfdjcdaaGeomLaws
namespace Go.Proofs.Ytbjjaojkfdjcdaa.Geom
open Go.RowKit
open Own Tup
open Go.Proofs.Ytbjjaojkfdjcdaa.Region (fill Then Deps Each wp_region_is wp_region_is_tail)
set_option maxRecDepth 100000 in
set_option maxHeartbeats 8000000 in
theorem back_any (g : Gm) (n : Int) (w : World) : Calls Try.prog 5 #[gV g, .int .i64 n] w fun e w' => e = .returned (.bool true) ∧ Below w.heap.size w w' := by
  obtain ⟨p', q', r'⟩ := g
  obtain ⟨p, hp⟩ : ∃ p, p = 32 + p' % 33 := ⟨_, rfl⟩
  obtain ⟨q, hq⟩ : ∃ q, q = 3 + q' % 4 := ⟨_, rfl⟩
  obtain ⟨r, hr⟩ : ∃ r, r = 4 + r' % 4 := ⟨_, rfl⟩
  have hsm : Small ⟨p, q, r⟩ := by have := small_small ⟨p', q', r'⟩; unfold smallG at this; rw [hp, hq, hr]; exact this
  have H0 : Hid (∀ w, Calls Try.prog 8 #[.agg #[.int .i64 p', .int .i64 q', .int .i64 r']] w fun e w' => e = .returned (.agg #[.int .i64 p, .int .i64 q, .int .i64 r]) ∧ Below w.heap.size w w') := fun w => by
    rw [hp, hq, hr]; exact geom_any ⟨p', q', r'⟩ w
  clear hp hq hr
  have hV := Var.new w 23 [.int .i64 p', .int .i64 q', .int .i64 r']
  unfold gV
  go_enter Try.func5, Try.ntmps5
  go_wp2_with fail
  go_at_call 8
  with_reducible refine (H0.out _).mono ?_
  rintro e w1 ⟨rfl, hb1⟩
  have hv1 := hV.below hb1 (by simp)
  have d0 := hv1.cell (j := 0) rfl
  have d1 := hv1.cell (j := 1) rfl
  have d2 := hv1.cell (j := 2) rfl
  have f0 := hv1.frozen 0
  have f1 := hv1.frozen 1
  have f2 := hv1.frozen 2
  have hv2 := ((hv1.set 0 (.int .i64 p)).set 1 (.int .i64 q)).set 2 (.int .i64 r)
  have hbk : Below w.heap.size w (((w1.setCell ⟨w.heap.size, 0, none⟩ (.int .i64 p)).setCell ⟨w.heap.size, 1, none⟩ (.int .i64 q)).setCell ⟨w.heap.size, 2, none⟩ (.int .i64 r)) := (((bel0 (bel_alloc _ _) hb1).setCell (Nat.le_refl _) _).setCell (Nat.le_refl _) _).setCell (Nat.le_refl _) _
  clear hV hb1 hv1
  go_wp2_with fail
  generalize ((w1.setCell ⟨w.heap.size, 0, none⟩ (.int .i64 p)).setCell ⟨w.heap.size, 1, none⟩ (.int .i64 q)).setCell ⟨w.heap.size, 2, none⟩ (.int .i64 r) = wk at hv2 hbk ⊢
  have HB := Lib.hid hbk
  have HC0 := Lib.hid (show wk.cell? ⟨w.heap.size, 0, none⟩ = some (.int .i64 p) from hv2.cell rfl)
  have HC1 := Lib.hid (show wk.cell? ⟨w.heap.size, 1, none⟩ = some (.int .i64 q) from hv2.cell rfl)
  have HC2 := Lib.hid (show wk.cell? ⟨w.heap.size, 2, none⟩ = some (.int .i64 r) from hv2.cell rfl)
  clear hv2 hbk d0 d1 d2 f0 f1 f2
  obtain ⟨p0, p1, s0, s1, r0, r1⟩ := hsm
  simp only at p0 p1 s0 s1 r0 r1
  have hR : rightG ⟨p, q, r⟩ = true := right_small.2 ⟨p0, p1, s0, s1, r0, r1⟩
  have HA := Lib.hid alive_any
  have K1 : Hid (∀ w, Calls Try.prog 23 #[.agg #[.int .i64 p, .int .i64 q, .int .i64 r], .int .i64 n] w fun e w' => e = .returned (.tuple #[.int .i64 (whereG ⟨p, q, r⟩ n).1, .int .i64 (whereG ⟨p, q, r⟩ n).2.1, .bool (whereG ⟨p, q, r⟩ n).2.2]) ∧ Below w.heap.size w w') := fun w => where_any ⟨p, q, r⟩ n w
  have K2 : Hid (∀ i s w, Calls Try.prog 22 #[.agg #[.int .i64 p, .int .i64 q, .int .i64 r], .int .i64 i, .int .i64 s] w fun e w' => e = .returned (.tuple #[.int .i64 (pageG ⟨p, q, r⟩ i s).1, .bool (pageG ⟨p, q, r⟩ i s).2]) ∧ Below w.heap.size w w') := fun i s w => page_any ⟨p, q, r⟩ i s w
  have K4 : Hid (∀ w, Calls Try.prog 14 #[.agg #[.int .i64 p, .int .i64 q, .int .i64 r]] w fun e w' => e = .returned (.int .i64 (q - 1)) ∧ Below w.heap.size w w') := fun w => by have := slots_any ⟨p, q, r⟩ w; rw [hR] at this; exact this
  have hB := HB.out
  have c0 := HC0.out
  have c1 := HC1.out
  have c2 := HC2.out
  by_cases hok : 0 ≤ n ∧ n < q * r
  · have hw : whereG ⟨p, q, r⟩ n = (n / q, n % q, true) := by unfold whereG; rw [if_pos ⟨hR, hok⟩]
    have d1 : 0 ≤ n / q := Int.ediv_nonneg hok.1 (by omega)
    have d2 : n / q < r := Int.ediv_lt_of_lt_mul (by omega) (by rw [Int.mul_comm]; exact hok.2)
    have d3 : 0 ≤ n % q := Int.emod_nonneg _ (by omega)
    have d4 : n % q < q := Int.emod_lt_of_pos _ (by omega)
    have d5 : n / q * q + n % q = n := by have := Int.mul_ediv_add_emod n q; rw [Int.mul_comm] at this; exact this
    have hp : pageG ⟨p, q, r⟩ (n / q) (n % q) = (n, true) := by unfold pageG; rw [if_pos ⟨hR, d1, d2, d3, d4⟩]; simp only [d5]
    rw [hw] at K1
    have K2' := Lib.hid (fun w => K2.out (n / q) (n % q) w)
    rw [hp] at K2'
    simp only at K1 K2'
    clear hw hp hR d5 hok K2
    generalize n / q = i at *
    generalize n % q = s at *
    have t1 : decide (0 ≤ i) = true := by simpa using d1
    have t2 : decide (0 ≤ s) = true := by simpa using d3
    have t3 : decide (s ≤ q - 1) = true := by simp only [decide_eq_true_eq]; omega
    go_wp2_with (first
      | (go_at_call 23; (with_reducible refine (K1.out _).mono ?_); rintro e w3 ⟨rfl, hn⟩; replace hB := bel0 hB hn; replace c0 := cellB c0 hn; replace c1 := cellB c1 hn; replace c2 := cellB c2 hn; clear hn)
      | (go_at_call 22; (with_reducible refine (K2'.out _).mono ?_); rintro e w3 ⟨rfl, hn⟩; replace hB := bel0 hB hn; replace c0 := cellB c0 hn; replace c1 := cellB c1 hn; replace c2 := cellB c2 hn; clear hn)
      | (go_at_call 9; (with_reducible refine (HA.out _).mono ?_); rintro e w3 ⟨rfl, hn⟩; replace hB := bel0 hB hn; replace c0 := cellB c0 hn; replace c1 := cellB c1 hn; replace c2 := cellB c2 hn; clear hn)
      | (go_at_call 14; (with_reducible refine (K4.out _).mono ?_); rintro e w3 ⟨rfl, hn⟩; replace hB := bel0 hB hn; replace c0 := cellB c0 hn; replace c1 := cellB c1 hn; replace c2 := cellB c2 hn; clear hn))
    go_ret
    exact ⟨by simp, hB⟩
  · have hw : whereG ⟨p, q, r⟩ n = (0, 0, false) := by unfold whereG; rw [if_neg (fun h => hok h.2)]
    rw [hw] at K1
    have K2' := Lib.hid (fun w => K2.out 0 0 w)
    generalize pageG ⟨p, q, r⟩ 0 0 = pp at *
    simp only at K1
    clear hw hR hok K2
    go_wp2_with (first
      | (go_at_call 23; (with_reducible refine (K1.out _).mono ?_); rintro e w3 ⟨rfl, hn⟩; replace hB := bel0 hB hn; replace c0 := cellB c0 hn; replace c1 := cellB c1 hn; replace c2 := cellB c2 hn; clear hn)
      | (go_at_call 22; (with_reducible refine (K2'.out _).mono ?_); rintro e w3 ⟨rfl, hn⟩; replace hB := bel0 hB hn; replace c0 := cellB c0 hn; replace c1 := cellB c1 hn; replace c2 := cellB c2 hn; clear hn)
      | (go_at_call 9; (with_reducible refine (HA.out _).mono ?_); rintro e w3 ⟨rfl, hn⟩; replace hB := bel0 hB hn; replace c0 := cellB c0 hn; replace c1 := cellB c1 hn; replace c2 := cellB c2 hn; clear hn)
      | (go_at_call 14; (with_reducible refine (K4.out _).mono ?_); rintro e w3 ⟨rfl, hn⟩; replace hB := bel0 hB hn; replace c0 := cellB c0 hn; replace c1 := cellB c1 hn; replace c2 := cellB c2 hn; clear hn))
    go_ret
    exact ⟨by simp, hB⟩
end Go.Proofs.Ytbjjaojkfdjcdaa.Geom
