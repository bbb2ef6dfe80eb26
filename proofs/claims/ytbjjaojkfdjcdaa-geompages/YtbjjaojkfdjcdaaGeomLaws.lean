/-
  The walks of the laws of chapter 6.
-/
import Derived.Test.YtbjjaojkfdjcdaaGeomX
namespace Go.Proofs.Ytbjjaojkfdjcdaa.Geom
open Go.RowKit
open Own Tup
open Go.Proofs.Ytbjjaojkfdjcdaa.Region (fill Then Deps Each wp_region_is wp_region_is_tail)
theorem cellB {w w' : World} {a : Addr} {x : Value} (h : w.cell? a = some x) (hb : Below w.heap.size w w') : w'.cell? a = some x := by rw [hb.cell (block_lt_of_cell h)]; exact h
theorem alive_any (w : World) : Calls Try.prog 9 #[] w fun e w' => e = .returned (.bool true) ∧ Below w.heap.size w w' := by
  have H1 : Hid (∀ w, Calls Try.prog 10 #[.agg #[.int .i64 32, .int .i64 4, .int .i64 4]] w fun e w' => e = .returned (.bool true) ∧ Below w.heap.size w w') := fun w => right_any ⟨32, 4, 4⟩ w
  have H2 : Hid (∀ w, Calls Try.prog 13 #[.agg #[.int .i64 32, .int .i64 4, .int .i64 4]] w fun e w' => e = .returned (.int .i64 17) ∧ Below w.heap.size w w') := fun w => room_any ⟨32, 4, 4⟩ w
  have H3 : Hid (∀ w, Calls Try.prog 14 #[.agg #[.int .i64 32, .int .i64 4, .int .i64 4]] w fun e w' => e = .returned (.int .i64 3) ∧ Below w.heap.size w w') := fun w => slots_any ⟨32, 4, 4⟩ w
  have H4 : Hid (∀ w, Calls Try.prog 15 #[.agg #[.int .i64 32, .int .i64 4, .int .i64 4], .int .i64 18] w fun e w' => e = .returned (.int .i64 3) ∧ Below w.heap.size w w') := fun w => need_any ⟨32, 4, 4⟩ 18 w
  have H5 : Hid (∀ w, Calls Try.prog 16 #[.agg #[.int .i64 32, .int .i64 4, .int .i64 4]] w fun e w' => e = .returned (.int .i64 3) ∧ Below w.heap.size w w') := fun w => most_any ⟨32, 4, 4⟩ w
  have H6 : Hid (∀ w, Calls Try.prog 17 #[.agg #[.int .i64 32, .int .i64 4, .int .i64 4]] w fun e w' => e = .returned (.int .i64 6) ∧ Below w.heap.size w w') := fun w => held_any ⟨32, 4, 4⟩ w
  have hB := bel_alloc w (.cells #[.int .i64 32, .int .i64 4, .int .i64 4] 23)
  have hV := Var.new w 23 [.int .i64 32, .int .i64 4, .int .i64 4]
  have c0 := hV.cell (j := 0) rfl
  have c1 := hV.cell (j := 1) rfl
  have c2 := hV.cell (j := 2) rfl
  clear hV
  go_enter Try.func9, Try.ntmps9
  go_wp2_with (first
    | (go_at_call 10; (with_reducible refine (H1.out _).mono ?_); rintro e w3 ⟨rfl, hn⟩; replace hB := bel0 hB hn; replace c0 := cellB c0 hn; replace c1 := cellB c1 hn; replace c2 := cellB c2 hn; clear hn)
    | (go_at_call 13; (with_reducible refine (H2.out _).mono ?_); rintro e w3 ⟨rfl, hn⟩; replace hB := bel0 hB hn; replace c0 := cellB c0 hn; replace c1 := cellB c1 hn; replace c2 := cellB c2 hn; clear hn)
    | (go_at_call 14; (with_reducible refine (H3.out _).mono ?_); rintro e w3 ⟨rfl, hn⟩; replace hB := bel0 hB hn; replace c0 := cellB c0 hn; replace c1 := cellB c1 hn; replace c2 := cellB c2 hn; clear hn)
    | (go_at_call 15; (with_reducible refine (H4.out _).mono ?_); rintro e w3 ⟨rfl, hn⟩; replace hB := bel0 hB hn; replace c0 := cellB c0 hn; replace c1 := cellB c1 hn; replace c2 := cellB c2 hn; clear hn)
    | (go_at_call 16; (with_reducible refine (H5.out _).mono ?_); rintro e w3 ⟨rfl, hn⟩; replace hB := bel0 hB hn; replace c0 := cellB c0 hn; replace c1 := cellB c1 hn; replace c2 := cellB c2 hn; clear hn)
    | (go_at_call 17; (with_reducible refine (H6.out _).mono ?_); rintro e w3 ⟨rfl, hn⟩; replace hB := bel0 hB hn; replace c0 := cellB c0 hn; replace c1 := cellB c1 hn; replace c2 := cellB c2 hn; clear hn))
  go_ret
  exact ⟨rfl, hB⟩
set_option maxRecDepth 100000 in
set_option maxHeartbeats 8000000 in
theorem tells_plain (g : Gm) (n : Int) (w : World) : Calls Try.prog 3 #[gV g, .int .i64 n, .bool false] w fun e w' => e = .returned (.bool true) ∧ Below w.heap.size w w' := by
  obtain ⟨p, q, r⟩ := g
  have hV := Var.new w 23 [.int .i64 p, .int .i64 q, .int .i64 r]
  obtain ⟨wk, hwk⟩ : ∃ wk, wk = w.alloc (.cells #[.int .i64 p, .int .i64 q, .int .i64 r] 23) := ⟨_, rfl⟩
  have HB := Lib.hid (show Below w.heap.size w wk by rw [hwk]; exact bel_alloc _ _)
  have HC0 := Lib.hid (show wk.cell? ⟨w.heap.size, 0, none⟩ = some (.int .i64 p) by rw [hwk]; exact hV.cell rfl)
  have HC1 := Lib.hid (show wk.cell? ⟨w.heap.size, 1, none⟩ = some (.int .i64 q) by rw [hwk]; exact hV.cell rfl)
  have HC2 := Lib.hid (show wk.cell? ⟨w.heap.size, 2, none⟩ = some (.int .i64 r) by rw [hwk]; exact hV.cell rfl)
  clear hV
  unfold gV
  go_enter Try.func3, Try.ntmps3
  go_wp2
  rw [← hwk]
  clear hwk
  have HR : Hid (∀ w, Calls Try.prog 10 #[.agg #[.int .i64 p, .int .i64 q, .int .i64 r]] w fun e w' => e = .returned (.bool (rightG ⟨p, q, r⟩)) ∧ Below w.heap.size w w') := fun w => right_any ⟨p, q, r⟩ w
  have HS : Hid (∀ w, Calls Try.prog 11 #[.agg #[.int .i64 p, .int .i64 q, .int .i64 r]] w fun e w' => e = .returned (.bool (rightG ⟨p, q, r⟩)) ∧ Below w.heap.size w w') := fun w => refRight_any ⟨p, q, r⟩ w
  have HA := Lib.hid alive_any
  have K1 : Hid (∀ w, Calls Try.prog 12 #[.agg #[.int .i64 p, .int .i64 q, .int .i64 r]] w fun e w' => e = .returned (.int .i64 (if rightG ⟨p, q, r⟩ then p * q * r else 0)) ∧ Below w.heap.size w w') := fun w => bytes_any ⟨p, q, r⟩ w
  have K3 : Hid (∀ w, Calls Try.prog 13 #[.agg #[.int .i64 p, .int .i64 q, .int .i64 r]] w fun e w' => e = .returned (.int .i64 (if rightG ⟨p, q, r⟩ then p - 15 else 0)) ∧ Below w.heap.size w w') := fun w => room_any ⟨p, q, r⟩ w
  have K4 : Hid (∀ w, Calls Try.prog 14 #[.agg #[.int .i64 p, .int .i64 q, .int .i64 r]] w fun e w' => e = .returned (.int .i64 (if rightG ⟨p, q, r⟩ then q - 1 else 0)) ∧ Below w.heap.size w w') := fun w => slots_any ⟨p, q, r⟩ w
  have K5 : Hid (∀ w, Calls Try.prog 15 #[.agg #[.int .i64 p, .int .i64 q, .int .i64 r], .int .i64 n] w fun e w' => e = .returned (.int .i64 (if rightG ⟨p, q, r⟩ then needG ⟨p, q, r⟩ n else 0)) ∧ Below w.heap.size w w') := fun w => need_any ⟨p, q, r⟩ n w
  have K7 : Hid (∀ w, Calls Try.prog 16 #[.agg #[.int .i64 p, .int .i64 q, .int .i64 r]] w fun e w' => e = .returned (.int .i64 (if rightG ⟨p, q, r⟩ then (r - 3) * (q - 1) else 0)) ∧ Below w.heap.size w w') := fun w => most_any ⟨p, q, r⟩ w
  have K9 : Hid (∀ w, Calls Try.prog 17 #[.agg #[.int .i64 p, .int .i64 q, .int .i64 r]] w fun e w' => e = .returned (.int .i64 (if rightG ⟨p, q, r⟩ then (r - 2) * (q - 1) else 0)) ∧ Below w.heap.size w w') := fun w => held_any ⟨p, q, r⟩ w
  have HSM := Lib.hid (right_small (g := ⟨p, q, r⟩))
  cases hR : rightG ⟨p, q, r⟩ with
  | false =>
    rw [hR] at HR HS K1 K3 K4 K5 K7 K9
    simp only [Bool.false_eq_true, if_false] at K1 K3 K4 K5 K7 K9
    clear hR
    refine wp_region_is [10, 11, 12, 13, 14, 15, 16, 17, 18] (fun w' => Below wk.heap.size wk w')
      [.bool true, .bool false, .bool false, .agg #[.int .i64 p, .int .i64 q, .int .i64 r], .bool false, .agg #[.int .i64 p, .int .i64 q, .int .i64 r], .bool false, .bool false, .bool false] (by kernel_rfl) (by kernel_rfl) rfl (by decide) (by simp) (Below.refl _ _).drew ?each ?done
    case each =>
      simp only [Each]
      repeat' (first | exact trivial | refine And.intro ?_ ?_)
      all_goals
        intro ys wx hBx hdeps
        simp only [Deps, Region.binds, List.getD_cons_zero, List.getD_cons_succ, forall_const, and_true] at hdeps
        have c0 := cellB HC0.out hBx
        have c1 := cellB HC1.out hBx
        have c2 := cellB HC2.out hBx
        simp only [hdeps, fill, List.foldl_cons, List.foldl_nil, Act.put, List.setIfInBounds_toArray, List.set_cons_succ, List.set_cons_zero]
        first
          | (go_wp2_with fail; exact ⟨_, rfl, rfl, hBx, Below.refl _ _⟩)
          | (go_wp2_with (go_at_call 9; (with_reducible refine (HA.out _).mono ?_); rintro e w3 ⟨rfl, hn⟩); exact ⟨_, rfl, rfl, hBx.trans (hn.mono hBx.size), hn⟩)
          | (go_wp2_with (go_at_call 10; (with_reducible refine (HR.out _).mono ?_); rintro e w3 ⟨rfl, hn⟩); exact ⟨_, rfl, rfl, hBx.trans (hn.mono hBx.size), hn⟩)
          | (go_wp2_with (go_at_call 11; (with_reducible refine (HS.out _).mono ?_); rintro e w3 ⟨rfl, hn⟩); exact ⟨_, rfl, rfl, hBx.trans (hn.mono hBx.size), hn⟩)
    case done =>
      intro ys wx hBx hV
      have h18 : ys 18 = .bool false := hV 8 (by decide)
      simp only [h18, fill, List.drop_succ_cons, List.drop_zero, List.foldl_cons, List.foldl_nil, Act.put, List.setIfInBounds_toArray, List.set_cons_succ, List.set_cons_zero]
      have hB := bel0 HB.out hBx
      have c0 := cellB HC0.out hBx
      have c1 := cellB HC1.out hBx
      have c2 := cellB HC2.out hBx
      go_wp2_with (first
          | (go_at_call 11; (with_reducible refine (HS.out _).mono ?_); rintro e w3 ⟨rfl, hn⟩; replace hB := bel0 hB hn; replace c0 := cellB c0 hn; replace c1 := cellB c1 hn; replace c2 := cellB c2 hn; clear hn)
          | (go_at_call 12; (with_reducible refine (K1.out _).mono ?_); rintro e w3 ⟨rfl, hn⟩; replace hB := bel0 hB hn; replace c0 := cellB c0 hn; replace c1 := cellB c1 hn; replace c2 := cellB c2 hn; clear hn)
          | (go_at_call 13; (with_reducible refine (K3.out _).mono ?_); rintro e w3 ⟨rfl, hn⟩; replace hB := bel0 hB hn; replace c0 := cellB c0 hn; replace c1 := cellB c1 hn; replace c2 := cellB c2 hn; clear hn)
          | (go_at_call 14; (with_reducible refine (K4.out _).mono ?_); rintro e w3 ⟨rfl, hn⟩; replace hB := bel0 hB hn; replace c0 := cellB c0 hn; replace c1 := cellB c1 hn; replace c2 := cellB c2 hn; clear hn)
          | (go_at_call 15; (with_reducible refine (K5.out _).mono ?_); rintro e w3 ⟨rfl, hn⟩; replace hB := bel0 hB hn; replace c0 := cellB c0 hn; replace c1 := cellB c1 hn; replace c2 := cellB c2 hn; clear hn)
          | (go_at_call 16; (with_reducible refine (K7.out _).mono ?_); rintro e w3 ⟨rfl, hn⟩; replace hB := bel0 hB hn; replace c0 := cellB c0 hn; replace c1 := cellB c1 hn; replace c2 := cellB c2 hn; clear hn)
          | (go_at_call 17; (with_reducible refine (K9.out _).mono ?_); rintro e w3 ⟨rfl, hn⟩; replace hB := bel0 hB hn; replace c0 := cellB c0 hn; replace c1 := cellB c1 hn; replace c2 := cellB c2 hn; clear hn))
      go_ret
      exact ⟨rfl, hB⟩
  | true =>
    obtain ⟨p0, p1, s0, s1, r0, r1⟩ := HSM.out.1 hR
    simp only at p0 p1 s0 s1 r0 r1
    have hg : Small ⟨p, q, r⟩ := ⟨p0, p1, s0, s1, r0, r1⟩
    rw [hR] at HR HS K1 K3 K4 K5 K7 K9
    simp only [if_true] at K1 K3 K4 K5 K7 K9
    clear hR
    have K2 : Hid (∀ w, Calls Try.prog 18 #[.agg #[.int .i64 p, .int .i64 q, .int .i64 r]] w fun e w' => e = .returned (.int .i64 (p * q * r)) ∧ Below w.heap.size w w') := fun w => refSize_any ⟨p, q, r⟩ hg w
    have K6 : Hid (∀ w, Calls Try.prog 19 #[.agg #[.int .i64 p, .int .i64 q, .int .i64 r], .int .i64 n] w fun e w' => e = .returned (.int .i64 (needG ⟨p, q, r⟩ n)) ∧ Below w.heap.size w w') := fun w => refNeed_any ⟨p, q, r⟩ hg n w
    have K8 : Hid (∀ w, Calls Try.prog 20 #[.agg #[.int .i64 p, .int .i64 q, .int .i64 r]] w fun e w' => e = .returned (.int .i64 ((r - 3) * (q - 1))) ∧ Below w.heap.size w w') := fun w => refMost_any ⟨p, q, r⟩ hg w
    have K10 : Hid (∀ w, Calls Try.prog 21 #[.agg #[.int .i64 p, .int .i64 q, .int .i64 r]] w fun e w' => e = .returned (.int .i64 ((r - 2) * (q - 1))) ∧ Below w.heap.size w w') := fun w => refHeld_any ⟨p, q, r⟩ hg w
    generalize needG ⟨p, q, r⟩ n = nd at *
    refine wp_region_is [10, 11, 12, 13, 14, 15, 16, 17, 18] (fun w' => Below wk.heap.size wk w')
      [.bool true, .bool false, .bool false, .agg #[.int .i64 p, .int .i64 q, .int .i64 r], .bool true, .agg #[.int .i64 p, .int .i64 q, .int .i64 r], .bool true, .bool false, .bool false] (by kernel_rfl) (by kernel_rfl) rfl (by decide) (by simp) (Below.refl _ _).drew ?each ?done
    case each =>
      simp only [Each]
      repeat' (first | exact trivial | refine And.intro ?_ ?_)
      all_goals
        intro ys wx hBx hdeps
        simp only [Deps, Region.binds, List.getD_cons_zero, List.getD_cons_succ, forall_const, and_true] at hdeps
        have c0 := cellB HC0.out hBx
        have c1 := cellB HC1.out hBx
        have c2 := cellB HC2.out hBx
        simp only [hdeps, fill, List.foldl_cons, List.foldl_nil, Act.put, List.setIfInBounds_toArray, List.set_cons_succ, List.set_cons_zero]
        first
          | (go_wp2_with fail; exact ⟨_, rfl, rfl, hBx, Below.refl _ _⟩)
          | (go_wp2_with (go_at_call 9; (with_reducible refine (HA.out _).mono ?_); rintro e w3 ⟨rfl, hn⟩); exact ⟨_, rfl, rfl, hBx.trans (hn.mono hBx.size), hn⟩)
          | (go_wp2_with (go_at_call 10; (with_reducible refine (HR.out _).mono ?_); rintro e w3 ⟨rfl, hn⟩); exact ⟨_, rfl, rfl, hBx.trans (hn.mono hBx.size), hn⟩)
          | (go_wp2_with (go_at_call 11; (with_reducible refine (HS.out _).mono ?_); rintro e w3 ⟨rfl, hn⟩); exact ⟨_, rfl, rfl, hBx.trans (hn.mono hBx.size), hn⟩)
    case done =>
      intro ys wx hBx hV
      have h18 : ys 18 = .bool false := hV 8 (by decide)
      simp only [h18, fill, List.drop_succ_cons, List.drop_zero, List.foldl_cons, List.foldl_nil, Act.put, List.setIfInBounds_toArray, List.set_cons_succ, List.set_cons_zero]
      have hB := bel0 HB.out hBx
      have c0 := cellB HC0.out hBx
      have c1 := cellB HC1.out hBx
      have c2 := cellB HC2.out hBx
      go_wp2_with fail
      go_at_call 11
      with_reducible refine (HS.out _).mono ?_
      rintro e w4 ⟨rfl, hn⟩
      clear HB HC0 HC1 HC2
      have HB := Lib.hid (bel0 hB hn)
      have HC0 := Lib.hid (cellB c0 hn)
      have HC1 := Lib.hid (cellB c1 hn)
      have HC2 := Lib.hid (cellB c2 hn)
      clear hB c0 c1 c2 hn
      go_wp2
      refine wp_region_is [51, 52, 53, 54, 55, 56, 57, 58, 59, 60, 61, 62, 63, 64, 65, 66, 67, 68, 69, 70, 71, 72, 73, 74, 75, 76, 77, 78, 79, 80, 81, 82, 83, 84, 85, 86, 87, 88, 89, 90, 91, 92, 93, 94, 6] (fun w' => Below w4.heap.size w4 w')
        [.agg #[.int .i64 p, .int .i64 q, .int .i64 r], .int .i64 (p * q * r), .agg #[.int .i64 p, .int .i64 q, .int .i64 r], .int .i64 (p * q * r), .bool true, .bool true, .agg #[.int .i64 p, .int .i64 q, .int .i64 r], .int .i64 (p - 15), .pointer (some ⟨w.heap.size, 0, none⟩), .int .i64 (p), .int .i64 (p - 15), .bool true, .bool true, .bool true, .agg #[.int .i64 p, .int .i64 q, .int .i64 r], .int .i64 (q - 1), .pointer (some ⟨w.heap.size, 1, none⟩), .int .i64 (q), .int .i64 (q - 1), .bool true, .bool true, .bool true, .agg #[.int .i64 p, .int .i64 q, .int .i64 r], .int .i64 (n), .int .i64 (nd), .agg #[.int .i64 p, .int .i64 q, .int .i64 r], .int .i64 (n), .int .i64 (nd), .bool true, .bool true, .bool true, .agg #[.int .i64 p, .int .i64 q, .int .i64 r], .int .i64 ((r - 3) * (q - 1)), .agg #[.int .i64 p, .int .i64 q, .int .i64 r], .int .i64 ((r - 3) * (q - 1)), .bool true, .bool true, .bool true, .agg #[.int .i64 p, .int .i64 q, .int .i64 r], .int .i64 ((r - 2) * (q - 1)), .agg #[.int .i64 p, .int .i64 q, .int .i64 r], .int .i64 ((r - 2) * (q - 1)), .bool true, .bool true, .bool true] (by kernel_rfl) (by kernel_rfl) rfl (by decide) (by simp) (Below.refl _ _).drew ?each ?done
      case each =>
        simp only [Each]
        repeat' (first | exact trivial | refine And.intro ?_ ?_)
        all_goals
          intro ys wx hBx hdeps
          simp only [Deps, Region.binds, List.getD_cons_zero, List.getD_cons_succ, forall_const, and_true] at hdeps
          have c0 := cellB HC0.out hBx
          have c1 := cellB HC1.out hBx
          have c2 := cellB HC2.out hBx
          simp only [hdeps, fill, List.foldl_cons, List.foldl_nil, Act.put, List.setIfInBounds_toArray, List.set_cons_succ, List.set_cons_zero]
          first
            | (go_wp2_with fail; exact ⟨_, rfl, rfl, hBx, Below.refl _ _⟩)
            | (go_wp2_with (go_at_call 12; (with_reducible refine (K1.out _).mono ?_); rintro e w3 ⟨rfl, hn⟩); exact ⟨_, rfl, rfl, hBx.trans (hn.mono hBx.size), hn⟩)
            | (go_wp2_with (go_at_call 18; (with_reducible refine (K2.out _).mono ?_); rintro e w3 ⟨rfl, hn⟩); exact ⟨_, rfl, rfl, hBx.trans (hn.mono hBx.size), hn⟩)
            | (go_wp2_with (go_at_call 13; (with_reducible refine (K3.out _).mono ?_); rintro e w3 ⟨rfl, hn⟩); exact ⟨_, rfl, rfl, hBx.trans (hn.mono hBx.size), hn⟩)
            | (go_wp2_with (go_at_call 14; (with_reducible refine (K4.out _).mono ?_); rintro e w3 ⟨rfl, hn⟩); exact ⟨_, rfl, rfl, hBx.trans (hn.mono hBx.size), hn⟩)
            | (go_wp2_with (go_at_call 15; (with_reducible refine (K5.out _).mono ?_); rintro e w3 ⟨rfl, hn⟩); exact ⟨_, rfl, rfl, hBx.trans (hn.mono hBx.size), hn⟩)
            | (go_wp2_with (go_at_call 19; (with_reducible refine (K6.out _).mono ?_); rintro e w3 ⟨rfl, hn⟩); exact ⟨_, rfl, rfl, hBx.trans (hn.mono hBx.size), hn⟩)
            | (go_wp2_with (go_at_call 16; (with_reducible refine (K7.out _).mono ?_); rintro e w3 ⟨rfl, hn⟩); exact ⟨_, rfl, rfl, hBx.trans (hn.mono hBx.size), hn⟩)
            | (go_wp2_with (go_at_call 20; (with_reducible refine (K8.out _).mono ?_); rintro e w3 ⟨rfl, hn⟩); exact ⟨_, rfl, rfl, hBx.trans (hn.mono hBx.size), hn⟩)
            | (go_wp2_with (go_at_call 17; (with_reducible refine (K9.out _).mono ?_); rintro e w3 ⟨rfl, hn⟩); exact ⟨_, rfl, rfl, hBx.trans (hn.mono hBx.size), hn⟩)
            | (go_wp2_with (go_at_call 21; (with_reducible refine (K10.out _).mono ?_); rintro e w3 ⟨rfl, hn⟩); exact ⟨_, rfl, rfl, hBx.trans (hn.mono hBx.size), hn⟩)
      case done =>
        intro ys wx hBx hV
        have h6 : ys 6 = .bool true := hV 44 (by decide)
        simp only [h6, fill, List.drop_succ_cons, List.drop_zero, List.foldl_cons, List.foldl_nil, Act.put, List.setIfInBounds_toArray, List.set_cons_succ, List.set_cons_zero]
        go_wp2
        go_ret
        exact ⟨rfl, bel0 HB.out hBx⟩
set_option maxRecDepth 100000 in
set_option maxHeartbeats 8000000 in
theorem tells_small (g : Gm) (n : Int) (w : World) : Calls Try.prog 3 #[gV g, .int .i64 n, .bool true] w fun e w' => e = .returned (.bool true) ∧ Below w.heap.size w w' := by
  obtain ⟨p', q', r'⟩ := g
  obtain ⟨p, hp⟩ : ∃ p, p = 32 + p' % 33 := ⟨_, rfl⟩
  obtain ⟨q, hq⟩ : ∃ q, q = 3 + q' % 4 := ⟨_, rfl⟩
  obtain ⟨r, hr⟩ : ∃ r, r = 4 + r' % 4 := ⟨_, rfl⟩
  have hsm : Small ⟨p, q, r⟩ := by have := small_small ⟨p', q', r'⟩; unfold smallG at this; rw [hp, hq, hr]; exact this
  have H0 : Hid (∀ w, Calls Try.prog 8 #[.agg #[.int .i64 p', .int .i64 q', .int .i64 r']] w fun e w' => e = .returned (.agg #[.int .i64 p, .int .i64 q, .int .i64 r]) ∧ Below w.heap.size w w') := fun w => by
    rw [hp, hq, hr]; exact geom_any ⟨p', q', r'⟩ w
  clear hp hq hr
  have hV := Var.new w 23 [.int .i64 p', .int .i64 q', .int .i64 r']
  unfold gV
  go_enter Try.func3, Try.ntmps3
  go_wp2_with fail
  go_at_call 8
  with_reducible refine (H0.out _).mono ?_
  rintro e w1 ⟨rfl, hb1⟩
  have hv1 := hV.below hb1 (by simp)
  have d0 := hv1.cell (j := 0) rfl
  have d1 := hv1.cell (j := 1) rfl
  have d2 := hv1.cell (j := 2) rfl
  have f0 := hv1.frozen 0
  have f1 := hv1.frozen 1
  have f2 := hv1.frozen 2
  have hv2 := ((hv1.set 0 (.int .i64 p)).set 1 (.int .i64 q)).set 2 (.int .i64 r)
  have hbk : Below w.heap.size w (((w1.setCell ⟨w.heap.size, 0, none⟩ (.int .i64 p)).setCell ⟨w.heap.size, 1, none⟩ (.int .i64 q)).setCell ⟨w.heap.size, 2, none⟩ (.int .i64 r)) := (((bel0 (bel_alloc _ _) hb1).setCell (Nat.le_refl _) _).setCell (Nat.le_refl _) _).setCell (Nat.le_refl _) _
  clear hV hb1 hv1
  go_wp2_with fail
  generalize ((w1.setCell ⟨w.heap.size, 0, none⟩ (.int .i64 p)).setCell ⟨w.heap.size, 1, none⟩ (.int .i64 q)).setCell ⟨w.heap.size, 2, none⟩ (.int .i64 r) = wk at hv2 hbk ⊢
  have HB := Lib.hid hbk
  have HC0 := Lib.hid (show wk.cell? ⟨w.heap.size, 0, none⟩ = some (.int .i64 p) from hv2.cell rfl)
  have HC1 := Lib.hid (show wk.cell? ⟨w.heap.size, 1, none⟩ = some (.int .i64 q) from hv2.cell rfl)
  have HC2 := Lib.hid (show wk.cell? ⟨w.heap.size, 2, none⟩ = some (.int .i64 r) from hv2.cell rfl)
  clear hv2 hbk d0 d1 d2 f0 f1 f2
  have HR : Hid (∀ w, Calls Try.prog 10 #[.agg #[.int .i64 p, .int .i64 q, .int .i64 r]] w fun e w' => e = .returned (.bool (rightG ⟨p, q, r⟩)) ∧ Below w.heap.size w w') := fun w => right_any ⟨p, q, r⟩ w
  have HS : Hid (∀ w, Calls Try.prog 11 #[.agg #[.int .i64 p, .int .i64 q, .int .i64 r]] w fun e w' => e = .returned (.bool (rightG ⟨p, q, r⟩)) ∧ Below w.heap.size w w') := fun w => refRight_any ⟨p, q, r⟩ w
  have HA := Lib.hid alive_any
  have K1 : Hid (∀ w, Calls Try.prog 12 #[.agg #[.int .i64 p, .int .i64 q, .int .i64 r]] w fun e w' => e = .returned (.int .i64 (if rightG ⟨p, q, r⟩ then p * q * r else 0)) ∧ Below w.heap.size w w') := fun w => bytes_any ⟨p, q, r⟩ w
  have K3 : Hid (∀ w, Calls Try.prog 13 #[.agg #[.int .i64 p, .int .i64 q, .int .i64 r]] w fun e w' => e = .returned (.int .i64 (if rightG ⟨p, q, r⟩ then p - 15 else 0)) ∧ Below w.heap.size w w') := fun w => room_any ⟨p, q, r⟩ w
  have K4 : Hid (∀ w, Calls Try.prog 14 #[.agg #[.int .i64 p, .int .i64 q, .int .i64 r]] w fun e w' => e = .returned (.int .i64 (if rightG ⟨p, q, r⟩ then q - 1 else 0)) ∧ Below w.heap.size w w') := fun w => slots_any ⟨p, q, r⟩ w
  have K5 : Hid (∀ w, Calls Try.prog 15 #[.agg #[.int .i64 p, .int .i64 q, .int .i64 r], .int .i64 n] w fun e w' => e = .returned (.int .i64 (if rightG ⟨p, q, r⟩ then needG ⟨p, q, r⟩ n else 0)) ∧ Below w.heap.size w w') := fun w => need_any ⟨p, q, r⟩ n w
  have K7 : Hid (∀ w, Calls Try.prog 16 #[.agg #[.int .i64 p, .int .i64 q, .int .i64 r]] w fun e w' => e = .returned (.int .i64 (if rightG ⟨p, q, r⟩ then (r - 3) * (q - 1) else 0)) ∧ Below w.heap.size w w') := fun w => most_any ⟨p, q, r⟩ w
  have K9 : Hid (∀ w, Calls Try.prog 17 #[.agg #[.int .i64 p, .int .i64 q, .int .i64 r]] w fun e w' => e = .returned (.int .i64 (if rightG ⟨p, q, r⟩ then (r - 2) * (q - 1) else 0)) ∧ Below w.heap.size w w') := fun w => held_any ⟨p, q, r⟩ w
  have HSM := Lib.hid (right_small (g := ⟨p, q, r⟩))
  cases hR : rightG ⟨p, q, r⟩ with
  | false =>
    rw [hR] at HR HS K1 K3 K4 K5 K7 K9
    simp only [Bool.false_eq_true, if_false] at K1 K3 K4 K5 K7 K9
    clear hR
    refine wp_region_is [10, 11, 12, 13, 14, 15, 16, 17, 18] (fun w' => Below wk.heap.size wk w')
      [.bool true, .bool false, .bool false, .agg #[.int .i64 p, .int .i64 q, .int .i64 r], .bool false, .agg #[.int .i64 p, .int .i64 q, .int .i64 r], .bool false, .bool false, .bool false] (by kernel_rfl) (by kernel_rfl) rfl (by decide) (by simp) (Below.refl _ _).drew ?each ?done
    case each =>
      simp only [Each]
      repeat' (first | exact trivial | refine And.intro ?_ ?_)
      all_goals
        intro ys wx hBx hdeps
        simp only [Deps, Region.binds, List.getD_cons_zero, List.getD_cons_succ, forall_const, and_true] at hdeps
        have c0 := cellB HC0.out hBx
        have c1 := cellB HC1.out hBx
        have c2 := cellB HC2.out hBx
        simp only [hdeps, fill, List.foldl_cons, List.foldl_nil, Act.put, List.setIfInBounds_toArray, List.set_cons_succ, List.set_cons_zero]
        first
          | (go_wp2_with fail; exact ⟨_, rfl, rfl, hBx, Below.refl _ _⟩)
          | (go_wp2_with (go_at_call 9; (with_reducible refine (HA.out _).mono ?_); rintro e w3 ⟨rfl, hn⟩); exact ⟨_, rfl, rfl, hBx.trans (hn.mono hBx.size), hn⟩)
          | (go_wp2_with (go_at_call 10; (with_reducible refine (HR.out _).mono ?_); rintro e w3 ⟨rfl, hn⟩); exact ⟨_, rfl, rfl, hBx.trans (hn.mono hBx.size), hn⟩)
          | (go_wp2_with (go_at_call 11; (with_reducible refine (HS.out _).mono ?_); rintro e w3 ⟨rfl, hn⟩); exact ⟨_, rfl, rfl, hBx.trans (hn.mono hBx.size), hn⟩)
    case done =>
      intro ys wx hBx hV
      have h18 : ys 18 = .bool false := hV 8 (by decide)
      simp only [h18, fill, List.drop_succ_cons, List.drop_zero, List.foldl_cons, List.foldl_nil, Act.put, List.setIfInBounds_toArray, List.set_cons_succ, List.set_cons_zero]
      have hB := bel0 HB.out hBx
      have c0 := cellB HC0.out hBx
      have c1 := cellB HC1.out hBx
      have c2 := cellB HC2.out hBx
      go_wp2_with (first
          | (go_at_call 11; (with_reducible refine (HS.out _).mono ?_); rintro e w3 ⟨rfl, hn⟩; replace hB := bel0 hB hn; replace c0 := cellB c0 hn; replace c1 := cellB c1 hn; replace c2 := cellB c2 hn; clear hn)
          | (go_at_call 12; (with_reducible refine (K1.out _).mono ?_); rintro e w3 ⟨rfl, hn⟩; replace hB := bel0 hB hn; replace c0 := cellB c0 hn; replace c1 := cellB c1 hn; replace c2 := cellB c2 hn; clear hn)
          | (go_at_call 13; (with_reducible refine (K3.out _).mono ?_); rintro e w3 ⟨rfl, hn⟩; replace hB := bel0 hB hn; replace c0 := cellB c0 hn; replace c1 := cellB c1 hn; replace c2 := cellB c2 hn; clear hn)
          | (go_at_call 14; (with_reducible refine (K4.out _).mono ?_); rintro e w3 ⟨rfl, hn⟩; replace hB := bel0 hB hn; replace c0 := cellB c0 hn; replace c1 := cellB c1 hn; replace c2 := cellB c2 hn; clear hn)
          | (go_at_call 15; (with_reducible refine (K5.out _).mono ?_); rintro e w3 ⟨rfl, hn⟩; replace hB := bel0 hB hn; replace c0 := cellB c0 hn; replace c1 := cellB c1 hn; replace c2 := cellB c2 hn; clear hn)
          | (go_at_call 16; (with_reducible refine (K7.out _).mono ?_); rintro e w3 ⟨rfl, hn⟩; replace hB := bel0 hB hn; replace c0 := cellB c0 hn; replace c1 := cellB c1 hn; replace c2 := cellB c2 hn; clear hn)
          | (go_at_call 17; (with_reducible refine (K9.out _).mono ?_); rintro e w3 ⟨rfl, hn⟩; replace hB := bel0 hB hn; replace c0 := cellB c0 hn; replace c1 := cellB c1 hn; replace c2 := cellB c2 hn; clear hn))
      go_ret
      exact ⟨rfl, hB⟩
  | true =>
    obtain ⟨p0, p1, s0, s1, r0, r1⟩ := HSM.out.1 hR
    simp only at p0 p1 s0 s1 r0 r1
    have hg : Small ⟨p, q, r⟩ := ⟨p0, p1, s0, s1, r0, r1⟩
    rw [hR] at HR HS K1 K3 K4 K5 K7 K9
    simp only [if_true] at K1 K3 K4 K5 K7 K9
    clear hR
    have K2 : Hid (∀ w, Calls Try.prog 18 #[.agg #[.int .i64 p, .int .i64 q, .int .i64 r]] w fun e w' => e = .returned (.int .i64 (p * q * r)) ∧ Below w.heap.size w w') := fun w => refSize_any ⟨p, q, r⟩ hg w
    have K6 : Hid (∀ w, Calls Try.prog 19 #[.agg #[.int .i64 p, .int .i64 q, .int .i64 r], .int .i64 n] w fun e w' => e = .returned (.int .i64 (needG ⟨p, q, r⟩ n)) ∧ Below w.heap.size w w') := fun w => refNeed_any ⟨p, q, r⟩ hg n w
    have K8 : Hid (∀ w, Calls Try.prog 20 #[.agg #[.int .i64 p, .int .i64 q, .int .i64 r]] w fun e w' => e = .returned (.int .i64 ((r - 3) * (q - 1))) ∧ Below w.heap.size w w') := fun w => refMost_any ⟨p, q, r⟩ hg w
    have K10 : Hid (∀ w, Calls Try.prog 21 #[.agg #[.int .i64 p, .int .i64 q, .int .i64 r]] w fun e w' => e = .returned (.int .i64 ((r - 2) * (q - 1))) ∧ Below w.heap.size w w') := fun w => refHeld_any ⟨p, q, r⟩ hg w
    generalize needG ⟨p, q, r⟩ n = nd at *
    refine wp_region_is [10, 11, 12, 13, 14, 15, 16, 17, 18] (fun w' => Below wk.heap.size wk w')
      [.bool true, .bool false, .bool false, .agg #[.int .i64 p, .int .i64 q, .int .i64 r], .bool true, .agg #[.int .i64 p, .int .i64 q, .int .i64 r], .bool true, .bool false, .bool false] (by kernel_rfl) (by kernel_rfl) rfl (by decide) (by simp) (Below.refl _ _).drew ?each ?done
    case each =>
      simp only [Each]
      repeat' (first | exact trivial | refine And.intro ?_ ?_)
      all_goals
        intro ys wx hBx hdeps
        simp only [Deps, Region.binds, List.getD_cons_zero, List.getD_cons_succ, forall_const, and_true] at hdeps
        have c0 := cellB HC0.out hBx
        have c1 := cellB HC1.out hBx
        have c2 := cellB HC2.out hBx
        simp only [hdeps, fill, List.foldl_cons, List.foldl_nil, Act.put, List.setIfInBounds_toArray, List.set_cons_succ, List.set_cons_zero]
        first
          | (go_wp2_with fail; exact ⟨_, rfl, rfl, hBx, Below.refl _ _⟩)
          | (go_wp2_with (go_at_call 9; (with_reducible refine (HA.out _).mono ?_); rintro e w3 ⟨rfl, hn⟩); exact ⟨_, rfl, rfl, hBx.trans (hn.mono hBx.size), hn⟩)
          | (go_wp2_with (go_at_call 10; (with_reducible refine (HR.out _).mono ?_); rintro e w3 ⟨rfl, hn⟩); exact ⟨_, rfl, rfl, hBx.trans (hn.mono hBx.size), hn⟩)
          | (go_wp2_with (go_at_call 11; (with_reducible refine (HS.out _).mono ?_); rintro e w3 ⟨rfl, hn⟩); exact ⟨_, rfl, rfl, hBx.trans (hn.mono hBx.size), hn⟩)
    case done =>
      intro ys wx hBx hV
      have h18 : ys 18 = .bool false := hV 8 (by decide)
      simp only [h18, fill, List.drop_succ_cons, List.drop_zero, List.foldl_cons, List.foldl_nil, Act.put, List.setIfInBounds_toArray, List.set_cons_succ, List.set_cons_zero]
      have hB := bel0 HB.out hBx
      have c0 := cellB HC0.out hBx
      have c1 := cellB HC1.out hBx
      have c2 := cellB HC2.out hBx
      go_wp2_with fail
      go_at_call 11
      with_reducible refine (HS.out _).mono ?_
      rintro e w4 ⟨rfl, hn⟩
      clear HB HC0 HC1 HC2
      have HB := Lib.hid (bel0 hB hn)
      have HC0 := Lib.hid (cellB c0 hn)
      have HC1 := Lib.hid (cellB c1 hn)
      have HC2 := Lib.hid (cellB c2 hn)
      clear hB c0 c1 c2 hn
      go_wp2
      refine wp_region_is [51, 52, 53, 54, 55, 56, 57, 58, 59, 60, 61, 62, 63, 64, 65, 66, 67, 68, 69, 70, 71, 72, 73, 74, 75, 76, 77, 78, 79, 80, 81, 82, 83, 84, 85, 86, 87, 88, 89, 90, 91, 92, 93, 94, 6] (fun w' => Below w4.heap.size w4 w')
        [.agg #[.int .i64 p, .int .i64 q, .int .i64 r], .int .i64 (p * q * r), .agg #[.int .i64 p, .int .i64 q, .int .i64 r], .int .i64 (p * q * r), .bool true, .bool true, .agg #[.int .i64 p, .int .i64 q, .int .i64 r], .int .i64 (p - 15), .pointer (some ⟨w.heap.size, 0, none⟩), .int .i64 (p), .int .i64 (p - 15), .bool true, .bool true, .bool true, .agg #[.int .i64 p, .int .i64 q, .int .i64 r], .int .i64 (q - 1), .pointer (some ⟨w.heap.size, 1, none⟩), .int .i64 (q), .int .i64 (q - 1), .bool true, .bool true, .bool true, .agg #[.int .i64 p, .int .i64 q, .int .i64 r], .int .i64 (n), .int .i64 (nd), .agg #[.int .i64 p, .int .i64 q, .int .i64 r], .int .i64 (n), .int .i64 (nd), .bool true, .bool true, .bool true, .agg #[.int .i64 p, .int .i64 q, .int .i64 r], .int .i64 ((r - 3) * (q - 1)), .agg #[.int .i64 p, .int .i64 q, .int .i64 r], .int .i64 ((r - 3) * (q - 1)), .bool true, .bool true, .bool true, .agg #[.int .i64 p, .int .i64 q, .int .i64 r], .int .i64 ((r - 2) * (q - 1)), .agg #[.int .i64 p, .int .i64 q, .int .i64 r], .int .i64 ((r - 2) * (q - 1)), .bool true, .bool true, .bool true] (by kernel_rfl) (by kernel_rfl) rfl (by decide) (by simp) (Below.refl _ _).drew ?each ?done
      case each =>
        simp only [Each]
        repeat' (first | exact trivial | refine And.intro ?_ ?_)
        all_goals
          intro ys wx hBx hdeps
          simp only [Deps, Region.binds, List.getD_cons_zero, List.getD_cons_succ, forall_const, and_true] at hdeps
          have c0 := cellB HC0.out hBx
          have c1 := cellB HC1.out hBx
          have c2 := cellB HC2.out hBx
          simp only [hdeps, fill, List.foldl_cons, List.foldl_nil, Act.put, List.setIfInBounds_toArray, List.set_cons_succ, List.set_cons_zero]
          first
            | (go_wp2_with fail; exact ⟨_, rfl, rfl, hBx, Below.refl _ _⟩)
            | (go_wp2_with (go_at_call 12; (with_reducible refine (K1.out _).mono ?_); rintro e w3 ⟨rfl, hn⟩); exact ⟨_, rfl, rfl, hBx.trans (hn.mono hBx.size), hn⟩)
            | (go_wp2_with (go_at_call 18; (with_reducible refine (K2.out _).mono ?_); rintro e w3 ⟨rfl, hn⟩); exact ⟨_, rfl, rfl, hBx.trans (hn.mono hBx.size), hn⟩)
            | (go_wp2_with (go_at_call 13; (with_reducible refine (K3.out _).mono ?_); rintro e w3 ⟨rfl, hn⟩); exact ⟨_, rfl, rfl, hBx.trans (hn.mono hBx.size), hn⟩)
            | (go_wp2_with (go_at_call 14; (with_reducible refine (K4.out _).mono ?_); rintro e w3 ⟨rfl, hn⟩); exact ⟨_, rfl, rfl, hBx.trans (hn.mono hBx.size), hn⟩)
            | (go_wp2_with (go_at_call 15; (with_reducible refine (K5.out _).mono ?_); rintro e w3 ⟨rfl, hn⟩); exact ⟨_, rfl, rfl, hBx.trans (hn.mono hBx.size), hn⟩)
            | (go_wp2_with (go_at_call 19; (with_reducible refine (K6.out _).mono ?_); rintro e w3 ⟨rfl, hn⟩); exact ⟨_, rfl, rfl, hBx.trans (hn.mono hBx.size), hn⟩)
            | (go_wp2_with (go_at_call 16; (with_reducible refine (K7.out _).mono ?_); rintro e w3 ⟨rfl, hn⟩); exact ⟨_, rfl, rfl, hBx.trans (hn.mono hBx.size), hn⟩)
            | (go_wp2_with (go_at_call 20; (with_reducible refine (K8.out _).mono ?_); rintro e w3 ⟨rfl, hn⟩); exact ⟨_, rfl, rfl, hBx.trans (hn.mono hBx.size), hn⟩)
            | (go_wp2_with (go_at_call 17; (with_reducible refine (K9.out _).mono ?_); rintro e w3 ⟨rfl, hn⟩); exact ⟨_, rfl, rfl, hBx.trans (hn.mono hBx.size), hn⟩)
            | (go_wp2_with (go_at_call 21; (with_reducible refine (K10.out _).mono ?_); rintro e w3 ⟨rfl, hn⟩); exact ⟨_, rfl, rfl, hBx.trans (hn.mono hBx.size), hn⟩)
      case done =>
        intro ys wx hBx hV
        have h6 : ys 6 = .bool true := hV 44 (by decide)
        simp only [h6, fill, List.drop_succ_cons, List.drop_zero, List.foldl_cons, List.foldl_nil, Act.put, List.setIfInBounds_toArray, List.set_cons_succ, List.set_cons_zero]
        go_wp2
        go_ret
        exact ⟨rfl, bel0 HB.out hBx⟩
end Go.Proofs.Ytbjjaojkfdjcdaa.Geom
