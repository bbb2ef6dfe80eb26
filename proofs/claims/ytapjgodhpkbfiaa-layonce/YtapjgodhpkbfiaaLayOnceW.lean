/-
  The walk of LayOnce.
-/
import Derived.Test.YtapjgodhpkbfiaaLayLaws
import Derived.Test.YtapjgodhpkbfiaaLayD
import Derived.Deep.QuietTactic
import Derived.BigQuiet
import Derived.Test.YtapjgodhpkbfiaaRegionIs
namespace Go.Proofs.Ytapjgodhpkbfiaa.Lay
open Go.RowKit
open LayM Own
open Go.Proofs.Ytapjgodhpkbfiaa.Region (fill Then Deps Each wp_region_is)
theorem getT_code {s : ByteArray} {a m : Int} (h : (getN s a).2.2 ≠ 0) : getT s a m = (ByteArray.empty, 0, (getN s a).2.2) := by unfold getT; rw [if_pos h]
set_option maxRecDepth 100000 in
set_option maxHeartbeats 4000000 in
theorem once_none (s : ByteArray) (hs : s.size ≤ maxLen) (a : Int) (h : (getN s a).2.2 ≠ 0) (w : World) : Calls Try.prog 7 #[.string s, .int .i64 a] w fun e w' => e = .returned (.bool true) ∧ Below w.heap.size w w' := by
  have H1 := Lib.hid alive_any
  have H2 := Lib.hid (fun w => getNum_any s hs a w)
  have H3 : Hid (∀ w, Calls Try.prog 16 #[.string s, .int .i64 a, .int .i64 1048576] w fun e w' => e = .returned (tupT (ByteArray.empty, 0, (getN s a).2.2)) ∧ w = w') := fun w => by
    rw [← getT_code (m := 1048576) h]; exact getText_any s hs a 1048576 w
  obtain ⟨r, hr⟩ : ∃ r, r = getN s a := ⟨_, rfl⟩
  rw [← hr] at H2 H3 h
  unfold tupN at H2
  unfold tupT at H3
  clear hr
  have q1 : ((r.2.2 : Int) == 0) = false := by simpa using h
  have q2 : ((r.2.2 : Int) != 0) = true := by simpa using h
  have q3 : decide ((r.2.2 : Int) = 0) = false := by simpa using h
  have q4 : ¬ r.2.2 = 0 := h
  clear h
  have hB := Below.refl w.heap.size w
  go_enter Try.func7, Try.ntmps7
  go_wp2_with (first
    | (go_at_call 9; (with_reducible refine (H1.out _).mono ?_); rintro e w2 ⟨rfl, hn⟩; replace hB := bel0 hB hn; clear hn)
    | (go_at_call 14; (with_reducible refine (H2.out _).mono ?_); rintro e w2 ⟨rfl, rfl⟩)
    | (go_at_call 16; (with_reducible refine (H3.out _).mono ?_); rintro e w2 ⟨rfl, rfl⟩))
  go_quiet (fail)
  go_wp2
  have hB5 := below_drewN hB nq
  generalize hw5 : w2.drewN nq = w5 at hB5
  go_quiet (fail)
  go_wp2
  go_ret
  exact ⟨by simp, below_drewN hB5 _⟩
set_option maxRecDepth 100000 in
set_option maxHeartbeats 40000000 in
theorem once_short (s : ByteArray) (hs : s.size ≤ maxLen) (k p v c : Nat) (hkp : k < p) (hp : p ≤ s.size) (hv : v < 4294967296) (hx : s.extract k p = numS v) (hc : ¬ c = 0)
    (h2 : getN s (k : Int) = (v, p, 0)) (h3 : getT s (k : Int) 1048576 = (ByteArray.empty, 0, c)) (w : World) : Calls Try.prog 7 #[.string s, .int .i64 (k : Int)] w fun e w' => e = .returned (.bool true) ∧ Below w.heap.size w w' := by
  have H1 := Lib.hid alive_any
  have H2 := Lib.hid (fun w => getNum_any s hs k w)
  have H3 := Lib.hid (fun w => getText_any s hs k 1048576 w)
  have H4 := Lib.hid (fun w => num_any v hv w)
  rw [h2] at H2
  rw [h3] at H3
  unfold tupN at H2
  unfold tupT at H3
  clear h2 h3
  have hsl : ∀ w, (Instr.slice 9 (.string s) (some (.int .i64 (k : Int))) (some (.int .i64 (p : Int))) none).run Try.prog w = .ok (.string (numS v)) w := fun w => by
    rw [run_slice_string (P := Try.prog) w 9 s .i64 .i64 (k : Int) (p : Int) Try.underlying9 (by omega) (by omega) (by omega), ← hx]; rfl
  have q1 : ((c : Int) == 0) = false := by simpa using hc
  have q2 : ((c : Int) != 0) = true := by simpa using hc
  have q4 : decide ((k : Int) < 0) = false := by simp
  have q5 : decide ((p : Int) ≤ (k : Int)) = false := by simp; omega
  have q6 : decide ((s.size : Int) < (p : Int)) = false := by simp; omega
  have q7 : decide (p ≤ k) = false := by simp; omega
  have q8 : decide (s.size < p) = false := by simp; omega
  clear hx hs
  have hB := Below.refl w.heap.size w
  go_enter Try.func7, Try.ntmps7
  go_wp2_with (first
    | (go_at_call 9; (with_reducible refine (H1.out _).mono ?_); rintro e w2 ⟨rfl, hn⟩; replace hB := bel0 hB hn; clear hn)
    | (go_at_call 14; (with_reducible refine (H2.out _).mono ?_); rintro e w2 ⟨rfl, rfl⟩)
    | (go_at_call 16; (with_reducible refine (H3.out _).mono ?_); rintro e w2 ⟨rfl, rfl⟩))
  refine wp_region_is [27, 28, 29, 30, 31, 32, 33, 34, 35, 36, 37, 38, 39, 40, 41, 42, 43, 44, 45, 46, 47, 48, 49, 50, 51, 52] (fun w' => Below w.heap.size w w')
    [.int .i64 0, .bool true, .bool true, .int .i64 (k : Int), .bool false, .bool false, .int .i64 (p : Int), .int .i64 (k : Int), .bool false, .bool false, .bool false, .int .i64 (p : Int), .string s, .int .i64 (s.size : Int), .bool false, .bool false, .bool false,
      .string s, .int .i64 (k : Int), .int .i64 (p : Int), .string (numS v), .int .u32 (v : Int), .string (numS v), .bool false, .bool false, .bool false] (by kernel_rfl) (by kernel_rfl) rfl (by decide) (by simp) hB.drew ?each ?done
  case each =>
    simp only [Each]
    repeat' (first | exact trivial | refine And.intro ?_ ?_)
    all_goals
      intro ys wx hBx hdeps
      simp only [Deps, Region.binds, List.getD_cons_zero, List.getD_cons_succ, forall_const, and_true] at hdeps
      simp only [hdeps, fill, List.foldl_cons, List.foldl_nil, Act.put, List.setIfInBounds_toArray, List.set_cons_succ, List.set_cons_zero]
      first
        | (go_wp2; exact ⟨_, rfl, rfl, hBx, Below.refl _ _⟩)
        | (go_wp2_with (go_at_call 10; (with_reducible refine (H4.out _).mono ?_); rintro e w3 ⟨rfl, hn⟩); exact ⟨_, rfl, rfl, bel0 hBx hn, hn⟩)
  case done =>
    intro ys wx hBx hV
    have h52 : ys 52 = .bool false := hV 25 (by decide)
    simp only [h52, fill, List.foldl_cons, List.foldl_nil, Act.put, List.setIfInBounds_toArray, List.set_cons_succ, List.set_cons_zero]
    go_wp2
    go_quiet (fail)
    go_wp2
    go_ret
    exact ⟨by simp, below_drewN hBx _⟩
set_option maxRecDepth 100000 in
set_option maxHeartbeats 40000000 in
theorem once_long (s : ByteArray) (hs : s.size ≤ maxLen) (k p v : Nat) (hkp : k < p) (hp : p ≤ s.size) (hv : v < 4294967296) (hx : s.extract k p = numS v) (t : ByteArray) (m : Nat) (hkm : k < m) (hm : m ≤ s.size) (ht : t.size ≤ 9000000000000000000) (hy : s.extract k m = textS t)
    (h2 : getN s (k : Int) = (v, p, 0)) (h3 : getT s (k : Int) 1048576 = (t, m, 0)) (w : World) : Calls Try.prog 7 #[.string s, .int .i64 (k : Int)] w fun e w' => e = .returned (.bool true) ∧ Below w.heap.size w w' := by
  have H1 := Lib.hid alive_any
  have H2 := Lib.hid (fun w => getNum_any s hs k w)
  have H3 := Lib.hid (fun w => getText_any s hs k 1048576 w)
  have H4 := Lib.hid (fun w => num_any v hv w)
  rw [h2] at H2
  rw [h3] at H3
  unfold tupN at H2
  unfold tupT at H3
  clear h2 h3
  have hsl : ∀ w, (Instr.slice 9 (.string s) (some (.int .i64 (k : Int))) (some (.int .i64 (p : Int))) none).run Try.prog w = .ok (.string (numS v)) w := fun w => by
    rw [run_slice_string (P := Try.prog) w 9 s .i64 .i64 (k : Int) (p : Int) Try.underlying9 (by omega) (by omega) (by omega), ← hx]; rfl
  have H5 := Lib.hid (fun w => text_any t ht w)
  have hsm : ∀ w, (Instr.slice 9 (.string s) (some (.int .i64 (k : Int))) (some (.int .i64 (m : Int))) none).run Try.prog w = .ok (.string (textS t)) w := fun w => by
    rw [run_slice_string (P := Try.prog) w 9 s .i64 .i64 (k : Int) (m : Int) Try.underlying9 (by omega) (by omega) (by omega), ← hy]; rfl
  have q1 : decide ((k : Int) < (m : Int)) = true := by simp; omega
  have q2 : decide ((m : Int) ≤ (s.size : Int)) = true := by simp; omega
  have q9 : decide (k < m) = true := by simp; omega
  have q10 : decide (m ≤ s.size) = true := by simp; omega
  have q11 : decide ((0 : Int) ≤ (k : Int)) = true := by simp
  clear hy
  have q4 : decide ((k : Int) < 0) = false := by simp
  have q5 : decide ((p : Int) ≤ (k : Int)) = false := by simp; omega
  have q6 : decide ((s.size : Int) < (p : Int)) = false := by simp; omega
  have q7 : decide (p ≤ k) = false := by simp; omega
  have q8 : decide (s.size < p) = false := by simp; omega
  clear hx hs
  have hB := Below.refl w.heap.size w
  go_enter Try.func7, Try.ntmps7
  go_wp2_with (first
    | (go_at_call 9; (with_reducible refine (H1.out _).mono ?_); rintro e w2 ⟨rfl, hn⟩; replace hB := bel0 hB hn; clear hn)
    | (go_at_call 14; (with_reducible refine (H2.out _).mono ?_); rintro e w2 ⟨rfl, rfl⟩)
    | (go_at_call 16; (with_reducible refine (H3.out _).mono ?_); rintro e w2 ⟨rfl, rfl⟩))
  refine wp_region_is [27, 28, 29, 30, 31, 32, 33, 34, 35, 36, 37, 38, 39, 40, 41, 42, 43, 44, 45, 46, 47, 48, 49, 50, 51, 52] (fun w' => Below w.heap.size w w')
    [.int .i64 0, .bool true, .bool true, .int .i64 (k : Int), .bool false, .bool false, .int .i64 (p : Int), .int .i64 (k : Int), .bool false, .bool false, .bool false, .int .i64 (p : Int), .string s, .int .i64 (s.size : Int), .bool false, .bool false, .bool false,
      .string s, .int .i64 (k : Int), .int .i64 (p : Int), .string (numS v), .int .u32 (v : Int), .string (numS v), .bool false, .bool false, .bool false] (by kernel_rfl) (by kernel_rfl) rfl (by decide) (by simp) hB.drew ?each ?done
  case each =>
    simp only [Each]
    repeat' (first | exact trivial | refine And.intro ?_ ?_)
    all_goals
      intro ys wx hBx hdeps
      simp only [Deps, Region.binds, List.getD_cons_zero, List.getD_cons_succ, forall_const, and_true] at hdeps
      simp only [hdeps, fill, List.foldl_cons, List.foldl_nil, Act.put, List.setIfInBounds_toArray, List.set_cons_succ, List.set_cons_zero]
      first
        | (go_wp2; exact ⟨_, rfl, rfl, hBx, Below.refl _ _⟩)
        | (go_wp2_with (go_at_call 10; (with_reducible refine (H4.out _).mono ?_); rintro e w3 ⟨rfl, hn⟩); exact ⟨_, rfl, rfl, bel0 hBx hn, hn⟩)
  case done =>
    intro ys wx hBx hV
    have h52 : ys 52 = .bool false := hV 25 (by decide)
    simp only [h52, fill, List.foldl_cons, List.foldl_nil, Act.put, List.setIfInBounds_toArray, List.set_cons_succ, List.set_cons_zero]
    go_wp2
    refine wp_region_is [53, 54, 55, 56, 57, 58, 59, 60, 61, 62, 63, 64, 65, 66, 67, 68, 69, 70, 71, 72, 73, 74, 75, 76, 77, 78, 4] (fun w' => Below w.heap.size w w')
      [.int .i64 0, .bool false, .bool false, .int .i64 (k : Int), .bool true, .bool true, .int .i64 (m : Int), .int .i64 (k : Int), .bool true, .bool true, .bool true, .int .i64 (m : Int), .string s, .int .i64 (s.size : Int), .bool true, .bool true, .bool true,
        .string s, .int .i64 (k : Int), .int .i64 (m : Int), .string (textS t), .string t, .string (textS t), .bool true, .bool true, .bool true, .bool true] (by kernel_rfl) (by kernel_rfl) rfl (by decide) (by simp) hBx.drew ?each2 ?done2
    case each2 =>
      simp only [Each]
      repeat' (first | exact trivial | refine And.intro ?_ ?_)
      all_goals
        intro ys wx hBx hdeps
        simp only [Deps, Region.binds, List.getD_cons_zero, List.getD_cons_succ, forall_const, and_true] at hdeps
        simp only [hdeps, fill, List.foldl_cons, List.foldl_nil, Act.put, List.setIfInBounds_toArray, List.set_cons_succ, List.set_cons_zero]
        first
          | (go_wp2; exact ⟨_, rfl, rfl, hBx, Below.refl _ _⟩)
          | (go_wp2_with (go_at_call 12; (with_reducible refine (H5.out _).mono ?_); rintro e w3 ⟨rfl, hn⟩); exact ⟨_, rfl, rfl, bel0 hBx hn, hn⟩)
    case done2 =>
      intro ys2 wy hBy hV2
      have h4 : ys2 4 = .bool true := hV2 26 (by decide)
      simp only [h4, fill, List.foldl_cons, List.foldl_nil, Act.put, List.setIfInBounds_toArray, List.set_cons_succ, List.set_cons_zero]
      go_wp2
      go_ret
      exact ⟨by simp, hBy⟩
theorem once_any (s : ByteArray) (hs : s.size ≤ reachBytes) (a : Int) (w : World) : Calls Try.prog 7 #[.string s, .int .i64 a] w fun e w' => e = .returned (.bool true) ∧ Below w.heap.size w w' := by
  have hr : reachBytes < 140737488355328 := reachBytes_lt
  have hml : s.size ≤ maxLen := by simp only [maxLen]; omega
  by_cases h0 : (getN s a).2.2 = 0
  · obtain ⟨k, v, n, rfl, _, hg, hn, hv, hp, hn1, _⟩ := getN_ok h0
    have hx := once_num hg
    have hT : getT s (k : Int) 1048576 = if max (1048576 : Int) 0 < (v : Int) then (ByteArray.empty, 0, 4) else if s.size - (k + n) < v then (ByteArray.empty, 0, 3) else (s.extract (k + n) (k + n + v), k + n + v, 0) := by
      unfold getT; rw [hn, if_neg (by simp)]
    by_cases h1 : max (1048576 : Int) 0 < (v : Int)
    · rw [if_pos h1] at hT
      exact once_short s hml k (k + n) v 4 (by omega) hp hv hx (by decide) hn hT w
    · rw [if_neg h1] at hT
      by_cases h2 : s.size - (k + n) < v
      · rw [if_pos h2] at hT
        exact once_short s hml k (k + n) v 3 (by omega) hp hv hx (by decide) hn hT w
      · rw [if_neg h2] at hT
        exact once_long s hml k (k + n) v (by omega) hp hv hx (s.extract (k + n) (k + n + v)) (k + n + v) (by omega) (by omega) (by simp; omega) (once_text hg (by omega)) hn hT w
  · exact once_none s hml a h0 w
end Go.Proofs.Ytapjgodhpkbfiaa.Lay
