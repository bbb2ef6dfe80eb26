/-
  The walk of the law on question marks.
-/
import Derived.Test.YtfponjonbhnmlaaGlobAlive
import Derived.Test.YtfponjonbhnmlaaGlobMathD
namespace Go.Proofs.Ytfponjonbhnmlaa.Glob
open Go.RowKit
open RuneM RefRune Own RefKeys GlobM Keys RefGlob

theorem int_of {b : Int} (h : (Lit.int .i64 b).wf = true) : -9223372036854775808 ≤ b ∧ b ≤ 9223372036854775807 := by
  simpa [Lit.wf, IntKind.min, IntKind.max, IntKind.signed, IntKind.bits] using h
/-- so many question marks -/
def qm (n : Nat) : ByteArray := ⟨(List.replicate n (63 : UInt8)).toArray⟩
theorem qm_list (n : Nat) : (qm n).data.toList = List.replicate n 63 := by simp [qm]
theorem qm_size (n : Nat) : (qm n).size = n := by simp [qm, ByteArray.size]
theorem qm_succ (n : Nat) : qm n ++ ⟨#[63]⟩ = qm (n + 1) := by
  apply list_ext
  rw [app_list, qm_list, qm_list, List.replicate_succ']
theorem qm_nums (n : Nat) : nums (qm n) = List.replicate n 63 := by
  rw [nums_ascii, qm_list]
  · simp
  · rw [qm_list]; intro x hx; rw [List.eq_of_mem_replicate hx]; decide
theorem sqm_nums (n : Nat) : nums (⟨#[42]⟩ ++ qm n) = 42 :: List.replicate n 63 := by
  have h : (⟨#[42]⟩ ++ qm n).data.toList = 42 :: List.replicate n 63 := by rw [app_list, qm_list]; rfl
  rw [nums_ascii, h]
  · simp
  · rw [h]; intro x hx; rcases List.mem_cons.1 hx with rfl | hx
    · decide
    · rw [List.eq_of_mem_replicate hx]; decide
theorem qms_nums (n : Nat) : nums (qm n ++ ⟨#[42]⟩) = List.replicate n 63 ++ [42] := by
  have h : (qm n ++ ⟨#[42]⟩).data.toList = List.replicate n 63 ++ [42] := by rw [app_list, qm_list]
  rw [nums_ascii, h]
  · simp
  · rw [h]; intro x hx; rcases List.mem_append.1 hx with hx | hx
    · rw [List.eq_of_mem_replicate hx]; decide
    · rw [List.mem_singleton.1 hx]; decide
theorem count_qm (k : ByteArray) (n : Nat) (hn : n < 24) : globB (qm n) k = decide ((runes k).length = n) := by
  have hi : itemsL (nums (qm n)) = some (List.replicate n any) := by rw [qm_nums, marks_n n (by omega)]
  rw [Bool.eq_iff_iff, globB_iff hi, M_anys, nums_length]; simp
theorem count_sqm (k : ByteArray) (n : Nat) (hn : n < 24) : globB (⟨#[42]⟩ ++ qm n) k = decide (n ≤ (runes k).length) := by
  have hi : itemsL (nums (⟨#[42]⟩ ++ qm n)) = some (star :: List.replicate n any) := by rw [sqm_nums, marks_star n hn]
  rw [Bool.eq_iff_iff, globB_iff hi, M_star_anys, nums_length]; simp
theorem count_qms (k : ByteArray) (n : Nat) (hn : n < 24) : globB (qm n ++ ⟨#[42]⟩) k = decide (n ≤ (runes k).length) := by
  have hi : itemsL (nums (qm n ++ ⟨#[42]⟩)) = some (List.replicate n any ++ [star]) := by rw [qms_nums, star_marks n hn]
  rw [Bool.eq_iff_iff, globB_iff hi, M_anys_star, nums_length]; simp
theorem right_qm (n : Nat) (hn : n < 24) : (itemsL (nums (qm n))).isSome = true := by rw [qm_nums, marks_n n (by omega)]; rfl
set_option maxHeartbeats 4000000 in
theorem walk_counts (k : ByteArray) (n : Int) (hk : k.size ≤ lim) (hn : -9223372036854775808 ≤ n ∧ n ≤ 9223372036854775807) (w : World) : Calls Try.prog 7 #[.string k, .int .i64 n] w fun e w' => e = .returned (.bool true) ∧ Below w.heap.size w w' := by
  have hB := Below.refl w.heap.size w
  by_cases h0 : n < 0
  · skip
    go_enter Try.func7, Try.ntmps7
    go_wp2_with fail
    go_at_call 9
    with_reducible refine (alive_any _).mono ?_
    rintro e w1 ⟨rfl, hn⟩
    replace hB := bel hB hn
    clear hn
    go_wp2_with fail
    go_at_call 9
    with_reducible refine (alive_any _).mono ?_
    rintro e w2 ⟨rfl, hn⟩
    replace hB := bel hB hn
    clear hn
    go_wp2
    go_ret
    exact ⟨rfl, hB⟩
  by_cases h24 : 24 ≤ n
  · skip
    go_enter Try.func7, Try.ntmps7
    go_wp2_with fail
    go_at_call 9
    with_reducible refine (alive_any _).mono ?_
    rintro e w1 ⟨rfl, hn⟩
    replace hB := bel hB hn
    clear hn
    go_wp2_with fail
    go_at_call 9
    with_reducible refine (alive_any _).mono ?_
    rintro e w2 ⟨rfl, hn⟩
    replace hB := bel hB hn
    clear hn
    go_wp2
    go_ret
    exact ⟨rfl, hB⟩
  by_cases h60 : (60 : Int) < (k.size : Int)
  · skip
    go_enter Try.func7, Try.ntmps7
    go_wp2_with fail
    go_at_call 9
    with_reducible refine (alive_any _).mono ?_
    rintro e w1 ⟨rfl, hn⟩
    replace hB := bel hB hn
    clear hn
    go_wp2_with fail
    go_at_call 9
    with_reducible refine (alive_any _).mono ?_
    rintro e w2 ⟨rfl, hn⟩
    replace hB := bel hB hn
    clear hn
    go_wp2
    go_ret
    exact ⟨rfl, hB⟩
  obtain ⟨m, rfl⟩ : ∃ m : Nat, n = (m : Int) := ⟨n.toNat, by omega⟩
  have hm : m < 24 := by omega
  have HR := Lib.hid (fun w => right_any (qm m) (lim_small (by rw [qm_size]; omega)) w)
  rw [right_qm m hm] at HR
  have HM := Lib.hid (fun w => match_any (qm m) k (lim_small (by rw [qm_size]; omega)) hk w)
  rw [count_qm k m hm] at HM
  have HM1 := Lib.hid (fun w => match_any (⟨#[42]⟩ ++ qm m) k (lim_small (by rw [ByteArray.size_append, qm_size]; show 1 + m ≤ 1000; omega)) hk w)
  rw [count_sqm k m hm] at HM1
  have HM2 := Lib.hid (fun w => match_any (qm m ++ ⟨#[42]⟩) k (lim_small (by rw [ByteArray.size_append, qm_size]; show m + 1 ≤ 1000; omega)) hk w)
  rw [count_qms k m hm] at HM2
  have HC := Lib.hid (fun w => count_any k hk w)
  have hcl : (runes k).length ≤ 60 := by have := runes_length k; omega
  generalize (runes k).length = c at HM HM1 HM2 HC hcl
  go_enter Try.func7, Try.ntmps7
  go_wp2_with fail
  go_at_call 9
  with_reducible refine (alive_any _).mono ?_
  rintro e w1 ⟨rfl, hn⟩
  replace hB := bel hB hn
  clear hn
  go_wp2
  go_loop [5, 6] (fun x5 x6 => ∃ i : Nat, i ≤ m ∧ x5 = .string (qm i) ∧ x6 = .int .i64 (i : Int)) (fun _ x6 => m - (intOf x6).toNat)
  case atStart => exact ⟨0, Nat.zero_le _, rfl, rfl⟩
  case round =>
    obtain ⟨i, hi, rfl, rfl⟩ := hrel
    by_cases hlt : i < m
    · have l1 : (i : Int) < (m : Int) := by omega
      have HS := Lib.hid (qm_succ i)
      have hz : ¬ 9223372036854775807 < (qm i).size + 1 := by rw [qm_size]; omega
      go_wp2
      go_round
      case rel => exact ⟨i + 1, by omega, by rw [← HS.out], by go_num⟩
      case measure => simp [intOf]; omega
    · have l1 : ¬ (i : Int) < (m : Int) := by omega
      have hie : i = m := by omega
      subst hie
      have hz1 : ¬ 9223372036854775807 < 1 + (qm i).size := by rw [qm_size]; omega
      have hz2 : ¬ 9223372036854775807 < (qm i).size + 1 := by rw [qm_size]; omega
      go_wp2_with fail
      go_at_call 19
      with_reducible refine (HC.out _).mono ?_
      rintro e w2 ⟨rfl, hn⟩
      replace hB := bel hB hn
      clear hn
      go_wp2_with fail
      go_at_call 10
      with_reducible refine (HR.out _).mono ?_
      rintro e w3 ⟨rfl, hn⟩
      replace hB := bel hB hn
      clear hn
      by_cases hc1 : c = i
      · have q1 : ((c : Int) == (i : Int)) = true := by simp; omega
        have q2 : decide ((i : Int) ≤ (c : Int)) = true := by simp; omega
        simp only [hc1, decide_true, Nat.le_refl] at HM HM1 HM2
        go_wp2_with fail
        go_at_call 12
        with_reducible refine (HM.out _).mono ?_
        rintro e w4 ⟨rfl, hn⟩
        replace hB := bel hB hn
        clear hn
        go_wp2_with fail
        go_at_call 12
        with_reducible refine (HM1.out _).mono ?_
        rintro e w5 ⟨rfl, hn⟩
        replace hB := bel hB hn
        clear hn
        go_wp2_with fail
        go_at_call 12
        with_reducible refine (HM2.out _).mono ?_
        rintro e w6 ⟨rfl, hn⟩
        replace hB := bel hB hn
        clear hn
        go_wp2
        go_ret
        exact ⟨rfl, hB⟩
      · have q1 : ((c : Int) == (i : Int)) = false := by simp; omega
        simp only [hc1, decide_false] at HM
        by_cases hc2 : i ≤ c
        · have q2 : decide ((i : Int) ≤ (c : Int)) = true := by simp; omega
          simp only [hc2, decide_true] at HM1 HM2
          go_wp2_with fail
          go_at_call 12
          with_reducible refine (HM.out _).mono ?_
          rintro e w4 ⟨rfl, hn⟩
          replace hB := bel hB hn
          clear hn
          go_wp2_with fail
          go_at_call 12
          with_reducible refine (HM1.out _).mono ?_
          rintro e w5 ⟨rfl, hn⟩
          replace hB := bel hB hn
          clear hn
          go_wp2_with fail
          go_at_call 12
          with_reducible refine (HM2.out _).mono ?_
          rintro e w6 ⟨rfl, hn⟩
          replace hB := bel hB hn
          clear hn
          go_wp2
          go_ret
          exact ⟨rfl, hB⟩
        · have q2 : decide ((i : Int) ≤ (c : Int)) = false := by simp; omega
          simp only [hc2, decide_false] at HM1 HM2
          go_wp2_with fail
          go_at_call 12
          with_reducible refine (HM.out _).mono ?_
          rintro e w4 ⟨rfl, hn⟩
          replace hB := bel hB hn
          clear hn
          go_wp2_with fail
          go_at_call 12
          with_reducible refine (HM1.out _).mono ?_
          rintro e w5 ⟨rfl, hn⟩
          replace hB := bel hB hn
          clear hn
          go_wp2_with fail
          go_at_call 12
          with_reducible refine (HM2.out _).mono ?_
          rintro e w6 ⟨rfl, hn⟩
          replace hB := bel hB hn
          clear hn
          go_wp2
          go_ret
          exact ⟨rfl, hB⟩
end Go.Proofs.Ytfponjonbhnmlaa.Glob
