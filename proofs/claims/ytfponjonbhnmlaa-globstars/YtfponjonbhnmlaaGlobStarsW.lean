/-
  The walk of the law on a star between two texts.
-/
import Derived.Test.YtfponjonbhnmlaaGlobAlive
import Derived.Test.YtfponjonbhnmlaaGlobMathD
import Derived.Test.YtfponjonbhnmlaaKeysB
namespace Go.Proofs.Ytfponjonbhnmlaa.Glob
open Go.RowKit
open RuneM RefRune Own RefKeys GlobM Keys RefGlob

theorem key_sound {k : ByteArray} (h : keyRight k = true) : (∀ x ∈ runes k, whole x) ∧ k.size ≤ 48 ∧ 0 < k.size := by
  simp only [keyRight, Bool.and_eq_true, List.all_eq_true, decide_eq_true_eq] at h
  have h1 := runes_size_le k
  have h2 := runes_length k
  refine ⟨fun x hx => ?_, by omega, by omega⟩
  have := h.1.1 x hx
  simp only [plainB, Bool.and_eq_true, Bool.not_eq_true', Bool.and_eq_false_iff, decide_eq_false_iff_not] at this
  intro ⟨e1, e2⟩
  rcases this.2 with h | h
  · exact h e1
  · exact h e2
theorem str_eq (a b : ByteArray) : (a.toList == b.toList) = decide (a = b) := by
  rw [ByteArray.toList_eq, ByteArray.toList_eq, Bool.eq_iff_iff]
  simp only [beq_iff_eq, decide_eq_true_eq]
  exact ⟨fun h => ByteArray.ext (Array.toList_inj.1 h), fun h => by rw [h]⟩
theorem star_nums : nums ⟨#[42]⟩ = [42] := by decide +kernel
theorem star_whole : ∀ x ∈ runes ⟨#[42]⟩, whole x := by
  intro x hx
  rw [show runes ⟨#[42]⟩ = [(42, 1)] by decide +kernel, List.mem_singleton] at hx
  subst hx; unfold whole; decide
/-- the pattern of two texts with a star between -/
def pat (a b : ByteArray) : ByteArray := quoteB a ++ ⟨#[42]⟩ ++ quoteB b
theorem pat_nums {a b : ByteArray} (ha : ∀ x ∈ runes a, whole x) (hb : ∀ x ∈ runes b, whole x) : nums (pat a b) = qn (nums a) ++ 42 :: qn (nums b) := by
  obtain ⟨na, wa⟩ := quote_runes a ha
  obtain ⟨nb, _⟩ := quote_runes b hb
  unfold pat
  rw [nums_append _ _ (whole_append wa star_whole), nums_append _ _ wa, na, nb, star_nums]; simp
theorem pat_items {a b : ByteArray} (ha : ∀ x ∈ runes a, whole x) (hb : ∀ x ∈ runes b, whole x) (h : ¬ 24 < (runes (pat a b)).length) : itemsL (nums (pat a b)) = some ((nums a).map one ++ star :: (nums b).map one) := by
  rw [← nums_length, pat_nums ha hb] at h
  rw [pat_nums ha hb]; exact items_qstar _ _ h
theorem pat_match {a b k : ByteArray} (ha : ∀ x ∈ runes a, whole x) (hb : ∀ x ∈ runes b, whole x) (h : ¬ 24 < (runes (pat a b)).length) : globB (pat a b) k = true ↔ ∃ m, nums k = nums a ++ m ++ nums b := by
  rw [globB_iff (pat_items ha hb h), M_starmid]
  constructor
  · rintro ⟨x, y, z, e, h1, h2⟩
    rw [M_ones] at h1 h2
    subst h1 h2
    exact ⟨y, e⟩
  · rintro ⟨m, e⟩
    exact ⟨_, m, _, e, (M_ones _ _).2 rfl, (M_ones _ _).2 rfl⟩
theorem star_match (k : ByteArray) : globB ⟨#[42]⟩ k = true := by
  have hi : itemsL (nums ⟨#[42]⟩) = some [star] := by rw [star_nums]; decide
  rw [globB_iff hi, M_one]; exact .inl rfl
theorem quote_small {k : ByteArray} (h : k.size ≤ 48) : (quoteB k).size ≤ 96 := by
  have := quote_len k.data.toList
  have hs : k.data.toList.length = k.size := by simp
  have : (quoteB k).size = (quoteL k.data.toList).length := by simp [quoteB, ByteArray.size]
  omega
set_option maxHeartbeats 4000000 in
theorem walk_stars (a b k : ByteArray) (ha : a.size ≤ lim) (hb : b.size ≤ lim) (hk : k.size ≤ lim) (w : World) : Calls Try.prog 6 #[.string a, .string b, .string k] w fun e w' => e = .returned (.bool true) ∧ Below w.heap.size w w' := by
  have hB := Below.refl w.heap.size w
  have HKA := Lib.hid (fun w => Keys.right_any a ha w)
  have HKB := Lib.hid (fun w => Keys.right_any b hb w)
  have HKK := Lib.hid (fun w => Keys.right_any k hk w)
  cases ka : keyRight a with
  | false =>
    rw [ka] at HKA
    clear ka
    go_enter Try.func6, Try.ntmps6
    go_wp2_with fail
    go_at_call 9
    with_reducible refine (alive_any _).mono ?_
    rintro e w1 ⟨rfl, hn⟩
    replace hB := bel hB hn
    clear hn
    go_wp2_with fail
    go_at_call 17
    with_reducible refine (HKA.out _).mono ?_
    rintro e w2 ⟨rfl, hn⟩
    replace hB := bel hB hn
    clear hn
    go_wp2_with fail
    go_at_call 9
    with_reducible refine (alive_any _).mono ?_
    rintro e w5 ⟨rfl, hn⟩
    replace hB := bel hB hn
    clear hn
    go_wp2
    go_ret
    exact ⟨rfl, hB⟩
  | true =>
  rw [ka] at HKA
  cases kb : keyRight b with
  | false =>
    rw [kb] at HKB
    clear ka kb
    go_enter Try.func6, Try.ntmps6
    go_wp2_with fail
    go_at_call 9
    with_reducible refine (alive_any _).mono ?_
    rintro e w1 ⟨rfl, hn⟩
    replace hB := bel hB hn
    clear hn
    go_wp2_with fail
    go_at_call 17
    with_reducible refine (HKA.out _).mono ?_
    rintro e w2 ⟨rfl, hn⟩
    replace hB := bel hB hn
    clear hn
    go_wp2_with fail
    go_at_call 17
    with_reducible refine (HKB.out _).mono ?_
    rintro e w3 ⟨rfl, hn⟩
    replace hB := bel hB hn
    clear hn
    go_wp2_with fail
    go_at_call 9
    with_reducible refine (alive_any _).mono ?_
    rintro e w5 ⟨rfl, hn⟩
    replace hB := bel hB hn
    clear hn
    go_wp2
    go_ret
    exact ⟨rfl, hB⟩
  | true =>
  rw [kb] at HKB
  cases kk : keyRight k with
  | false =>
    rw [kk] at HKK
    clear ka kb kk
    go_enter Try.func6, Try.ntmps6
    go_wp2_with fail
    go_at_call 9
    with_reducible refine (alive_any _).mono ?_
    rintro e w1 ⟨rfl, hn⟩
    replace hB := bel hB hn
    clear hn
    go_wp2_with fail
    go_at_call 17
    with_reducible refine (HKA.out _).mono ?_
    rintro e w2 ⟨rfl, hn⟩
    replace hB := bel hB hn
    clear hn
    go_wp2_with fail
    go_at_call 17
    with_reducible refine (HKB.out _).mono ?_
    rintro e w3 ⟨rfl, hn⟩
    replace hB := bel hB hn
    clear hn
    go_wp2_with fail
    go_at_call 17
    with_reducible refine (HKK.out _).mono ?_
    rintro e w4 ⟨rfl, hn⟩
    replace hB := bel hB hn
    clear hn
    go_wp2_with fail
    go_at_call 9
    with_reducible refine (alive_any _).mono ?_
    rintro e w5 ⟨rfl, hn⟩
    replace hB := bel hB hn
    clear hn
    go_wp2
    go_ret
    exact ⟨rfl, hB⟩
  | true =>
  rw [kk] at HKK
  obtain ⟨wa, sa, pa⟩ := key_sound ka
  obtain ⟨wb, sb, pb⟩ := key_sound kb
  obtain ⟨wk, sk, pk⟩ := key_sound kk
  have qa := quote_small sa
  have qb := quote_small sb
  have HQA := Lib.hid (fun w => quote_any a (by omega) w)
  have HQB := Lib.hid (fun w => quote_any b (by omega) w)
  have hps : (pat a b).size ≤ 1000 := by unfold pat; rw [ByteArray.size_append, ByteArray.size_append]; show (quoteB a).size + 1 + _ ≤ _; omega
  have HR : Hid (∀ w, Calls Try.prog 10 #[.string (quoteB a ++ ⟨#[42]⟩ ++ quoteB b)] w _) := fun w => right_any (pat a b) (lim_small hps) w
  have HC : Hid (∀ w, Calls Try.prog 19 #[.string (quoteB a ++ ⟨#[42]⟩ ++ quoteB b)] w _) := fun w => count_any (pat a b) (lim_small hps) w
  have HM : Hid (∀ w, Calls Try.prog 12 #[.string (quoteB a ++ ⟨#[42]⟩ ++ quoteB b), .string k] w _) := fun w => match_any (pat a b) k (lim_small hps) hk w
  have HMS := Lib.hid (fun w => match_any ⟨#[42]⟩ k (lim_small (show 1 ≤ 1000 by decide)) hk w)
  rw [star_match] at HMS
  have hw3 : (a ++ k ++ b).size ≤ 1000 := by rw [ByteArray.size_append, ByteArray.size_append]; omega
  have HM3 : Hid (∀ w, Calls Try.prog 12 #[.string (quoteB a ++ ⟨#[42]⟩ ++ quoteB b), .string (a ++ k ++ b)] w _) := fun w => match_any (pat a b) (a ++ k ++ b) (lim_small hps) (lim_small hw3) w
  have z1 : ¬ 9223372036854775807 < (quoteB a).size + 1 := by omega
  have z2 : ¬ 9223372036854775807 < (quoteB a).size + 1 + (quoteB b).size := by omega
  have z3 : ¬ 9223372036854775807 < a.size + k.size := by omega
  have z4 : ¬ 9223372036854775807 < a.size + k.size + b.size := by omega
  by_cases h24 : 24 < (runes (pat a b)).length
  · have hr : (itemsL (nums (pat a b))).isSome = false := by
      rw [itemsL_long _ (by rw [nums_length]; exact h24)]; rfl
    rw [hr] at HR
    have d24 : (24 : Int) < ((runes (pat a b)).length : Int) := by omega
    generalize (runes (pat a b)).length = c at HC d24
    clear ka kb kk wa wb wk qa qb hps hr h24 HM HMS HM3 hw3
    go_enter Try.func6, Try.ntmps6
    go_wp2_with fail
    go_at_call 9
    with_reducible refine (alive_any _).mono ?_
    rintro e w1 ⟨rfl, hn⟩
    replace hB := bel hB hn
    clear hn
    go_wp2_with fail
    go_at_call 17
    with_reducible refine (HKA.out _).mono ?_
    rintro e w2 ⟨rfl, hn⟩
    replace hB := bel hB hn
    clear hn
    go_wp2_with fail
    go_at_call 17
    with_reducible refine (HKB.out _).mono ?_
    rintro e w3 ⟨rfl, hn⟩
    replace hB := bel hB hn
    clear hn
    go_wp2_with fail
    go_at_call 17
    with_reducible refine (HKK.out _).mono ?_
    rintro e w4 ⟨rfl, hn⟩
    replace hB := bel hB hn
    clear hn
    go_wp2_with fail
    go_at_call 18
    with_reducible refine (HQA.out _).mono ?_
    rintro e w5 ⟨rfl, hn⟩
    replace hB := bel hB hn
    clear hn
    go_wp2_with fail
    go_at_call 18
    with_reducible refine (HQB.out _).mono ?_
    rintro e w6 ⟨rfl, hn⟩
    replace hB := bel hB hn
    clear hn
    go_wp2_with fail
    go_at_call 10
    with_reducible refine (HR.out _).mono ?_
    rintro e w7 ⟨rfl, hn⟩
    replace hB := bel hB hn
    clear hn
    go_wp2_with fail
    go_at_call 19
    with_reducible refine (HC.out _).mono ?_
    rintro e w8 ⟨rfl, hn⟩
    replace hB := bel hB hn
    clear hn
    go_wp2
    go_ret
    exact ⟨by simp, hB⟩
  · have hi := pat_items wa wb h24
    have hr : (itemsL (nums (pat a b))).isSome = true := by rw [hi]; rfl
    rw [hr] at HR
    have h3 : globB (pat a b) (a ++ k ++ b) = true := by
      rw [pat_match wa wb h24]
      exact ⟨nums k, by rw [nums_append _ _ (whole_append wa wk), nums_append _ _ wa]⟩
    rw [h3] at HM3
    have hst := (pat_match (k := k) wa wb h24).trans (stars wa wb wk pb)
    have s1 := str_eq (k.extract 0 a.size) a
    have s2 := str_eq (k.extract (k.size - b.size) k.size) b
    clear ka kb kk wa wb wk qa qb hps hr h24 hi h3 hw3
    by_cases c1 : a.size + b.size ≤ k.size
    · have d1 : decide ((a.size : Int) + (b.size : Int) ≤ (k.size : Int)) = true := by simp; omega
      have e1 : (a.size : Int) ≤ (k.size : Int) := by omega
      have e2 : (0 : Int) ≤ (k.size : Int) - (b.size : Int) := by omega
      have e3 : (k.size : Int) - (b.size : Int) ≤ (k.size : Int) := by omega
      have e4 : ((k.size : Int) - (b.size : Int)).toNat = k.size - b.size := by omega
      by_cases c2 : k.extract 0 a.size = a
      · have t1 : ((k.extract 0 a.size).toList == a.toList) = true := by rw [s1]; simp [c2]
        by_cases c3 : k.extract (k.size - b.size) k.size = b
        · have t2 : ((k.extract (k.size - b.size) k.size).toList == b.toList) = true := by rw [s2]; simp [c3]
          rw [hst.2 ⟨c1, c2, c3⟩] at HM
          clear hst s1 s2 c2 c3 HC
          go_enter Try.func6, Try.ntmps6
          go_wp2_with fail
          go_at_call 9
          with_reducible refine (alive_any _).mono ?_
          rintro e w1 ⟨rfl, hn⟩
          replace hB := bel hB hn
          clear hn
          go_wp2_with fail
          go_at_call 17
          with_reducible refine (HKA.out _).mono ?_
          rintro e w2 ⟨rfl, hn⟩
          replace hB := bel hB hn
          clear hn
          go_wp2_with fail
          go_at_call 17
          with_reducible refine (HKB.out _).mono ?_
          rintro e w3 ⟨rfl, hn⟩
          replace hB := bel hB hn
          clear hn
          go_wp2_with fail
          go_at_call 17
          with_reducible refine (HKK.out _).mono ?_
          rintro e w4 ⟨rfl, hn⟩
          replace hB := bel hB hn
          clear hn
          go_wp2_with fail
          go_at_call 18
          with_reducible refine (HQA.out _).mono ?_
          rintro e w5 ⟨rfl, hn⟩
          replace hB := bel hB hn
          clear hn
          go_wp2_with fail
          go_at_call 18
          with_reducible refine (HQB.out _).mono ?_
          rintro e w6 ⟨rfl, hn⟩
          replace hB := bel hB hn
          clear hn
          go_wp2_with fail
          go_at_call 10
          with_reducible refine (HR.out _).mono ?_
          rintro e w7 ⟨rfl, hn⟩
          replace hB := bel hB hn
          clear hn
          go_wp2_with fail
          go_at_call 12
          with_reducible refine (HM.out _).mono ?_
          rintro e w8 ⟨rfl, hn⟩
          replace hB := bel hB hn
          clear hn
          go_wp2_with fail
          go_at_call 12
          with_reducible refine (HMS.out _).mono ?_
          rintro e w9 ⟨rfl, hn⟩
          replace hB := bel hB hn
          clear hn
          go_wp2_with fail
          go_at_call 12
          with_reducible refine (HM3.out _).mono ?_
          rintro e w10 ⟨rfl, hn⟩
          replace hB := bel hB hn
          clear hn
          go_wp2
          go_ret
          exact ⟨rfl, hB⟩
        · have t2 : ((k.extract (k.size - b.size) k.size).toList == b.toList) = false := by rw [s2]; simp [c3]
          have hf : globB (pat a b) k = false := by
            cases h : globB (pat a b) k with
            | false => rfl
            | true => exact absurd (hst.1 h).2.2 c3
          rw [hf] at HM
          clear hst s1 s2 c2 c3 HC hf
          go_enter Try.func6, Try.ntmps6
          go_wp2_with fail
          go_at_call 9
          with_reducible refine (alive_any _).mono ?_
          rintro e w1 ⟨rfl, hn⟩
          replace hB := bel hB hn
          clear hn
          go_wp2_with fail
          go_at_call 17
          with_reducible refine (HKA.out _).mono ?_
          rintro e w2 ⟨rfl, hn⟩
          replace hB := bel hB hn
          clear hn
          go_wp2_with fail
          go_at_call 17
          with_reducible refine (HKB.out _).mono ?_
          rintro e w3 ⟨rfl, hn⟩
          replace hB := bel hB hn
          clear hn
          go_wp2_with fail
          go_at_call 17
          with_reducible refine (HKK.out _).mono ?_
          rintro e w4 ⟨rfl, hn⟩
          replace hB := bel hB hn
          clear hn
          go_wp2_with fail
          go_at_call 18
          with_reducible refine (HQA.out _).mono ?_
          rintro e w5 ⟨rfl, hn⟩
          replace hB := bel hB hn
          clear hn
          go_wp2_with fail
          go_at_call 18
          with_reducible refine (HQB.out _).mono ?_
          rintro e w6 ⟨rfl, hn⟩
          replace hB := bel hB hn
          clear hn
          go_wp2_with fail
          go_at_call 10
          with_reducible refine (HR.out _).mono ?_
          rintro e w7 ⟨rfl, hn⟩
          replace hB := bel hB hn
          clear hn
          go_wp2_with fail
          go_at_call 12
          with_reducible refine (HM.out _).mono ?_
          rintro e w8 ⟨rfl, hn⟩
          replace hB := bel hB hn
          clear hn
          go_wp2_with fail
          go_at_call 12
          with_reducible refine (HMS.out _).mono ?_
          rintro e w9 ⟨rfl, hn⟩
          replace hB := bel hB hn
          clear hn
          go_wp2_with fail
          go_at_call 12
          with_reducible refine (HM3.out _).mono ?_
          rintro e w10 ⟨rfl, hn⟩
          replace hB := bel hB hn
          clear hn
          go_wp2
          go_ret
          exact ⟨rfl, hB⟩
      · have t1 : ((k.extract 0 a.size).toList == a.toList) = false := by rw [s1]; simp [c2]
        have hf : globB (pat a b) k = false := by
          cases h : globB (pat a b) k with
          | false => rfl
          | true => exact absurd (hst.1 h).2.1 c2
        rw [hf] at HM
        clear hst s1 s2 c2 HC hf
        go_enter Try.func6, Try.ntmps6
        go_wp2_with fail
        go_at_call 9
        with_reducible refine (alive_any _).mono ?_
        rintro e w1 ⟨rfl, hn⟩
        replace hB := bel hB hn
        clear hn
        go_wp2_with fail
        go_at_call 17
        with_reducible refine (HKA.out _).mono ?_
        rintro e w2 ⟨rfl, hn⟩
        replace hB := bel hB hn
        clear hn
        go_wp2_with fail
        go_at_call 17
        with_reducible refine (HKB.out _).mono ?_
        rintro e w3 ⟨rfl, hn⟩
        replace hB := bel hB hn
        clear hn
        go_wp2_with fail
        go_at_call 17
        with_reducible refine (HKK.out _).mono ?_
        rintro e w4 ⟨rfl, hn⟩
        replace hB := bel hB hn
        clear hn
        go_wp2_with fail
        go_at_call 18
        with_reducible refine (HQA.out _).mono ?_
        rintro e w5 ⟨rfl, hn⟩
        replace hB := bel hB hn
        clear hn
        go_wp2_with fail
        go_at_call 18
        with_reducible refine (HQB.out _).mono ?_
        rintro e w6 ⟨rfl, hn⟩
        replace hB := bel hB hn
        clear hn
        go_wp2_with fail
        go_at_call 10
        with_reducible refine (HR.out _).mono ?_
        rintro e w7 ⟨rfl, hn⟩
        replace hB := bel hB hn
        clear hn
        go_wp2_with fail
        go_at_call 12
        with_reducible refine (HM.out _).mono ?_
        rintro e w8 ⟨rfl, hn⟩
        replace hB := bel hB hn
        clear hn
        go_wp2_with fail
        go_at_call 12
        with_reducible refine (HMS.out _).mono ?_
        rintro e w9 ⟨rfl, hn⟩
        replace hB := bel hB hn
        clear hn
        go_wp2_with fail
        go_at_call 12
        with_reducible refine (HM3.out _).mono ?_
        rintro e w10 ⟨rfl, hn⟩
        replace hB := bel hB hn
        clear hn
        go_wp2
        go_ret
        exact ⟨rfl, hB⟩
    · have d1 : decide ((a.size : Int) + (b.size : Int) ≤ (k.size : Int)) = false := by simp; omega
      have hf : globB (pat a b) k = false := by
        cases h : globB (pat a b) k with
        | false => rfl
        | true => exact absurd (hst.1 h).1 c1
      rw [hf] at HM
      clear hst s1 s2 HC hf
      go_enter Try.func6, Try.ntmps6
      go_wp2_with fail
      go_at_call 9
      with_reducible refine (alive_any _).mono ?_
      rintro e w1 ⟨rfl, hn⟩
      replace hB := bel hB hn
      clear hn
      go_wp2_with fail
      go_at_call 17
      with_reducible refine (HKA.out _).mono ?_
      rintro e w2 ⟨rfl, hn⟩
      replace hB := bel hB hn
      clear hn
      go_wp2_with fail
      go_at_call 17
      with_reducible refine (HKB.out _).mono ?_
      rintro e w3 ⟨rfl, hn⟩
      replace hB := bel hB hn
      clear hn
      go_wp2_with fail
      go_at_call 17
      with_reducible refine (HKK.out _).mono ?_
      rintro e w4 ⟨rfl, hn⟩
      replace hB := bel hB hn
      clear hn
      go_wp2_with fail
      go_at_call 18
      with_reducible refine (HQA.out _).mono ?_
      rintro e w5 ⟨rfl, hn⟩
      replace hB := bel hB hn
      clear hn
      go_wp2_with fail
      go_at_call 18
      with_reducible refine (HQB.out _).mono ?_
      rintro e w6 ⟨rfl, hn⟩
      replace hB := bel hB hn
      clear hn
      go_wp2_with fail
      go_at_call 10
      with_reducible refine (HR.out _).mono ?_
      rintro e w7 ⟨rfl, hn⟩
      replace hB := bel hB hn
      clear hn
      go_wp2_with fail
      go_at_call 12
      with_reducible refine (HM.out _).mono ?_
      rintro e w8 ⟨rfl, hn⟩
      replace hB := bel hB hn
      clear hn
      go_wp2_with fail
      go_at_call 12
      with_reducible refine (HMS.out _).mono ?_
      rintro e w9 ⟨rfl, hn⟩
      replace hB := bel hB hn
      clear hn
      go_wp2_with fail
      go_at_call 12
      with_reducible refine (HM3.out _).mono ?_
      rintro e w10 ⟨rfl, hn⟩
      replace hB := bel hB hn
      clear hn
      go_wp2
      go_ret
      exact ⟨rfl, hB⟩
end Go.Proofs.Ytfponjonbhnmlaa.Glob
