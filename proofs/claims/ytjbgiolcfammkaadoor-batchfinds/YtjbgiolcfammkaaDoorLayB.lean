/-
  What GetNum answers, package lay's and the document's own, for every text and place.
-/
import Derived.Test.YtjbgiolcfammkaaDoorLayA
import Derived.WalkSmall
namespace Go.Proofs.YtjbgiolcfammkaaDoor.Lay
open Go.RowKit
open LayM Own

/-- a text's bytes as numbers -/
def nb (s : ByteArray) : List Nat := s.data.toList.map UInt8.toNat
theorem nb_length (s : ByteArray) : (nb s).length = s.size := by simp [nb]
theorem nb_drop (s : ByteArray) (k : Nat) (h : k < s.size) : (nb s).drop k = s[k].toNat :: (nb s).drop (k + 1) := by
  rw [List.drop_eq_getElem_cons (by rw [nb_length]; exact h)]; simp [nb]; rfl
theorem nb_end (s : ByteArray) (k : Nat) (h : s.size ≤ k) : (nb s).drop k = [] := List.drop_of_length_le (by rw [nb_length]; exact h)
theorem nb_lt (s : ByteArray) : ∀ c ∈ nb s, c < 256 := by
  intro c hc; simp only [nb, List.mem_map] at hc; obtain ⟨x, _, rfl⟩ := hc; exact x.toNat_lt
/-- what is told: a number, the place behind, a code -/
def toldN (at_ : Nat) : R → Nat × Nat × Nat
  | .ok v n => (v, at_ + n, 0)
  | .short => (0, 0, 3)
  | .form => (0, 0, 2)
def getN (s : ByteArray) (at_ : Int) : Nat × Nat × Nat := if at_ < 0 ∨ (s.size : Int) < at_ then (0, 0, 1) else toldN at_.toNat (gn ((nb s).drop at_.toNat))
def tupN (r : Nat × Nat × Nat) : Value := .tuple #[.int .u32 (r.1 : Int), .int .i64 (r.2.1 : Int), .int .i64 (r.2.2 : Int)]
theorem getN_out {s : ByteArray} {a : Int} (h : a < 0 ∨ (s.size : Int) < a) : getN s a = (0, 0, 1) := by unfold getN; rw [if_pos h]
theorem getN_in (s : ByteArray) {a : Nat} (h : a ≤ s.size) : getN s (a : Int) = toldN a (gn ((nb s).drop a)) := by unfold getN; rw [if_neg (by omega)]; rfl

theorem ret_bool {a b : Bool} (h : a = b) : Ending.returned (.bool a) = .returned (.bool b) := by rw [h]
def fitsB (c k : Nat) : Bool := (decide (k < 4) || decide (c ≤ 15)) && (decide (k = 0) || !decide (c = 0))
theorem fitsB_form {c k : Nat} (hk : k ≤ 4) : fitsB c k = false ↔ (k = 4 ∧ 15 < c) ∨ (c = 0 ∧ 0 < k) := by
  unfold fitsB
  rw [Bool.and_eq_false_iff, Bool.or_eq_false_iff, Bool.or_eq_false_iff]
  simp only [decide_eq_false_iff_not, Bool.not_eq_false', decide_eq_true_eq]
  omega
theorem step_form {c k n : Nat} {t : List Nat} (hk : k ≤ 4) (h : fitsB c k = false) : gnF (5 - k) k n k (c :: t) = .form := by
  rw [fitsB_form hk] at h
  rw [show 5 - k = (4 - k) + 1 by omega, gnF, if_pos h]
theorem step_last {c k n : Nat} {t : List Nat} (hk : k ≤ 4) (h : fitsB c k = true) (hc : c < 128) : gnF (5 - k) k n k (c :: t) = .ok (n + c % 128 * 128 ^ k) (k + 1) := by
  have h : ¬ ((k = 4 ∧ 15 < c) ∨ (c = 0 ∧ 0 < k)) := by rw [← fitsB_form hk, h]; simp
  rw [show 5 - k = (4 - k) + 1 by omega, gnF, if_neg h, if_pos hc]
theorem step_more {c k n : Nat} {t : List Nat} (hk : k ≤ 4) (h : fitsB c k = true) (hc : ¬ c < 128) : k < 4 ∧ gnF (5 - k) k n k (c :: t) = gnF (5 - (k + 1)) (k + 1) (n + c % 128 * 128 ^ k) (k + 1) t := by
  have h : ¬ ((k = 4 ∧ 15 < c) ∨ (c = 0 ∧ 0 < k)) := by rw [← fitsB_form hk, h]; simp
  refine ⟨by omega, ?_⟩
  rw [show 5 - k = (4 - k) + 1 by omega, gnF, if_neg h, if_neg hc, show 5 - (k + 1) = 4 - k by omega]
theorem step_short {k n : Nat} (hk : k ≤ 4) : gnF (5 - k) k n k [] = .short := by
  rw [show 5 - k = (4 - k) + 1 by omega, gnF]
theorem low_lt {c k : Nat} (hk : k ≤ 4) (h : fitsB c k = true) : c % 128 * 128 ^ k < 4294967296 := by
  have h : ¬ ((k = 4 ∧ 15 < c) ∨ (c = 0 ∧ 0 < k)) := by rw [← fitsB_form hk, h]; simp
  have : k = 0 ∨ k = 1 ∨ k = 2 ∨ k = 3 ∨ k = 4 := by omega
  rcases this with rfl | rfl | rfl | rfl | rfl <;> simp <;> omega
theorem low_next {c k n : Nat} (hn : n < 128 ^ k) : n + c % 128 * 128 ^ k < 128 ^ (k + 1) := by
  have h1 : (c % 128) * 128 ^ k ≤ 127 * 128 ^ k := Nat.mul_le_mul_right _ (by omega)
  rw [Nat.pow_succ]; omega
theorem or_shift {c k n : Nat} (hn : n < 128 ^ k) (hk : k ≤ 4) (h : fitsB c k = true) : bits .or .u32 (n : Int) ((c : Int) % 128 * 2 ^ (7 * k) % 4294967296) = ((n + c % 128 * 128 ^ k : Nat) : Int) := by
  have hl := low_lt hk h
  have hp : (128 : Nat) ^ k = 2 ^ (7 * k) := by rw [Nat.pow_mul]
  have hm : (c : Int) % 128 * 2 ^ (7 * k) % 4294967296 = ((c % 128 * 128 ^ k : Nat) : Int) := by
    rw [hp] at hl ⊢
    have e : (c : Int) % 128 * 2 ^ (7 * k) = ((c % 128 * 2 ^ (7 * k) : Nat) : Int) := by
      rw [Int.natCast_mul, Int.natCast_pow]; rfl
    rw [e]; omega
  have hn4 : n < 4294967296 := by
    have h1 : (128 : Nat) ^ k ≤ 128 ^ 4 := Nat.pow_le_pow_right (by omega) hk
    have h2 : (128 : Nat) ^ 4 = 268435456 := by decide
    omega
  rw [hm, u32_or_nat _ _ hn4 hl, Nat.or_comm, hp, ← Nat.shiftLeft_eq, ← Nat.shiftLeft_add_eq_or_of_lt (by rw [← hp]; exact hn), Nat.shiftLeft_eq, Nat.add_comm]
theorem ret_tup {a a' b b' c c' : Int} (h1 : a = a') (h2 : b = b') (h3 : c = c') : Ending.returned (.tuple #[.int .u32 a, .int .i64 b, .int .i64 c]) = .returned (.tuple #[.int .u32 a', .int .i64 b', .int .i64 c']) := by rw [h1, h2, h3]
theorem fits_any (c k : Nat) (w : World) : Calls Tryd.prog 63 #[.int .u8 (c : Int), .int .i64 (k : Int)] w fun e w' => e = .returned (.bool (fitsB c k)) ∧ w = w' := by
  by_cases h1 : k < 4 <;> by_cases h2 : c ≤ 15 <;> by_cases h3 : k = 0 <;> by_cases h4 : c = 0
  all_goals first | omega | skip
  all_goals (try subst h3); (try subst h4)
  all_goals
    go_enter Tryd.func63, Tryd.ntmps63
    go_wp2
    go_ret
    exact ⟨ret_bool (by unfold fitsB; simp [*] <;> omega), rfl⟩
set_option maxRecDepth 100000 in
set_option maxHeartbeats 2000000 in
theorem getNum_in (s : ByteArray) (hs : s.size ≤ maxLen) (a : Nat) (ha : a ≤ s.size) (w : World) : Calls Tryd.prog 42 #[.string s, .int .i64 (a : Int)] w fun e w' => e = .returned (tupN (getN s a)) ∧ w = w' := by
  unfold maxLen at hs
  have d1 : decide ((a : Int) < 0) = false := by simp
  have d2 : decide ((s.size : Int) < (a : Int)) = false := by simp; omega
  have d3 : decide (s.size < a) = false := by simp; omega
  have HG := Lib.hid (getN_in s ha)
  go_enter Tryd.func42, Tryd.ntmps42
  go_wp2
  go_loop [7, 22] (fun x i => ∃ k n : Nat, k ≤ 4 ∧ k ≤ s.size - a ∧ i = .int .i64 (k : Int) ∧ x = .int .u32 (n : Int) ∧ n < 128 ^ k ∧ gn ((nb s).drop a) = gnF (5 - k) k n k ((nb s).drop (a + k))) (fun _ i => s.size - a - (intOf i).toNat)
  case atStart => exact ⟨0, 0, by omega, by omega, rfl, rfl, by simp, rfl⟩
  case round =>
    obtain ⟨k, n, hk, hka, rfl, rfl, hn, hg⟩ := hrel
    have HK := Lib.hid hg
    have HN := Lib.hid hn
    clear hg hn
    by_cases hlt : k < s.size - a
    · have hi : a + k < s.size := by omega
      have HD := Lib.hid (nb_drop s (a + k) hi)
      have hc := s[a + k].toNat_lt
      generalize hcc : s[a + k].toNat = c at HD hc
      have HF := Lib.hid (fun w => fits_any c k w)
      by_cases hf : fitsB c k = true
      · rw [hf] at HF
        have HO := Lib.hid (or_shift HN.out hk hf)
        by_cases hl : c < 128
        · have HS := Lib.hid (step_last (n := n) (t := (nb s).drop (a + k + 1)) hk hf hl)
          go_wp2_with (go_at_call 63; (with_reducible refine (HF.out _).mono ?_); rintro e w' ⟨rfl, rfl⟩)
          go_ret3
          rw [HG.out, HK.out, HD.out, HS.out]
          exact ⟨ret_tup HO.out (by simp [toldN]; omega) rfl, rfl⟩
        · have HS := Lib.hid (step_more (n := n) (t := (nb s).drop (a + k + 1)) hk hf hl).2
          have hk4 := (step_more (n := n) (t := (nb s).drop (a + k + 1)) hk hf hl).1
          go_wp2_with (go_at_call 63; (with_reducible refine (HF.out _).mono ?_); rintro e w' ⟨rfl, rfl⟩)
          go_round
          case rel => exact ⟨k + 1, n + c % 128 * 128 ^ k, by omega, by omega, by go_num, by rw [HO.out], low_next HN.out, by rw [HK.out, HD.out, HS.out, Nat.add_assoc]⟩
          case measure => simp [intOf]; omega
      · have hf : fitsB c k = false := by simpa using hf
        rw [hf] at HF
        have HS := Lib.hid (step_form (n := n) (t := (nb s).drop (a + k + 1)) hk hf)
        go_wp2_with (go_at_call 63; (with_reducible refine (HF.out _).mono ?_); rintro e w' ⟨rfl, rfl⟩)
        go_ret3
        rw [HG.out, HK.out, HD.out, HS.out]
        exact ⟨rfl, rfl⟩
    · have HS := Lib.hid (step_short (n := n) hk)
      have HD := Lib.hid (nb_end s (a + k) (by omega))
      go_wp2
      go_ret3
      rw [HG.out, HK.out, HD.out, HS.out]
      exact ⟨rfl, rfl⟩
theorem getNum_any (s : ByteArray) (hs : s.size ≤ maxLen) (a : Int) (w : World) : Calls Tryd.prog 42 #[.string s, .int .i64 a] w fun e w' => e = .returned (tupN (getN s a)) ∧ w = w' := by
  by_cases h0 : a < 0
  · have HG := Lib.hid (getN_out (s := s) (.inl h0))
    have d1 : decide (a < 0) = true := by simpa using h0
    go_enter Tryd.func42, Tryd.ntmps42
    go_wp2
    go_ret3
    rw [HG.out]; exact ⟨rfl, rfl⟩
  · by_cases h1 : (s.size : Int) < a
    · have HG := Lib.hid (getN_out (s := s) (.inr h1))
      have d1 : decide (a < 0) = false := by simpa using h0
      have d2 : decide ((s.size : Int) < a) = true := by simpa using h1
      go_enter Tryd.func42, Tryd.ntmps42
      go_wp2
      go_ret3
      rw [HG.out]; exact ⟨rfl, rfl⟩
    · obtain ⟨k, rfl⟩ : ∃ k : Nat, a = k := ⟨a.toNat, by omega⟩
      exact getNum_in s hs k (by omega) w
set_option maxRecDepth 100000 in
set_option maxHeartbeats 4000000 in
theorem refGetNum_in (s : ByteArray) (hs : s.size ≤ maxLen) (a : Nat) (ha : a ≤ s.size) (w : World) : Calls Tryd.prog 44 #[.string s, .int .i64 (a : Int)] w fun e w' => e = .returned (tupN (getN s a)) ∧ w = w' := by
  unfold maxLen at hs
  have d1 : decide ((a : Int) < 0) = false := by simp
  have d2 : decide ((s.size : Int) < (a : Int)) = false := by simp; omega
  have d3 : decide (s.size < a) = false := by simp; omega
  have HG := Lib.hid (getN_in s ha)
  go_enter Tryd.func44, Tryd.ntmps44
  go_wp2
  go_loop [1, 7, 8] (fun p x i => ∃ k n : Nat, k ≤ 4 ∧ k ≤ s.size - a ∧ p = .int .i64 ((a + k : Nat) : Int) ∧ i = .int .i64 (k : Int) ∧ x = .int .u32 (n : Int) ∧ n < 128 ^ k ∧ gn ((nb s).drop a) = gnF (5 - k) k n k ((nb s).drop (a + k))) (fun _ _ i => 5 - (intOf i).toNat)
  case atStart => exact ⟨0, 0, by omega, by omega, rfl, rfl, rfl, by simp, rfl⟩
  case round =>
    obtain ⟨k, n, hk, hka, rfl, rfl, rfl, hn, hg⟩ := hrel
    have HK := Lib.hid hg
    have HN := Lib.hid hn
    clear hg hn
    by_cases hlt : k < s.size - a
    · have hi : a + k < s.size := by omega
      have hi' : ((a + k : Nat) : Int) < (s.size : Int) := by omega
      have HD := Lib.hid (nb_drop s (a + k) hi)
      have hc := s[a + k].toNat_lt
      have e5 : decide ((s.size : Int) ≤ ((a + k : Nat) : Int)) = false := by simp; omega
      generalize hcc : s[a + k].toNat = c at HD hc
      by_cases hf : fitsB c k = true
      · have HO := Lib.hid (or_shift HN.out hk hf)
        have hf' : ¬ ((k = 4 ∧ 15 < c) ∨ (c = 0 ∧ 0 < k)) := by rw [← fitsB_form hk, hf]; simp
        by_cases hl : c < 128
        · have HS := Lib.hid (step_last (n := n) (t := (nb s).drop (a + k + 1)) hk hf hl)
          have hd : ((((k : Int) == 4) = true ∧ decide (15 < (c : Int)) = false ∧ ((c : Int) == 0) = false) ∨ (((k : Int) == 4) = false ∧ ((c : Int) == 0) = false)) ∨ (((k : Int) == 4) = false ∧ ((c : Int) == 0) = true ∧ decide (0 < k) = false) := by
            simp; omega
          clear hf hf'
          rcases hd with (⟨q1, q2, q3⟩ | ⟨q1, q2⟩) | ⟨q1, q2, q3⟩
          all_goals
            go_wp2
            go_ret3
            rw [HG.out, HK.out, HD.out, HS.out]
            exact ⟨ret_tup HO.out (by simp [toldN]; omega) rfl, rfl⟩
        · have HS := Lib.hid (step_more (n := n) (t := (nb s).drop (a + k + 1)) hk hf hl).2
          have hk4 := (step_more (n := n) (t := (nb s).drop (a + k + 1)) hk hf hl).1
          clear hf
          have n0 : ¬ c = 0 := by omega
          have n4 : ¬ k = 4 := by omega
          go_wp2
          go_round
          case rel => exact ⟨k + 1, n + c % 128 * 128 ^ k, by omega, by omega, by go_num, by go_num, by rw [HO.out], low_next HN.out, by rw [HK.out, HD.out, HS.out, Nat.add_assoc]⟩
          case measure => simp [intOf]; omega
      · have hf : fitsB c k = false := by simpa using hf
        have HS := Lib.hid (step_form (n := n) (t := (nb s).drop (a + k + 1)) hk hf)
        have hf' : ((k = 4 ∧ 15 < c) ∨ (c = 0 ∧ 0 < k)) := by rw [← fitsB_form hk, hf]
        have hd : ((((k : Int) == 4) = true ∧ decide (15 < (c : Int)) = true) ∨ (((k : Int) == 4) = true ∧ decide (15 < (c : Int)) = false ∧ ((c : Int) == 0) = true ∧ decide (0 < k) = true)) ∨ (((k : Int) == 4) = false ∧ ((c : Int) == 0) = true ∧ decide (0 < k) = true) := by
          simp; omega
        clear hf hf'
        rcases hd with (⟨q1, q2⟩ | ⟨q1, q2, q3, q4⟩) | ⟨q1, q2, q3⟩
        all_goals
          go_wp2
          go_ret3
          rw [HG.out, HK.out, HD.out, HS.out]
          exact ⟨rfl, rfl⟩
    · have HS := Lib.hid (step_short (n := n) hk)
      have HD := Lib.hid (nb_end s (a + k) (by omega))
      have e5 : decide ((s.size : Int) ≤ ((a + k : Nat) : Int)) = true := by simp; omega
      go_wp2
      go_ret3
      rw [HG.out, HK.out, HD.out, HS.out]
      exact ⟨rfl, rfl⟩
theorem refGetNum_any (s : ByteArray) (hs : s.size ≤ maxLen) (a : Int) (w : World) : Calls Tryd.prog 44 #[.string s, .int .i64 a] w fun e w' => e = .returned (tupN (getN s a)) ∧ w = w' := by
  by_cases h0 : a < 0
  · have HG := Lib.hid (getN_out (s := s) (.inl h0))
    have d1 : decide (a < 0) = true := by simpa using h0
    go_enter Tryd.func44, Tryd.ntmps44
    go_wp2
    go_ret3
    rw [HG.out]; exact ⟨rfl, rfl⟩
  · by_cases h1 : (s.size : Int) < a
    · have HG := Lib.hid (getN_out (s := s) (.inr h1))
      have d1 : decide (a < 0) = false := by simpa using h0
      have d2 : decide ((s.size : Int) < a) = true := by simpa using h1
      go_enter Tryd.func44, Tryd.ntmps44
      go_wp2
      go_ret3
      rw [HG.out]; exact ⟨rfl, rfl⟩
    · obtain ⟨k, rfl⟩ : ∃ k : Nat, a = k := ⟨a.toNat, by omega⟩
      exact refGetNum_in s hs k (by omega) w
end Go.Proofs.YtjbgiolcfammkaaDoor.Lay
