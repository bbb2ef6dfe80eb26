/-
  Numbers by seven binary digits in a byte. Nothing of the program.
-/
import Derived.Handy
set_option linter.unusedVariables false
set_option linter.unusedSimpArgs false
namespace LayM

/-- a number's bytes -/
def numF : Nat → Nat → List Nat
  | 0, v => [v]
  | f + 1, v => if v < 128 then [v] else (v % 128 + 128) :: numF f (v / 128)
def numL (v : Nat) : List Nat := numF 4 v
/-- what is read at a place: a number and how many bytes it has; none there; a wrong form -/
inductive R where
  | ok (v n : Nat)
  | short
  | form
  deriving DecidableEq, Inhabited
def gnF : Nat → Nat → Nat → Nat → List Nat → R
  | 0, _, v, n, _ => .ok v n
  | _ + 1, _, _, _, [] => .short
  | f + 1, i, v, n, c :: t => if (i = 4 ∧ 15 < c) ∨ (c = 0 ∧ 0 < i) then .form else if c < 128 then .ok (v + c % 128 * 128 ^ i) (n + 1) else gnF f (i + 1) (v + c % 128 * 128 ^ i) (n + 1) t
def gn (l : List Nat) : R := gnF 5 0 0 0 l

theorem numF_len : ∀ f v, 1 ≤ (numF f v).length ∧ (numF f v).length ≤ f + 1
  | 0, v => by simp [numF]
  | f + 1, v => by
    simp only [numF]
    split
    · simp
    · have := numF_len f (v / 128); simp; omega
theorem numL_len (v : Nat) : 1 ≤ (numL v).length ∧ (numL v).length ≤ 5 := numF_len 4 v
theorem pow_split (v i : Nat) : v * 128 ^ i = v % 128 * 128 ^ i + v / 128 * 128 ^ (i + 1) := by
  rw [Nat.pow_succ, Nat.mul_comm (128 ^ i) 128, ← Nat.mul_assoc, ← Nat.add_mul]
  congr 1; omega
theorem top {v : Nat} (h : v * 128 ^ 4 < 4294967296) : v < 16 := by
  have : (128 : Nat) ^ 4 = 268435456 := by decide
  rw [this] at h; omega
theorem back_F : ∀ f i v a n t, f + i = 4 → v * 128 ^ i < 4294967296 → (0 < i → 0 < v) → gnF (f + 1) i a n (numF f v ++ t) = .ok (a + v * 128 ^ i) (n + (numF f v).length) := by
  intro f
  induction f with
  | zero =>
    intro i v a n t hi hv h0
    have hi : i = 4 := by omega
    subst hi
    have h16 := top hv
    simp only [numF, List.cons_append, List.nil_append, gnF]
    rw [if_neg (by omega), if_pos (by omega), Nat.mod_eq_of_lt (by omega)]; rfl
  | succ f ih =>
    intro i v a n t hi hv h0
    simp only [numF]
    by_cases hs : v < 128
    · rw [if_pos hs]
      simp only [List.cons_append, List.nil_append, gnF]
      rw [if_neg (by omega), if_pos hs, Nat.mod_eq_of_lt hs]; rfl
    · rw [if_neg hs]
      simp only [List.cons_append, gnF]
      have hp := pow_split v i
      rw [if_neg (by omega), if_neg (by omega), show (v % 128 + 128) % 128 = v % 128 by omega, ih (i + 1) (v / 128) _ _ _ (by omega) (by omega) (by omega)]
      simp only [List.length_cons, R.ok.injEq]
      omega
theorem back (v : Nat) (t : List Nat) (hv : v < 4294967296) : gn (numL v ++ t) = .ok v (numL v).length := by
  have := back_F 4 0 v 0 0 t rfl (by omega) (by omega)
  unfold gn numL
  rw [this]; simp
theorem cut_F : ∀ f i v a n k, f + i = 4 → v * 128 ^ i < 4294967296 → (0 < i → 0 < v) → k < (numF f v).length → gnF (f + 1) i a n ((numF f v).take k) = .short := by
  intro f
  induction f with
  | zero =>
    intro i v a n k hi hv h0 hk
    simp only [numF, List.length_cons, List.length_nil] at hk
    have : k = 0 := by omega
    subst this
    simp [gnF]
  | succ f ih =>
    intro i v a n k hi hv h0 hk
    cases k with
    | zero => simp [gnF]
    | succ k =>
      simp only [numF] at hk ⊢
      by_cases hs : v < 128
      · rw [if_pos hs] at hk; simp at hk
      · rw [if_neg hs] at hk ⊢
        have hp := pow_split v i
        simp only [List.length_cons] at hk
        simp only [List.take_succ_cons, gnF]
        rw [if_neg (by omega), if_neg (by omega)]
        exact ih (i + 1) (v / 128) _ _ k (by omega) (by omega) (by omega) (by omega)
theorem cut (v k : Nat) (hv : v < 4294967296) (hk : k < (numL v).length) : gn ((numL v).take k) = .short :=
  cut_F 4 0 v 0 0 k rfl (by omega) (by omega) hk
theorem once_F : ∀ f i a n l w m, f + i = 4 → gnF (f + 1) i a n l = .ok w m → (∀ c ∈ l, c < 256) → ∃ v, w = a + v * 128 ^ i ∧ v * 128 ^ i < 4294967296 ∧ (0 < i → 0 < v) ∧ m = n + (numF f v).length ∧ l.take (numF f v).length = numF f v ∧ (numF f v).length ≤ l.length := by
  intro f
  induction f with
  | zero =>
    intro i a n l w m hi h hb
    have hi : i = 4 := by omega
    subst hi
    cases l with
    | nil => simp [gnF] at h
    | cons c t =>
      rw [gnF] at h
      split at h
      · cases h
      rename_i hc
      rw [if_pos (by omega)] at h
      simp only [R.ok.injEq] at h
      rw [Nat.mod_eq_of_lt (by omega)] at h
      refine ⟨c, by omega, ?_, by omega, by simp [numF]; omega, by simp [numF], by simp [numF]⟩
      have : (128 : Nat) ^ 4 = 268435456 := by decide
      rw [this]; omega
  | succ f ih =>
    intro i a n l w m hi h hb
    cases l with
    | nil => simp [gnF] at h
    | cons c t =>
      have hcb := hb c (by simp)
      rw [gnF] at h
      split at h
      · cases h
      rename_i hc
      split at h
      · rename_i hs
        simp only [R.ok.injEq] at h
        rw [Nat.mod_eq_of_lt hs] at h
        refine ⟨c, by omega, ?_, by omega, by simp [numF, hs]; omega, by simp [numF, hs], by simp [numF, hs]⟩
        have h1 : c * 128 ^ i ≤ 127 * 128 ^ 3 := Nat.mul_le_mul (by omega) (Nat.pow_le_pow_right (by omega) (by omega))
        have : 127 * (128 : Nat) ^ 3 < 4294967296 := by decide
        omega
      · rename_i hs
        obtain ⟨v, e1, e2, e3, e4, e5, e6⟩ := ih (i + 1) _ _ t w m (by omega) h (fun x hx => hb x (by simp [hx]))
        have hv := e3 (by omega)
        have hp := pow_split (c % 128 + 128 * v) i
        have hq1 : (c % 128 + 128 * v) % 128 = c % 128 := by omega
        have hq2 : (c % 128 + 128 * v) / 128 = v := by omega
        rw [hq1, hq2] at hp
        have hn : numF (f + 1) (c % 128 + 128 * v) = c :: numF f v := by
          simp only [numF]
          rw [if_neg (by omega), hq1, hq2]
          congr 1; omega
        have hlt : c % 128 * 128 ^ i + v * 128 ^ (i + 1) < 4294967296 := by
          have hm : c % 128 * 128 ^ i < 128 ^ (i + 1) := by
            rw [Nat.pow_succ, Nat.mul_comm (128 ^ i) 128]
            exact Nat.mul_lt_mul_of_pos_right (by omega) (Nat.pow_pos (by omega))
          obtain ⟨K, hK⟩ : ∃ K, 4294967296 = K * 128 ^ (i + 1) := by
            have : i = 0 ∨ i = 1 ∨ i = 2 ∨ i = 3 := by omega
            rcases this with rfl | rfl | rfl | rfl
            · exact ⟨33554432, by decide⟩
            · exact ⟨262144, by decide⟩
            · exact ⟨2048, by decide⟩
            · exact ⟨16, by decide⟩
          have h1 : v < K := Nat.lt_of_mul_lt_mul_right (a := 128 ^ (i + 1)) (by rw [← hK]; exact e2)
          have h2 : (v + 1) * 128 ^ (i + 1) ≤ K * 128 ^ (i + 1) := Nat.mul_le_mul_right _ h1
          rw [← hK, Nat.add_mul, Nat.one_mul] at h2
          omega
        refine ⟨c % 128 + 128 * v, by omega, by omega, by omega, ?_, ?_, ?_⟩
        · rw [hn]; simp; omega
        · rw [hn]; simp [e5]
        · rw [hn]; simp; omega
theorem once {l : List Nat} {w m : Nat} (h : gn l = .ok w m) (hb : ∀ c ∈ l, c < 256) : w < 4294967296 ∧ m = (numL w).length ∧ l.take m = numL w ∧ m ≤ l.length := by
  obtain ⟨v, e1, e2, _, e4, e5, e6⟩ := once_F 4 0 0 0 l w m rfl h hb
  have : w = v := by simpa using e1
  subst this
  have e4 : m = (numL w).length := by simpa [numL] using e4
  refine ⟨by simpa using e2, e4, ?_, ?_⟩
  · rw [e4]; exact e5
  · rw [e4]; exact e6
end LayM
