/-
  Runes: the document's table of UTF-8 tells what the model's decoding tells. Nothing of the program.
-/
import Derived.Lib.DecodeN
import Derived.Lib.RuneCount
namespace RuneM
open Go

def loF (b : Nat) : Nat := if b = 224 then 160 else if b = 240 then 144 else 128
def hiF (b : Nat) : Nat := if b = 237 then 159 else if b = 244 then 143 else 191
/-- the document's own table -/
def refN (n b0 b1 b2 b3 : Nat) : Nat × Nat :=
  if b0 < 128 then (b0, 1)
  else if 194 ≤ b0 ∧ b0 ≤ 223 ∧ (1 < n ∧ 128 ≤ b1 ∧ b1 ≤ 191) then (b0 % 32 * 64 + b1 % 64, 2)
  else if 224 ≤ b0 ∧ b0 ≤ 239 ∧ (1 < n ∧ loF b0 ≤ b1 ∧ b1 ≤ hiF b0) ∧ (2 < n ∧ 128 ≤ b2 ∧ b2 ≤ 191) then (b0 % 16 * 4096 + b1 % 64 * 64 + b2 % 64, 3)
  else if 240 ≤ b0 ∧ b0 ≤ 244 ∧ (1 < n ∧ loF b0 ≤ b1 ∧ b1 ≤ hiF b0) ∧ (2 < n ∧ 128 ≤ b2 ∧ b2 ≤ 191) ∧ (3 < n ∧ 128 ≤ b3 ∧ b3 ≤ 191) then (b0 % 8 * 262144 + b1 % 64 * 4096 + b2 % 64 * 64 + b3 % 64, 4)
  else (65533, 1)

theorem lo_hi (b0 b1 : Nat) (_h : 224 ≤ b0 ∧ b0 ≤ 244) : (loF b0 ≤ b1 ∧ b1 ≤ hiF b0) ↔ (128 ≤ b1 ∧ b1 ≤ 191) ∧ (b0 = 224 → 160 ≤ b1) ∧ (b0 = 240 → 144 ≤ b1) ∧ (b0 = 237 → b1 ≤ 159) ∧ (b0 = 244 → b1 ≤ 143) := by
  unfold loF hiF
  constructor
  · intro h; split at h <;> split at h <;> (try split at h) <;> (try split at h) <;> omega
  · intro h; split <;> split <;> (try split) <;> (try split) <;> omega

set_option maxHeartbeats 4000000 in
theorem refN_eq (n b0 b1 b2 b3 : Nat) (_h0 : b0 < 256) (h1 : b1 < 256) (h2 : b2 < 256) (h3 : b3 < 256) : refN n b0 b1 b2 b3 = Lib.decodeN n b0 b1 b2 b3 := by
  unfold refN Lib.decodeN
  by_cases a : b0 < 128
  · rw [if_pos a, if_pos a]
  rw [if_neg a, if_neg a]
  by_cases c2 : b0 / 32 = 6 ∧ (1 < n ∧ b1 / 64 = 2)
  · rw [if_pos c2]
    by_cases d : 194 ≤ b0
    · rw [if_pos (by omega), if_pos (by omega)]
    · rw [if_neg (by omega), if_neg (by omega), if_neg (by omega), if_neg (by omega)]
  rw [if_neg c2, if_neg (by omega)]
  by_cases c3 : b0 / 16 = 14 ∧ (1 < n ∧ b1 / 64 = 2) ∧ (2 < n ∧ b2 / 64 = 2)
  · rw [if_pos c3]
    have e := lo_hi b0 b1 (by omega)
    by_cases d : loF b0 ≤ b1 ∧ b1 ≤ hiF b0
    · have d' := e.1 d
      rw [if_pos (by omega), if_pos (by omega)]
    · have d' := fun x => d (e.2 x)
      rw [if_neg (by omega), if_neg (by omega), if_neg (by omega)]
  rw [if_neg c3]
  by_cases r : 224 ≤ b0 ∧ b0 ≤ 244
  · have e := lo_hi b0 b1 r
    rw [if_neg (by omega)]
    by_cases c4 : b0 / 8 = 30 ∧ (1 < n ∧ b1 / 64 = 2) ∧ (2 < n ∧ b2 / 64 = 2) ∧ (3 < n ∧ b3 / 64 = 2)
    · rw [if_pos c4]
      by_cases d : loF b0 ≤ b1 ∧ b1 ≤ hiF b0
      · have d' := e.1 d
        rw [if_pos (by omega), if_pos (by omega)]
      · have d' := fun x => d (e.2 x)
        rw [if_neg (by omega), if_neg (by omega)]
    · rw [if_neg c4, if_neg (by omega)]
  · rw [if_neg (by omega), if_neg (by omega)]
    by_cases c4 : b0 / 8 = 30 ∧ (1 < n ∧ b1 / 64 = 2) ∧ (2 < n ∧ b2 / 64 = 2) ∧ (3 < n ∧ b3 / 64 = 2)
    · rw [if_pos c4, if_neg (by omega)]
    · rw [if_neg c4]

theorem decN_width (n b0 b1 b2 b3 : Nat) (h : 1 ≤ n) : 1 ≤ (Lib.decodeN n b0 b1 b2 b3).2 ∧ (Lib.decodeN n b0 b1 b2 b3).2 ≤ n ∧ (Lib.decodeN n b0 b1 b2 b3).2 ≤ 4 := by
  unfold Lib.decodeN
  repeat' split
  all_goals (simp only []; omega)
theorem decN_rune (n b0 b1 b2 b3 : Nat) : (Lib.decodeN n b0 b1 b2 b3).1 ≤ 1114111 := by
  unfold Lib.decodeN
  repeat' split
  all_goals (simp only []; omega)
theorem dec_width (s : ByteArray) (i : Nat) (h : i < s.size) : 1 ≤ (Utf8.decode s i).2 ∧ i + (Utf8.decode s i).2 ≤ s.size ∧ (Utf8.decode s i).2 ≤ 4 := by
  rw [Lib.decode_at]
  have := decN_width (s.size - i) (s.get! i).toNat (s.get! (i + 1)).toNat (s.get! (i + 2)).toNat (s.get! (i + 3)).toNat (by omega)
  omega
theorem dec_rune (s : ByteArray) (i : Nat) : (Utf8.decode s i).1 ≤ 1114111 := by rw [Lib.decode_at]; exact decN_rune ..
/-- the runes of a text from a place on, each with how many bytes it has -/
def rs (s : ByteArray) : Nat → Nat → List (Nat × Nat)
  | 0, _ => []
  | f + 1, i => if i < s.size then Utf8.decode s i :: rs s f (i + (Utf8.decode s i).2) else []
theorem rs_two (s : ByteArray) : ∀ f g i, s.size - i ≤ f → s.size - i ≤ g → rs s f i = rs s g i := by
  intro f
  induction f with
  | zero =>
    intro g i h _
    cases g with
    | zero => rfl
    | succ g => simp [rs, show ¬ i < s.size by omega]
  | succ f ih =>
    intro g i h hg
    by_cases hi : i < s.size
    · have hw := dec_width s i hi
      obtain ⟨k, rfl⟩ : ∃ k, g = k + 1 := ⟨g - 1, by omega⟩
      simp only [rs, if_pos hi]
      rw [ih k _ (by omega) (by omega)]
    · cases g with
      | zero => simp [rs, hi]
      | succ g => simp [rs, hi]
/-- all from a place on -/
def rest (s : ByteArray) (i : Nat) : List (Nat × Nat) := rs s s.size i
/-- a text's runes -/
def runes (s : ByteArray) : List (Nat × Nat) := rest s 0
theorem rest_cons (s : ByteArray) (i : Nat) (h : i < s.size) : rest s i = Utf8.decode s i :: rest s (i + (Utf8.decode s i).2) := by
  unfold rest
  have hw := dec_width s i h
  rw [rs_two s s.size (s.size - 1 + 1) i (by omega) (by omega)]
  simp only [rs, if_pos h]
  rw [rs_two s (s.size - 1) s.size _ (by omega) (by omega)]
theorem rest_end (s : ByteArray) (i : Nat) (h : s.size ≤ i) : rest s i = [] := by
  unfold rest
  cases hz : s.size with
  | zero => rfl
  | succ n => simp [rs, show ¬ i < s.size by omega]
theorem rest_length (s : ByteArray) (i : Nat) : (rest s i).length ≤ s.size - i := by
  unfold rest
  have : ∀ f i, (rs s f i).length ≤ s.size - i := by
    intro f
    induction f with
    | zero => intro i; simp [rs]
    | succ f ih =>
      intro i
      by_cases hi : i < s.size
      · have hw := dec_width s i hi
        have := ih (i + (Utf8.decode s i).2)
        simp only [rs, if_pos hi, List.length_cons]; omega
      · simp [rs, hi]
  exact this _ _
theorem runes_length (s : ByteArray) : (runes s).length ≤ s.size := by have := rest_length s 0; unfold runes; omega
/-- how many bytes some runes have -/
def width (l : List (Nat × Nat)) : Nat := (l.map (·.2)).sum
theorem width_nil : width [] = 0 := rfl
theorem width_append (l m : List (Nat × Nat)) : width (l ++ m) = width l + width m := by simp [width]
theorem width_one (x : Nat × Nat) : width [x] = x.2 := by simp [width]
end RuneM
