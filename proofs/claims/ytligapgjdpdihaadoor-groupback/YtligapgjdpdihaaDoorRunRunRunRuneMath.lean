/-
  Joined texts: RunRunRuneMath, RuneMath, KeyMath.
-/
import Derived.Lib.DecodeN
import Derived.Lib.RuneCount
/-
  Joined texts: RunRuneMath, RuneMath, KeyMath, KeyMathB.
-/
/-
  Joined texts: RuneMath, KeyMath, KeyMathB.
-/
/-
  Runes: the document's table of UTF-8 tells what the model's decoding tells. Nothing of the program.
-/
set_option linter.unusedVariables false
set_option linter.unusedSimpArgs false
namespace RuneM
open Go

def loF (b : Nat) : Nat := if b = 224 then 160 else if b = 240 then 144 else 128
def hiF (b : Nat) : Nat := if b = 237 then 159 else if b = 244 then 143 else 191
/-- the document's own table -/
def refN (n b0 b1 b2 b3 : Nat) : Nat × Nat :=
  if b0 < 128 then (b0, 1)
  else if 194 ≤ b0 ∧ b0 ≤ 223 ∧ (1 < n ∧ 128 ≤ b1 ∧ b1 ≤ 191) then (b0 % 32 * 64 + b1 % 64, 2)
  else if 224 ≤ b0 ∧ b0 ≤ 239 ∧ (1 < n ∧ loF b0 ≤ b1 ∧ b1 ≤ hiF b0) ∧ (2 < n ∧ 128 ≤ b2 ∧ b2 ≤ 191) then (b0 % 16 * 4096 + b1 % 64 * 64 + b2 % 64, 3)
  else if 240 ≤ b0 ∧ b0 ≤ 244 ∧ (1 < n ∧ loF b0 ≤ b1 ∧ b1 ≤ hiF b0) ∧ (2 < n ∧ 128 ≤ b2 ∧ b2 ≤ 191) ∧ (3 < n ∧ 128 ≤ b3 ∧ b3 ≤ 191) then (b0 % 8 * 262144 + b1 % 64 * 4096 + b2 % 64 * 64 + b3 % 64, 4)
  else (65533, 1)

theorem lo_hi (b0 b1 : Nat) (_h : 224 ≤ b0 ∧ b0 ≤ 244) : (loF b0 ≤ b1 ∧ b1 ≤ hiF b0) ↔ (128 ≤ b1 ∧ b1 ≤ 191) ∧ (b0 = 224 → 160 ≤ b1) ∧ (b0 = 240 → 144 ≤ b1) ∧ (b0 = 237 → b1 ≤ 159) ∧ (b0 = 244 → b1 ≤ 143) := by
  unfold loF hiF
  constructor
  · intro h; split at h <;> split at h <;> (try split at h) <;> (try split at h) <;> omega
  · intro h; split <;> split <;> (try split) <;> (try split) <;> omega

set_option maxHeartbeats 4000000 in
theorem refN_eq (n b0 b1 b2 b3 : Nat) (_h0 : b0 < 256) (h1 : b1 < 256) (h2 : b2 < 256) (h3 : b3 < 256) : refN n b0 b1 b2 b3 = Lib.decodeN n b0 b1 b2 b3 := by
  unfold refN Lib.decodeN
  by_cases a : b0 < 128
  · rw [if_pos a, if_pos a]
  rw [if_neg a, if_neg a]
  by_cases c2 : b0 / 32 = 6 ∧ (1 < n ∧ b1 / 64 = 2)
  · rw [if_pos c2]
    by_cases d : 194 ≤ b0
    · rw [if_pos (by omega), if_pos (by omega)]
    · rw [if_neg (by omega), if_neg (by omega), if_neg (by omega), if_neg (by omega)]
  rw [if_neg c2, if_neg (by omega)]
  by_cases c3 : b0 / 16 = 14 ∧ (1 < n ∧ b1 / 64 = 2) ∧ (2 < n ∧ b2 / 64 = 2)
  · rw [if_pos c3]
    have e := lo_hi b0 b1 (by omega)
    by_cases d : loF b0 ≤ b1 ∧ b1 ≤ hiF b0
    · have d' := e.1 d
      rw [if_pos (by omega), if_pos (by omega)]
    · have d' := fun x => d (e.2 x)
      rw [if_neg (by omega), if_neg (by omega), if_neg (by omega)]
  rw [if_neg c3]
  by_cases r : 224 ≤ b0 ∧ b0 ≤ 244
  · have e := lo_hi b0 b1 r
    rw [if_neg (by omega)]
    by_cases c4 : b0 / 8 = 30 ∧ (1 < n ∧ b1 / 64 = 2) ∧ (2 < n ∧ b2 / 64 = 2) ∧ (3 < n ∧ b3 / 64 = 2)
    · rw [if_pos c4]
      by_cases d : loF b0 ≤ b1 ∧ b1 ≤ hiF b0
      · have d' := e.1 d
        rw [if_pos (by omega), if_pos (by omega)]
      · have d' := fun x => d (e.2 x)
        rw [if_neg (by omega), if_neg (by omega)]
    · rw [if_neg c4, if_neg (by omega)]
  · rw [if_neg (by omega), if_neg (by omega)]
    by_cases c4 : b0 / 8 = 30 ∧ (1 < n ∧ b1 / 64 = 2) ∧ (2 < n ∧ b2 / 64 = 2) ∧ (3 < n ∧ b3 / 64 = 2)
    · rw [if_pos c4, if_neg (by omega)]
    · rw [if_neg c4]

theorem decN_width (n b0 b1 b2 b3 : Nat) (h : 1 ≤ n) : 1 ≤ (Lib.decodeN n b0 b1 b2 b3).2 ∧ (Lib.decodeN n b0 b1 b2 b3).2 ≤ n ∧ (Lib.decodeN n b0 b1 b2 b3).2 ≤ 4 := by
  unfold Lib.decodeN
  repeat' split
  all_goals (simp only []; omega)
theorem decN_rune (n b0 b1 b2 b3 : Nat) : (Lib.decodeN n b0 b1 b2 b3).1 ≤ 1114111 := by
  unfold Lib.decodeN
  repeat' split
  all_goals (simp only []; omega)
theorem dec_width (s : ByteArray) (i : Nat) (h : i < s.size) : 1 ≤ (Utf8.decode s i).2 ∧ i + (Utf8.decode s i).2 ≤ s.size ∧ (Utf8.decode s i).2 ≤ 4 := by
  rw [Lib.decode_at]
  have := decN_width (s.size - i) (s.get! i).toNat (s.get! (i + 1)).toNat (s.get! (i + 2)).toNat (s.get! (i + 3)).toNat (by omega)
  omega
theorem dec_rune (s : ByteArray) (i : Nat) : (Utf8.decode s i).1 ≤ 1114111 := by rw [Lib.decode_at]; exact decN_rune ..
/-- the runes of a text from a place on, each with how many bytes it has -/
def rs (s : ByteArray) : Nat → Nat → List (Nat × Nat)
  | 0, _ => []
  | f + 1, i => if i < s.size then Utf8.decode s i :: rs s f (i + (Utf8.decode s i).2) else []
theorem rs_two (s : ByteArray) : ∀ f g i, s.size - i ≤ f → s.size - i ≤ g → rs s f i = rs s g i := by
  intro f
  induction f with
  | zero =>
    intro g i h _
    cases g with
    | zero => rfl
    | succ g => simp [rs, show ¬ i < s.size by omega]
  | succ f ih =>
    intro g i h hg
    by_cases hi : i < s.size
    · have hw := dec_width s i hi
      obtain ⟨k, rfl⟩ : ∃ k, g = k + 1 := ⟨g - 1, by omega⟩
      simp only [rs, if_pos hi]
      rw [ih k _ (by omega) (by omega)]
    · cases g with
      | zero => simp [rs, hi]
      | succ g => simp [rs, hi]
/-- all from a place on -/
def rest (s : ByteArray) (i : Nat) : List (Nat × Nat) := rs s s.size i
/-- a text's runes -/
def runes (s : ByteArray) : List (Nat × Nat) := rest s 0
theorem rest_cons (s : ByteArray) (i : Nat) (h : i < s.size) : rest s i = Utf8.decode s i :: rest s (i + (Utf8.decode s i).2) := by
  unfold rest
  have hw := dec_width s i h
  rw [rs_two s s.size (s.size - 1 + 1) i (by omega) (by omega)]
  simp only [rs, if_pos h]
  rw [rs_two s (s.size - 1) s.size _ (by omega) (by omega)]
theorem rest_end (s : ByteArray) (i : Nat) (h : s.size ≤ i) : rest s i = [] := by
  unfold rest
  cases hz : s.size with
  | zero => rfl
  | succ n => simp [rs, show ¬ i < s.size by omega]
theorem rest_length (s : ByteArray) (i : Nat) : (rest s i).length ≤ s.size - i := by
  unfold rest
  have : ∀ f i, (rs s f i).length ≤ s.size - i := by
    intro f
    induction f with
    | zero => intro i; simp [rs]
    | succ f ih =>
      intro i
      by_cases hi : i < s.size
      · have hw := dec_width s i hi
        have := ih (i + (Utf8.decode s i).2)
        simp only [rs, if_pos hi, List.length_cons]; omega
      · simp [rs, hi]
  exact this _ _
theorem runes_length (s : ByteArray) : (runes s).length ≤ s.size := by have := rest_length s 0; unfold runes; omega
/-- how many bytes some runes have -/
def width (l : List (Nat × Nat)) : Nat := (l.map (·.2)).sum
theorem width_nil : width [] = 0 := rfl
theorem width_append (l m : List (Nat × Nat)) : width (l ++ m) = width l + width m := by simp [width]
theorem width_one (x : Nat × Nat) : width [x] = x.2 := by simp [width]
end RuneM
/-
  Lists of runes: how they begin alike, how they stand to one another, how many bytes they have. Nothing of the program.
-/
set_option linter.unusedVariables false
set_option linter.unusedSimpArgs false
namespace RuneM
open Go
theorem width_take_succ (l : List (Nat × Nat)) (k : Nat) (h : k < l.length) : width (l.take (k + 1)) = width (l.take k) + l[k].2 := by
  rw [List.take_succ_eq_append_getElem h, width_append, width_one]
theorem rest_width (s : ByteArray) (i : Nat) (h : i ≤ s.size) : width (rest s i) = s.size - i := by
  have : ∀ n i, s.size - i ≤ n → i ≤ s.size → width (rest s i) = s.size - i := by
    intro n
    induction n with
    | zero => intro i h1 h2; rw [rest_end s i (by omega), width_nil]; omega
    | succ n ih =>
      intro i h1 h2
      by_cases hi : i < s.size
      · have hw := dec_width s i hi
        rw [rest_cons s i hi, show Utf8.decode s i :: rest s (i + (Utf8.decode s i).2) = [Utf8.decode s i] ++ rest s (i + (Utf8.decode s i).2) from rfl, width_append, width_one, ih _ (by omega) (by omega)]
        omega
      · rw [rest_end s i (by omega), width_nil]; omega
  exact this _ i (Nat.le_refl _) h
theorem runes_width (s : ByteArray) : width (runes s) = s.size := by unfold runes; rw [rest_width s 0 (Nat.zero_le _)]; omega
theorem width_take_le (l : List (Nat × Nat)) (k : Nat) : width (l.take k) ≤ width l := by
  have : width l = width (l.take k) + width (l.drop k) := by rw [← width_append, List.take_append_drop]
  omega
/-- the runes' numbers -/
def nums (s : ByteArray) : List Nat := (runes s).map (·.1)
theorem nums_length (s : ByteArray) : (nums s).length = (runes s).length := by simp [nums]
/-- how many two lists begin with alike -/
def common : List Nat → List Nat → Nat
  | a :: x, b :: y => if a = b then common x y + 1 else 0
  | _, _ => 0
theorem common_nil_left (y : List Nat) : common [] y = 0 := by cases y <;> rfl
theorem common_nil_right (x : List Nat) : common x [] = 0 := by cases x <;> rfl
theorem common_le (x y : List Nat) : common x y ≤ x.length ∧ common x y ≤ y.length := by
  induction x generalizing y with
  | nil => simp [common_nil_left]
  | cons a x ih =>
    cases y with
    | nil => simp [common]
    | cons b y =>
      have := ih y
      simp only [common, List.length_cons]
      split <;> omega
/-- how two lists stand to one another -/
def cmpL : List Nat → List Nat → Int
  | [], [] => 0
  | [], _ :: _ => -1
  | _ :: _, [] => 1
  | a :: x, b :: y => if a = b then cmpL x y else if a < b then -1 else 1
theorem cmpL_common (x y : List Nat) : cmpL x y = if common x y = x.length then (if common x y = y.length then 0 else -1) else if common x y = y.length then 1 else if x.getD (common x y) 0 < y.getD (common x y) 0 then -1 else 1 := by
  induction x generalizing y with
  | nil => cases y <;> simp [cmpL, common]
  | cons a x ih =>
    cases y with
    | nil => simp [cmpL, common]
    | cons b y =>
      by_cases h : a = b
      · have hc : common (a :: x) (b :: y) = common x y + 1 := by simp [common, h]
        simp only [hc, cmpL, if_pos h, ih, List.length_cons, Nat.add_right_cancel_iff, List.getD_cons_succ]
      · have hc : common (a :: x) (b :: y) = 0 := by simp [common, h]
        simp only [hc, cmpL, if_neg h]; simp
theorem common_step {x y : List Nat} {k : Nat} (hx : k < x.length) (hy : k < y.length) : common (x.drop k) (y.drop k) = if x[k] = y[k] then common (x.drop (k + 1)) (y.drop (k + 1)) + 1 else 0 := by
  rw [List.drop_eq_getElem_cons hx, List.drop_eq_getElem_cons hy]; rfl
end RuneM
/-
  Runes of beginnings of a text, and of texts one behind the other; the order of runes. Nothing of the program.
-/
set_option linter.unusedVariables false
set_option linter.unusedSimpArgs false
namespace RuneM
open Go

def bA (s : ByteArray) (i : Nat) : Nat := (s.get! i).toNat
theorem bA_lt (s : ByteArray) (i : Nat) : bA s i < 256 := (s.get! i).toNat_lt
theorem dec_refB (s : ByteArray) (i : Nat) : Utf8.decode s i = refN (s.size - i) (bA s i) (bA s (i + 1)) (bA s (i + 2)) (bA s (i + 3)) := by
  rw [refN_eq _ _ _ _ _ (bA_lt s i) (bA_lt s _) (bA_lt s _) (bA_lt s _), Lib.decode_at]; rfl
theorem bA_get (s : ByteArray) (i : Nat) (h : i < s.size) : s.get! i = s[i] := by
  rw [ByteArray.get!, ByteArray.getElem_eq_getElem_data]
  exact getElem!_pos s.data i h
theorem bA_data (s : ByteArray) (i : Nat) (h : i < s.size) : bA s i = (s.data.toList[i]'(by simpa using h)).toNat := by
  unfold bA; rw [bA_get s i h]; rfl

/-- what fewer bytes tell: as long as all of the rune is there, the same -/
theorem refN_less (n m b0 b1 b2 b3 c1 c2 c3 : Nat) (hm : m ≤ n) (h1 : 1 < m → c1 = b1) (h2 : 2 < m → c2 = b2) (h3 : 3 < m → c3 = b3) (hw : (refN n b0 b1 b2 b3).2 ≤ m) :
    refN m b0 c1 c2 c3 = refN n b0 b1 b2 b3 := by
  unfold refN at hw ⊢
  by_cases a : b0 < 128
  · rw [if_pos a, if_pos a]
  rw [if_neg a] at hw
  rw [if_neg a, if_neg a]
  by_cases t2 : 194 ≤ b0 ∧ b0 ≤ 223 ∧ (1 < n ∧ 128 ≤ b1 ∧ b1 ≤ 191)
  · rw [if_pos t2] at hw
    have e1 := h1 (by omega)
    subst e1
    rw [if_pos t2, if_pos (by omega)]
  rw [if_neg t2] at hw
  rw [if_neg t2, if_neg (by intro x; have := h1 x.2.2.1; subst this; omega)]
  by_cases t3 : 224 ≤ b0 ∧ b0 ≤ 239 ∧ (1 < n ∧ loF b0 ≤ b1 ∧ b1 ≤ hiF b0) ∧ (2 < n ∧ 128 ≤ b2 ∧ b2 ≤ 191)
  · rw [if_pos t3] at hw
    have e1 := h1 (by omega)
    have e2 := h2 (by omega)
    subst e1 e2
    rw [if_pos t3, if_pos (by omega)]
  rw [if_neg t3] at hw
  rw [if_neg t3, if_neg (by intro x; have := h1 x.2.2.1.1; have := h2 x.2.2.2.1; subst_vars; omega)]
  by_cases t4 : 240 ≤ b0 ∧ b0 ≤ 244 ∧ (1 < n ∧ loF b0 ≤ b1 ∧ b1 ≤ hiF b0) ∧ (2 < n ∧ 128 ≤ b2 ∧ b2 ≤ 191) ∧ (3 < n ∧ 128 ≤ b3 ∧ b3 ≤ 191)
  · rw [if_pos t4] at hw
    have e1 := h1 (by omega)
    have e2 := h2 (by omega)
    have e3 := h3 (by omega)
    subst e1 e2 e3
    rw [if_pos t4, if_pos (by omega)]
  · rw [if_neg t4, if_neg (by intro x; have := h1 x.2.2.1.1; have := h2 x.2.2.2.1.1; have := h3 x.2.2.2.2.1; subst_vars; omega)]

theorem bA_extract (s : ByteArray) (j i : Nat) (h : i < j) (hj : j ≤ s.size) : bA (s.extract 0 j) i = bA s i := by
  rw [bA_data s i (by omega), bA_data _ i (by simp; omega)]
  congr 1
  simp
theorem dec_extract (s : ByteArray) (i j : Nat) (hi : i < s.size) (hj : j ≤ s.size) (hw : i + (Utf8.decode s i).2 ≤ j) : Utf8.decode (s.extract 0 j) i = Utf8.decode s i := by
  have hw0 := dec_width s i hi
  rw [dec_refB s i] at hw hw0 ⊢
  rw [dec_refB]
  have hz : (s.extract 0 j).size = j := by simp; omega
  rw [hz, bA_extract s j i (by omega) hj]
  exact refN_less _ _ _ _ _ _ _ _ _ (by omega) (fun h => bA_extract s j _ (by omega) hj) (fun h => bA_extract s j _ (by omega) hj) (fun h => bA_extract s j _ (by omega) hj) (by omega)

/-- the runes of a beginning that ends where a rune ends -/
theorem rest_extract (s : ByteArray) (n : Nat) : ∀ i k, k = (rest s i).length → i ≤ s.size → rest (s.extract 0 (i + width ((rest s i).take n))) i = (rest s i).take n := by
  induction n with
  | zero =>
    intro i k _ hi
    rw [List.take_zero, width_nil, Nat.add_zero]
    exact rest_end _ _ (by simp; omega)
  | succ n ih =>
    intro i k _ hi
    by_cases h : i < s.size
    · have hw := dec_width s i h
      have hc := rest_cons s i h
      have hih := ih (i + (Utf8.decode s i).2) _ rfl (by omega)
      rw [hc, List.take_succ_cons]
      have ew : width (Utf8.decode s i :: (rest s (i + (Utf8.decode s i).2)).take n) = (Utf8.decode s i).2 + width ((rest s (i + (Utf8.decode s i).2)).take n) := by
        rw [show Utf8.decode s i :: (rest s (i + (Utf8.decode s i).2)).take n = [Utf8.decode s i] ++ (rest s (i + (Utf8.decode s i).2)).take n from rfl, width_append, width_one]
      rw [ew, ← Nat.add_assoc]
      have hle : width ((rest s (i + (Utf8.decode s i).2)).take n) ≤ s.size - (i + (Utf8.decode s i).2) := by
        have := width_take_le (rest s (i + (Utf8.decode s i).2)) n
        rw [rest_width s _ (by omega)] at this; exact this
      have hsz : (s.extract 0 (i + (Utf8.decode s i).2 + width ((rest s (i + (Utf8.decode s i).2)).take n))).size = i + (Utf8.decode s i).2 + width ((rest s (i + (Utf8.decode s i).2)).take n) := by simp; omega
      rw [rest_cons _ i (by omega), dec_extract s i _ h (by omega) (by omega), hih]
    · rw [rest_end s i (by omega), List.take_nil, width_nil, Nat.add_zero]
      exact rest_end _ _ (by simp; omega)
theorem runes_extract (s : ByteArray) (n : Nat) : runes (s.extract 0 (width ((runes s).take n))) = (runes s).take n := by
  have := rest_extract s n 0 _ rfl (Nat.zero_le _)
  rw [Nat.zero_add] at this; exact this

theorem common_comm (x y : List Nat) : common x y = common y x := by
  induction x generalizing y with
  | nil => simp [common_nil_left, common_nil_right]
  | cons a x ih =>
    cases y with
    | nil => rfl
    | cons b y =>
      simp only [common]
      by_cases h : a = b
      · rw [if_pos h, if_pos h.symm, ih]
      · rw [if_neg h, if_neg (fun e => h e.symm)]
theorem cmpL_swap (x y : List Nat) : cmpL y x = - cmpL x y := by
  induction x generalizing y with
  | nil => cases y <;> simp [cmpL]
  | cons a x ih =>
    cases y with
    | nil => simp [cmpL]
    | cons b y =>
      simp only [cmpL]
      by_cases h : a = b
      · rw [if_pos h, if_pos h.symm, ih]
      · rw [if_neg h, if_neg (fun e => h e.symm)]
        by_cases g : a < b
        · rw [if_pos g, if_neg (by omega)]; rfl
        · rw [if_neg g, if_pos (by omega)]
theorem cmpL_self (x : List Nat) : cmpL x x = 0 := by
  induction x with
  | nil => rfl
  | cons a x ih => simp [cmpL, ih]
theorem cmpL_three' (x y : List Nat) : cmpL x y = -1 ∨ cmpL x y = 0 ∨ cmpL x y = 1 := by
  rw [cmpL_common]; repeat' split
  all_goals simp
theorem cmpL_zero {x y : List Nat} (h : cmpL x y = 0) : x = y := by
  induction x generalizing y with
  | nil => cases y with
    | nil => rfl
    | cons _ _ => simp [cmpL] at h
  | cons a x ih =>
    cases y with
    | nil => simp [cmpL] at h
    | cons b y =>
      simp only [cmpL] at h
      by_cases e : a = b
      · rw [if_pos e] at h; rw [e, ih h]
      · rw [if_neg e] at h; split at h <;> omega
theorem cmpL_trans {x y z : List Nat} (h1 : cmpL x y ≤ 0) (h2 : cmpL y z ≤ 0) : cmpL x z ≤ 0 ∧ min (common x y) (common y z) ≤ common x z := by
  induction x generalizing y z with
  | nil => cases z <;> simp [cmpL, common_nil_left]
  | cons a x ih =>
    cases y with
    | nil => simp [cmpL] at h1
    | cons b y =>
      cases z with
      | nil => simp [cmpL] at h2
      | cons c z =>
        simp only [cmpL] at h1 h2 ⊢
        simp only [common]
        by_cases e1 : a = b
        · rw [if_pos e1] at h1
          by_cases e2 : b = c
          · rw [if_pos e2] at h2
            have := ih h1 h2
            rw [if_pos (e1.trans e2), if_pos e1, if_pos e2, if_pos (e1.trans e2)]
            omega
          · rw [if_neg e2] at h2
            have g2 : b < c := by by_cases g : b < c; exact g; rw [if_neg g] at h2; omega
            rw [if_neg (by omega), if_pos (by omega), if_neg e2]
            omega
        · rw [if_neg e1] at h1
          have g1 : a < b := by by_cases g : a < b; exact g; rw [if_neg g] at h1; omega
          by_cases e2 : b = c
          · rw [if_neg (by omega), if_pos (by omega), if_neg e1]; omega
          · rw [if_neg e2] at h2
            have g2 : b < c := by by_cases g : b < c; exact g; rw [if_neg g] at h2; omega
            rw [if_neg (by omega), if_pos (by omega), if_neg e1]; omega
theorem cmpL_take (x : List Nat) (n : Nat) : cmpL (x.take n) x ≤ 0 := by
  induction x generalizing n with
  | nil => simp [cmpL]
  | cons a x ih =>
    cases n with
    | zero => simp [cmpL]
    | succ n => simp only [List.take_succ_cons, cmpL, if_true]; exact ih n

/-- a rune that stands there as UTF-8 -/
def whole (x : Nat × Nat) : Prop := ¬ (x.1 = 65533 ∧ x.2 = 1)
/-- more bytes behind a whole rune tell the same -/
theorem refN_more (n m b0 b1 b2 b3 c1 c2 c3 : Nat) (hm : m ≤ n) (h1 : 1 < m → c1 = b1) (h2 : 2 < m → c2 = b2) (h3 : 3 < m → c3 = b3) (hw : whole (refN m b0 c1 c2 c3)) :
    refN n b0 b1 b2 b3 = refN m b0 c1 c2 c3 := by
  unfold refN at hw ⊢
  by_cases a : b0 < 128
  · rw [if_pos a, if_pos a]
  rw [if_neg a] at hw
  rw [if_neg a, if_neg a]
  by_cases t2 : 194 ≤ b0 ∧ b0 ≤ 223 ∧ (1 < m ∧ 128 ≤ c1 ∧ c1 ≤ 191)
  · have e1 := h1 t2.2.2.1
    subst e1
    rw [if_pos t2, if_pos (by omega)]
  rw [if_neg t2] at hw
  rw [if_neg t2]
  by_cases t3 : 224 ≤ b0 ∧ b0 ≤ 239 ∧ (1 < m ∧ loF b0 ≤ c1 ∧ c1 ≤ hiF b0) ∧ (2 < m ∧ 128 ≤ c2 ∧ c2 ≤ 191)
  · have e1 := h1 t3.2.2.1.1
    have e2 := h2 t3.2.2.2.1
    subst e1 e2
    rw [if_pos t3, if_neg (by omega), if_pos (by omega)]
  rw [if_neg t3] at hw
  rw [if_neg t3]
  by_cases t4 : 240 ≤ b0 ∧ b0 ≤ 244 ∧ (1 < m ∧ loF b0 ≤ c1 ∧ c1 ≤ hiF b0) ∧ (2 < m ∧ 128 ≤ c2 ∧ c2 ≤ 191) ∧ (3 < m ∧ 128 ≤ c3 ∧ c3 ≤ 191)
  · have e1 := h1 t4.2.2.1.1
    have e2 := h2 t4.2.2.2.1.1
    have e3 := h3 t4.2.2.2.2.1
    subst e1 e2 e3
    rw [if_pos t4, if_neg (by omega), if_neg (by omega), if_pos (by omega)]
  · rw [if_neg t4] at hw
    exact absurd ⟨rfl, rfl⟩ hw
theorem bA_left (a b : ByteArray) (i : Nat) (h : i < a.size) : bA (a ++ b) i = bA a i := by
  rw [bA_data a i h, bA_data _ i (by simp; omega)]
  congr 1
  have e : (a ++ b).data.toList = a.data.toList ++ b.data.toList := by simp [ByteArray.data_append]
  simp only [e]
  rw [List.getElem_append_left (by simpa using h)]
theorem bA_right (a b : ByteArray) (i : Nat) (h : i < b.size) : bA (a ++ b) (a.size + i) = bA b i := by
  rw [bA_data b i h, bA_data _ _ (by simp; omega)]
  congr 1
  have e : (a ++ b).data.toList = a.data.toList ++ b.data.toList := by simp [ByteArray.data_append]
  simp only [e]
  rw [List.getElem_append_right (by simp)]
  simp
theorem dec_left (a b : ByteArray) (i : Nat) (h : i < a.size) (hw : whole (Utf8.decode a i)) : Utf8.decode (a ++ b) i = Utf8.decode a i := by
  rw [dec_refB a i] at hw ⊢
  rw [dec_refB, bA_left a b i h]
  exact refN_more _ _ _ _ _ _ _ _ _ (by simp; omega) (fun h1 => (bA_left a b _ (by omega)).symm) (fun h1 => (bA_left a b _ (by omega)).symm) (fun h1 => (bA_left a b _ (by omega)).symm) hw
theorem dec_right (a b : ByteArray) (i : Nat) (h : i < b.size) : Utf8.decode (a ++ b) (a.size + i) = Utf8.decode b i := by
  have hw := dec_width b i h
  rw [dec_refB b i] at hw ⊢
  rw [dec_refB, bA_right a b i h]
  have hz : (a ++ b).size - (a.size + i) = b.size - i := by simp; omega
  rw [hz]
  exact refN_less _ _ _ _ _ _ _ _ _ (Nat.le_refl _) (fun h1 => by rw [Nat.add_assoc]; exact bA_right a b _ (by omega)) (fun h1 => by rw [Nat.add_assoc]; exact bA_right a b _ (by omega)) (fun h1 => by rw [Nat.add_assoc]; exact bA_right a b _ (by omega)) (by omega)
theorem rest_right (a b : ByteArray) : ∀ n i, b.size - i ≤ n → i ≤ b.size → rest (a ++ b) (a.size + i) = rest b i := by
  intro n
  induction n with
  | zero => intro i h1 h2; rw [rest_end b i (by omega), rest_end _ _ (by simp; omega)]
  | succ n ih =>
    intro i h1 h2
    by_cases hi : i < b.size
    · have hw := dec_width b i hi
      rw [rest_cons b i hi, rest_cons _ _ (by simp; omega), dec_right a b i hi, Nat.add_assoc, ih _ (by omega) (by omega)]
    · rw [rest_end b i (by omega), rest_end _ _ (by simp; omega)]
theorem rest_left (a b : ByteArray) : ∀ n i, a.size - i ≤ n → i ≤ a.size → (∀ x ∈ rest a i, whole x) → rest (a ++ b) i = rest a i ++ rest (a ++ b) a.size := by
  intro n
  induction n with
  | zero =>
    intro i h1 h2 _
    have : i = a.size := by omega
    subst this
    rw [rest_end a _ (Nat.le_refl _)]; rfl
  | succ n ih =>
    intro i h1 h2 hall
    by_cases hi : i < a.size
    · have hw := dec_width a i hi
      have hc := rest_cons a i hi
      rw [hc] at hall ⊢
      rw [rest_cons (a ++ b) i (by simp; omega), dec_left a b i hi (hall _ (by simp)), ih _ (by omega) (by omega) (fun x hx => hall x (by simp [hx]))]
      rfl
    · have : i = a.size := by omega
      subst this
      rw [rest_end a _ (Nat.le_refl _)]; rfl
theorem runes_append (a b : ByteArray) (h : ∀ x ∈ runes a, whole x) : runes (a ++ b) = runes a ++ runes b := by
  unfold runes at h ⊢
  rw [rest_left a b _ 0 (Nat.le_refl _) (Nat.zero_le _) h]
  have := rest_right a b _ 0 (Nat.le_refl _) (Nat.zero_le _)
  rw [Nat.add_zero] at this
  rw [this]
end RuneM
/-
  Runes: the document's table of UTF-8 tells what the model's decoding tells. Nothing of the program.
-/
set_option linter.unusedVariables false
set_option linter.unusedSimpArgs false
namespace RuneM
open Go

def loF (b : Nat) : Nat := if b = 224 then 160 else if b = 240 then 144 else 128
def hiF (b : Nat) : Nat := if b = 237 then 159 else if b = 244 then 143 else 191
/-- the document's own table -/
def refN (n b0 b1 b2 b3 : Nat) : Nat × Nat :=
  if b0 < 128 then (b0, 1)
  else if 194 ≤ b0 ∧ b0 ≤ 223 ∧ (1 < n ∧ 128 ≤ b1 ∧ b1 ≤ 191) then (b0 % 32 * 64 + b1 % 64, 2)
  else if 224 ≤ b0 ∧ b0 ≤ 239 ∧ (1 < n ∧ loF b0 ≤ b1 ∧ b1 ≤ hiF b0) ∧ (2 < n ∧ 128 ≤ b2 ∧ b2 ≤ 191) then (b0 % 16 * 4096 + b1 % 64 * 64 + b2 % 64, 3)
  else if 240 ≤ b0 ∧ b0 ≤ 244 ∧ (1 < n ∧ loF b0 ≤ b1 ∧ b1 ≤ hiF b0) ∧ (2 < n ∧ 128 ≤ b2 ∧ b2 ≤ 191) ∧ (3 < n ∧ 128 ≤ b3 ∧ b3 ≤ 191) then (b0 % 8 * 262144 + b1 % 64 * 4096 + b2 % 64 * 64 + b3 % 64, 4)
  else (65533, 1)

theorem lo_hi (b0 b1 : Nat) (_h : 224 ≤ b0 ∧ b0 ≤ 244) : (loF b0 ≤ b1 ∧ b1 ≤ hiF b0) ↔ (128 ≤ b1 ∧ b1 ≤ 191) ∧ (b0 = 224 → 160 ≤ b1) ∧ (b0 = 240 → 144 ≤ b1) ∧ (b0 = 237 → b1 ≤ 159) ∧ (b0 = 244 → b1 ≤ 143) := by
  unfold loF hiF
  constructor
  · intro h; split at h <;> split at h <;> (try split at h) <;> (try split at h) <;> omega
  · intro h; split <;> split <;> (try split) <;> (try split) <;> omega

set_option maxHeartbeats 4000000 in
theorem refN_eq (n b0 b1 b2 b3 : Nat) (_h0 : b0 < 256) (h1 : b1 < 256) (h2 : b2 < 256) (h3 : b3 < 256) : refN n b0 b1 b2 b3 = Lib.decodeN n b0 b1 b2 b3 := by
  unfold refN Lib.decodeN
  by_cases a : b0 < 128
  · rw [if_pos a, if_pos a]
  rw [if_neg a, if_neg a]
  by_cases c2 : b0 / 32 = 6 ∧ (1 < n ∧ b1 / 64 = 2)
  · rw [if_pos c2]
    by_cases d : 194 ≤ b0
    · rw [if_pos (by omega), if_pos (by omega)]
    · rw [if_neg (by omega), if_neg (by omega), if_neg (by omega), if_neg (by omega)]
  rw [if_neg c2, if_neg (by omega)]
  by_cases c3 : b0 / 16 = 14 ∧ (1 < n ∧ b1 / 64 = 2) ∧ (2 < n ∧ b2 / 64 = 2)
  · rw [if_pos c3]
    have e := lo_hi b0 b1 (by omega)
    by_cases d : loF b0 ≤ b1 ∧ b1 ≤ hiF b0
    · have d' := e.1 d
      rw [if_pos (by omega), if_pos (by omega)]
    · have d' := fun x => d (e.2 x)
      rw [if_neg (by omega), if_neg (by omega), if_neg (by omega)]
  rw [if_neg c3]
  by_cases r : 224 ≤ b0 ∧ b0 ≤ 244
  · have e := lo_hi b0 b1 r
    rw [if_neg (by omega)]
    by_cases c4 : b0 / 8 = 30 ∧ (1 < n ∧ b1 / 64 = 2) ∧ (2 < n ∧ b2 / 64 = 2) ∧ (3 < n ∧ b3 / 64 = 2)
    · rw [if_pos c4]
      by_cases d : loF b0 ≤ b1 ∧ b1 ≤ hiF b0
      · have d' := e.1 d
        rw [if_pos (by omega), if_pos (by omega)]
      · have d' := fun x => d (e.2 x)
        rw [if_neg (by omega), if_neg (by omega)]
    · rw [if_neg c4, if_neg (by omega)]
  · rw [if_neg (by omega), if_neg (by omega)]
    by_cases c4 : b0 / 8 = 30 ∧ (1 < n ∧ b1 / 64 = 2) ∧ (2 < n ∧ b2 / 64 = 2) ∧ (3 < n ∧ b3 / 64 = 2)
    · rw [if_pos c4, if_neg (by omega)]
    · rw [if_neg c4]

theorem decN_width (n b0 b1 b2 b3 : Nat) (h : 1 ≤ n) : 1 ≤ (Lib.decodeN n b0 b1 b2 b3).2 ∧ (Lib.decodeN n b0 b1 b2 b3).2 ≤ n ∧ (Lib.decodeN n b0 b1 b2 b3).2 ≤ 4 := by
  unfold Lib.decodeN
  repeat' split
  all_goals (simp only []; omega)
theorem decN_rune (n b0 b1 b2 b3 : Nat) : (Lib.decodeN n b0 b1 b2 b3).1 ≤ 1114111 := by
  unfold Lib.decodeN
  repeat' split
  all_goals (simp only []; omega)
theorem dec_width (s : ByteArray) (i : Nat) (h : i < s.size) : 1 ≤ (Utf8.decode s i).2 ∧ i + (Utf8.decode s i).2 ≤ s.size ∧ (Utf8.decode s i).2 ≤ 4 := by
  rw [Lib.decode_at]
  have := decN_width (s.size - i) (s.get! i).toNat (s.get! (i + 1)).toNat (s.get! (i + 2)).toNat (s.get! (i + 3)).toNat (by omega)
  omega
theorem dec_rune (s : ByteArray) (i : Nat) : (Utf8.decode s i).1 ≤ 1114111 := by rw [Lib.decode_at]; exact decN_rune ..
/-- the runes of a text from a place on, each with how many bytes it has -/
def rs (s : ByteArray) : Nat → Nat → List (Nat × Nat)
  | 0, _ => []
  | f + 1, i => if i < s.size then Utf8.decode s i :: rs s f (i + (Utf8.decode s i).2) else []
theorem rs_two (s : ByteArray) : ∀ f g i, s.size - i ≤ f → s.size - i ≤ g → rs s f i = rs s g i := by
  intro f
  induction f with
  | zero =>
    intro g i h _
    cases g with
    | zero => rfl
    | succ g => simp [rs, show ¬ i < s.size by omega]
  | succ f ih =>
    intro g i h hg
    by_cases hi : i < s.size
    · have hw := dec_width s i hi
      obtain ⟨k, rfl⟩ : ∃ k, g = k + 1 := ⟨g - 1, by omega⟩
      simp only [rs, if_pos hi]
      rw [ih k _ (by omega) (by omega)]
    · cases g with
      | zero => simp [rs, hi]
      | succ g => simp [rs, hi]
/-- all from a place on -/
def rest (s : ByteArray) (i : Nat) : List (Nat × Nat) := rs s s.size i
/-- a text's runes -/
def runes (s : ByteArray) : List (Nat × Nat) := rest s 0
theorem rest_cons (s : ByteArray) (i : Nat) (h : i < s.size) : rest s i = Utf8.decode s i :: rest s (i + (Utf8.decode s i).2) := by
  unfold rest
  have hw := dec_width s i h
  rw [rs_two s s.size (s.size - 1 + 1) i (by omega) (by omega)]
  simp only [rs, if_pos h]
  rw [rs_two s (s.size - 1) s.size _ (by omega) (by omega)]
theorem rest_end (s : ByteArray) (i : Nat) (h : s.size ≤ i) : rest s i = [] := by
  unfold rest
  cases hz : s.size with
  | zero => rfl
  | succ n => simp [rs, show ¬ i < s.size by omega]
theorem rest_length (s : ByteArray) (i : Nat) : (rest s i).length ≤ s.size - i := by
  unfold rest
  have : ∀ f i, (rs s f i).length ≤ s.size - i := by
    intro f
    induction f with
    | zero => intro i; simp [rs]
    | succ f ih =>
      intro i
      by_cases hi : i < s.size
      · have hw := dec_width s i hi
        have := ih (i + (Utf8.decode s i).2)
        simp only [rs, if_pos hi, List.length_cons]; omega
      · simp [rs, hi]
  exact this _ _
theorem runes_length (s : ByteArray) : (runes s).length ≤ s.size := by have := rest_length s 0; unfold runes; omega
/-- how many bytes some runes have -/
def width (l : List (Nat × Nat)) : Nat := (l.map (·.2)).sum
theorem width_nil : width [] = 0 := rfl
theorem width_append (l m : List (Nat × Nat)) : width (l ++ m) = width l + width m := by simp [width]
theorem width_one (x : Nat × Nat) : width [x] = x.2 := by simp [width]
end RuneM
/-
  Lists of runes: how they begin alike, how they stand to one another, how many bytes they have. Nothing of the program.
-/
set_option linter.unusedVariables false
set_option linter.unusedSimpArgs false
namespace RuneM
open Go
theorem width_take_succ (l : List (Nat × Nat)) (k : Nat) (h : k < l.length) : width (l.take (k + 1)) = width (l.take k) + l[k].2 := by
  rw [List.take_succ_eq_append_getElem h, width_append, width_one]
theorem rest_width (s : ByteArray) (i : Nat) (h : i ≤ s.size) : width (rest s i) = s.size - i := by
  have : ∀ n i, s.size - i ≤ n → i ≤ s.size → width (rest s i) = s.size - i := by
    intro n
    induction n with
    | zero => intro i h1 h2; rw [rest_end s i (by omega), width_nil]; omega
    | succ n ih =>
      intro i h1 h2
      by_cases hi : i < s.size
      · have hw := dec_width s i hi
        rw [rest_cons s i hi, show Utf8.decode s i :: rest s (i + (Utf8.decode s i).2) = [Utf8.decode s i] ++ rest s (i + (Utf8.decode s i).2) from rfl, width_append, width_one, ih _ (by omega) (by omega)]
        omega
      · rw [rest_end s i (by omega), width_nil]; omega
  exact this _ i (Nat.le_refl _) h
theorem runes_width (s : ByteArray) : width (runes s) = s.size := by unfold runes; rw [rest_width s 0 (Nat.zero_le _)]; omega
theorem width_take_le (l : List (Nat × Nat)) (k : Nat) : width (l.take k) ≤ width l := by
  have : width l = width (l.take k) + width (l.drop k) := by rw [← width_append, List.take_append_drop]
  omega
/-- the runes' numbers -/
def nums (s : ByteArray) : List Nat := (runes s).map (·.1)
theorem nums_length (s : ByteArray) : (nums s).length = (runes s).length := by simp [nums]
/-- how many two lists begin with alike -/
def common : List Nat → List Nat → Nat
  | a :: x, b :: y => if a = b then common x y + 1 else 0
  | _, _ => 0
theorem common_nil_left (y : List Nat) : common [] y = 0 := by cases y <;> rfl
theorem common_nil_right (x : List Nat) : common x [] = 0 := by cases x <;> rfl
theorem common_le (x y : List Nat) : common x y ≤ x.length ∧ common x y ≤ y.length := by
  induction x generalizing y with
  | nil => simp [common_nil_left]
  | cons a x ih =>
    cases y with
    | nil => simp [common]
    | cons b y =>
      have := ih y
      simp only [common, List.length_cons]
      split <;> omega
/-- how two lists stand to one another -/
def cmpL : List Nat → List Nat → Int
  | [], [] => 0
  | [], _ :: _ => -1
  | _ :: _, [] => 1
  | a :: x, b :: y => if a = b then cmpL x y else if a < b then -1 else 1
theorem cmpL_common (x y : List Nat) : cmpL x y = if common x y = x.length then (if common x y = y.length then 0 else -1) else if common x y = y.length then 1 else if x.getD (common x y) 0 < y.getD (common x y) 0 then -1 else 1 := by
  induction x generalizing y with
  | nil => cases y <;> simp [cmpL, common]
  | cons a x ih =>
    cases y with
    | nil => simp [cmpL, common]
    | cons b y =>
      by_cases h : a = b
      · have hc : common (a :: x) (b :: y) = common x y + 1 := by simp [common, h]
        simp only [hc, cmpL, if_pos h, ih, List.length_cons, Nat.add_right_cancel_iff, List.getD_cons_succ]
      · have hc : common (a :: x) (b :: y) = 0 := by simp [common, h]
        simp only [hc, cmpL, if_neg h]; simp
theorem common_step {x y : List Nat} {k : Nat} (hx : k < x.length) (hy : k < y.length) : common (x.drop k) (y.drop k) = if x[k] = y[k] then common (x.drop (k + 1)) (y.drop (k + 1)) + 1 else 0 := by
  rw [List.drop_eq_getElem_cons hx, List.drop_eq_getElem_cons hy]; rfl
end RuneM
/-
  Runes of beginnings of a text, and of texts one behind the other; the order of runes. Nothing of the program.
-/
set_option linter.unusedVariables false
set_option linter.unusedSimpArgs false
namespace RuneM
open Go

def bA (s : ByteArray) (i : Nat) : Nat := (s.get! i).toNat
theorem bA_lt (s : ByteArray) (i : Nat) : bA s i < 256 := (s.get! i).toNat_lt
theorem dec_refB (s : ByteArray) (i : Nat) : Utf8.decode s i = refN (s.size - i) (bA s i) (bA s (i + 1)) (bA s (i + 2)) (bA s (i + 3)) := by
  rw [refN_eq _ _ _ _ _ (bA_lt s i) (bA_lt s _) (bA_lt s _) (bA_lt s _), Lib.decode_at]; rfl
theorem bA_get (s : ByteArray) (i : Nat) (h : i < s.size) : s.get! i = s[i] := by
  rw [ByteArray.get!, ByteArray.getElem_eq_getElem_data]
  exact getElem!_pos s.data i h
theorem bA_data (s : ByteArray) (i : Nat) (h : i < s.size) : bA s i = (s.data.toList[i]'(by simpa using h)).toNat := by
  unfold bA; rw [bA_get s i h]; rfl

/-- what fewer bytes tell: as long as all of the rune is there, the same -/
theorem refN_less (n m b0 b1 b2 b3 c1 c2 c3 : Nat) (hm : m ≤ n) (h1 : 1 < m → c1 = b1) (h2 : 2 < m → c2 = b2) (h3 : 3 < m → c3 = b3) (hw : (refN n b0 b1 b2 b3).2 ≤ m) :
    refN m b0 c1 c2 c3 = refN n b0 b1 b2 b3 := by
  unfold refN at hw ⊢
  by_cases a : b0 < 128
  · rw [if_pos a, if_pos a]
  rw [if_neg a] at hw
  rw [if_neg a, if_neg a]
  by_cases t2 : 194 ≤ b0 ∧ b0 ≤ 223 ∧ (1 < n ∧ 128 ≤ b1 ∧ b1 ≤ 191)
  · rw [if_pos t2] at hw
    have e1 := h1 (by omega)
    subst e1
    rw [if_pos t2, if_pos (by omega)]
  rw [if_neg t2] at hw
  rw [if_neg t2, if_neg (by intro x; have := h1 x.2.2.1; subst this; omega)]
  by_cases t3 : 224 ≤ b0 ∧ b0 ≤ 239 ∧ (1 < n ∧ loF b0 ≤ b1 ∧ b1 ≤ hiF b0) ∧ (2 < n ∧ 128 ≤ b2 ∧ b2 ≤ 191)
  · rw [if_pos t3] at hw
    have e1 := h1 (by omega)
    have e2 := h2 (by omega)
    subst e1 e2
    rw [if_pos t3, if_pos (by omega)]
  rw [if_neg t3] at hw
  rw [if_neg t3, if_neg (by intro x; have := h1 x.2.2.1.1; have := h2 x.2.2.2.1; subst_vars; omega)]
  by_cases t4 : 240 ≤ b0 ∧ b0 ≤ 244 ∧ (1 < n ∧ loF b0 ≤ b1 ∧ b1 ≤ hiF b0) ∧ (2 < n ∧ 128 ≤ b2 ∧ b2 ≤ 191) ∧ (3 < n ∧ 128 ≤ b3 ∧ b3 ≤ 191)
  · rw [if_pos t4] at hw
    have e1 := h1 (by omega)
    have e2 := h2 (by omega)
    have e3 := h3 (by omega)
    subst e1 e2 e3
    rw [if_pos t4, if_pos (by omega)]
  · rw [if_neg t4, if_neg (by intro x; have := h1 x.2.2.1.1; have := h2 x.2.2.2.1.1; have := h3 x.2.2.2.2.1; subst_vars; omega)]

theorem bA_extract (s : ByteArray) (j i : Nat) (h : i < j) (hj : j ≤ s.size) : bA (s.extract 0 j) i = bA s i := by
  rw [bA_data s i (by omega), bA_data _ i (by simp; omega)]
  congr 1
  simp
theorem dec_extract (s : ByteArray) (i j : Nat) (hi : i < s.size) (hj : j ≤ s.size) (hw : i + (Utf8.decode s i).2 ≤ j) : Utf8.decode (s.extract 0 j) i = Utf8.decode s i := by
  have hw0 := dec_width s i hi
  rw [dec_refB s i] at hw hw0 ⊢
  rw [dec_refB]
  have hz : (s.extract 0 j).size = j := by simp; omega
  rw [hz, bA_extract s j i (by omega) hj]
  exact refN_less _ _ _ _ _ _ _ _ _ (by omega) (fun h => bA_extract s j _ (by omega) hj) (fun h => bA_extract s j _ (by omega) hj) (fun h => bA_extract s j _ (by omega) hj) (by omega)

/-- the runes of a beginning that ends where a rune ends -/
theorem rest_extract (s : ByteArray) (n : Nat) : ∀ i k, k = (rest s i).length → i ≤ s.size → rest (s.extract 0 (i + width ((rest s i).take n))) i = (rest s i).take n := by
  induction n with
  | zero =>
    intro i k _ hi
    rw [List.take_zero, width_nil, Nat.add_zero]
    exact rest_end _ _ (by simp; omega)
  | succ n ih =>
    intro i k _ hi
    by_cases h : i < s.size
    · have hw := dec_width s i h
      have hc := rest_cons s i h
      have hih := ih (i + (Utf8.decode s i).2) _ rfl (by omega)
      rw [hc, List.take_succ_cons]
      have ew : width (Utf8.decode s i :: (rest s (i + (Utf8.decode s i).2)).take n) = (Utf8.decode s i).2 + width ((rest s (i + (Utf8.decode s i).2)).take n) := by
        rw [show Utf8.decode s i :: (rest s (i + (Utf8.decode s i).2)).take n = [Utf8.decode s i] ++ (rest s (i + (Utf8.decode s i).2)).take n from rfl, width_append, width_one]
      rw [ew, ← Nat.add_assoc]
      have hle : width ((rest s (i + (Utf8.decode s i).2)).take n) ≤ s.size - (i + (Utf8.decode s i).2) := by
        have := width_take_le (rest s (i + (Utf8.decode s i).2)) n
        rw [rest_width s _ (by omega)] at this; exact this
      have hsz : (s.extract 0 (i + (Utf8.decode s i).2 + width ((rest s (i + (Utf8.decode s i).2)).take n))).size = i + (Utf8.decode s i).2 + width ((rest s (i + (Utf8.decode s i).2)).take n) := by simp; omega
      rw [rest_cons _ i (by omega), dec_extract s i _ h (by omega) (by omega), hih]
    · rw [rest_end s i (by omega), List.take_nil, width_nil, Nat.add_zero]
      exact rest_end _ _ (by simp; omega)
theorem runes_extract (s : ByteArray) (n : Nat) : runes (s.extract 0 (width ((runes s).take n))) = (runes s).take n := by
  have := rest_extract s n 0 _ rfl (Nat.zero_le _)
  rw [Nat.zero_add] at this; exact this

theorem common_comm (x y : List Nat) : common x y = common y x := by
  induction x generalizing y with
  | nil => simp [common_nil_left, common_nil_right]
  | cons a x ih =>
    cases y with
    | nil => rfl
    | cons b y =>
      simp only [common]
      by_cases h : a = b
      · rw [if_pos h, if_pos h.symm, ih]
      · rw [if_neg h, if_neg (fun e => h e.symm)]
theorem cmpL_swap (x y : List Nat) : cmpL y x = - cmpL x y := by
  induction x generalizing y with
  | nil => cases y <;> simp [cmpL]
  | cons a x ih =>
    cases y with
    | nil => simp [cmpL]
    | cons b y =>
      simp only [cmpL]
      by_cases h : a = b
      · rw [if_pos h, if_pos h.symm, ih]
      · rw [if_neg h, if_neg (fun e => h e.symm)]
        by_cases g : a < b
        · rw [if_pos g, if_neg (by omega)]; rfl
        · rw [if_neg g, if_pos (by omega)]
theorem cmpL_self (x : List Nat) : cmpL x x = 0 := by
  induction x with
  | nil => rfl
  | cons a x ih => simp [cmpL, ih]
theorem cmpL_three' (x y : List Nat) : cmpL x y = -1 ∨ cmpL x y = 0 ∨ cmpL x y = 1 := by
  rw [cmpL_common]; repeat' split
  all_goals simp
theorem cmpL_zero {x y : List Nat} (h : cmpL x y = 0) : x = y := by
  induction x generalizing y with
  | nil => cases y with
    | nil => rfl
    | cons _ _ => simp [cmpL] at h
  | cons a x ih =>
    cases y with
    | nil => simp [cmpL] at h
    | cons b y =>
      simp only [cmpL] at h
      by_cases e : a = b
      · rw [if_pos e] at h; rw [e, ih h]
      · rw [if_neg e] at h; split at h <;> omega
theorem cmpL_trans {x y z : List Nat} (h1 : cmpL x y ≤ 0) (h2 : cmpL y z ≤ 0) : cmpL x z ≤ 0 ∧ min (common x y) (common y z) ≤ common x z := by
  induction x generalizing y z with
  | nil => cases z <;> simp [cmpL, common_nil_left]
  | cons a x ih =>
    cases y with
    | nil => simp [cmpL] at h1
    | cons b y =>
      cases z with
      | nil => simp [cmpL] at h2
      | cons c z =>
        simp only [cmpL] at h1 h2 ⊢
        simp only [common]
        by_cases e1 : a = b
        · rw [if_pos e1] at h1
          by_cases e2 : b = c
          · rw [if_pos e2] at h2
            have := ih h1 h2
            rw [if_pos (e1.trans e2), if_pos e1, if_pos e2, if_pos (e1.trans e2)]
            omega
          · rw [if_neg e2] at h2
            have g2 : b < c := by by_cases g : b < c; exact g; rw [if_neg g] at h2; omega
            rw [if_neg (by omega), if_pos (by omega), if_neg e2]
            omega
        · rw [if_neg e1] at h1
          have g1 : a < b := by by_cases g : a < b; exact g; rw [if_neg g] at h1; omega
          by_cases e2 : b = c
          · rw [if_neg (by omega), if_pos (by omega), if_neg e1]; omega
          · rw [if_neg e2] at h2
            have g2 : b < c := by by_cases g : b < c; exact g; rw [if_neg g] at h2; omega
            rw [if_neg (by omega), if_pos (by omega), if_neg e1]; omega
theorem cmpL_take (x : List Nat) (n : Nat) : cmpL (x.take n) x ≤ 0 := by
  induction x generalizing n with
  | nil => simp [cmpL]
  | cons a x ih =>
    cases n with
    | zero => simp [cmpL]
    | succ n => simp only [List.take_succ_cons, cmpL, if_true]; exact ih n

/-- a rune that stands there as UTF-8 -/
def whole (x : Nat × Nat) : Prop := ¬ (x.1 = 65533 ∧ x.2 = 1)
/-- more bytes behind a whole rune tell the same -/
theorem refN_more (n m b0 b1 b2 b3 c1 c2 c3 : Nat) (hm : m ≤ n) (h1 : 1 < m → c1 = b1) (h2 : 2 < m → c2 = b2) (h3 : 3 < m → c3 = b3) (hw : whole (refN m b0 c1 c2 c3)) :
    refN n b0 b1 b2 b3 = refN m b0 c1 c2 c3 := by
  unfold refN at hw ⊢
  by_cases a : b0 < 128
  · rw [if_pos a, if_pos a]
  rw [if_neg a] at hw
  rw [if_neg a, if_neg a]
  by_cases t2 : 194 ≤ b0 ∧ b0 ≤ 223 ∧ (1 < m ∧ 128 ≤ c1 ∧ c1 ≤ 191)
  · have e1 := h1 t2.2.2.1
    subst e1
    rw [if_pos t2, if_pos (by omega)]
  rw [if_neg t2] at hw
  rw [if_neg t2]
  by_cases t3 : 224 ≤ b0 ∧ b0 ≤ 239 ∧ (1 < m ∧ loF b0 ≤ c1 ∧ c1 ≤ hiF b0) ∧ (2 < m ∧ 128 ≤ c2 ∧ c2 ≤ 191)
  · have e1 := h1 t3.2.2.1.1
    have e2 := h2 t3.2.2.2.1
    subst e1 e2
    rw [if_pos t3, if_neg (by omega), if_pos (by omega)]
  rw [if_neg t3] at hw
  rw [if_neg t3]
  by_cases t4 : 240 ≤ b0 ∧ b0 ≤ 244 ∧ (1 < m ∧ loF b0 ≤ c1 ∧ c1 ≤ hiF b0) ∧ (2 < m ∧ 128 ≤ c2 ∧ c2 ≤ 191) ∧ (3 < m ∧ 128 ≤ c3 ∧ c3 ≤ 191)
  · have e1 := h1 t4.2.2.1.1
    have e2 := h2 t4.2.2.2.1.1
    have e3 := h3 t4.2.2.2.2.1
    subst e1 e2 e3
    rw [if_pos t4, if_neg (by omega), if_neg (by omega), if_pos (by omega)]
  · rw [if_neg t4] at hw
    exact absurd ⟨rfl, rfl⟩ hw
theorem bA_left (a b : ByteArray) (i : Nat) (h : i < a.size) : bA (a ++ b) i = bA a i := by
  rw [bA_data a i h, bA_data _ i (by simp; omega)]
  congr 1
  have e : (a ++ b).data.toList = a.data.toList ++ b.data.toList := by simp [ByteArray.data_append]
  simp only [e]
  rw [List.getElem_append_left (by simpa using h)]
theorem bA_right (a b : ByteArray) (i : Nat) (h : i < b.size) : bA (a ++ b) (a.size + i) = bA b i := by
  rw [bA_data b i h, bA_data _ _ (by simp; omega)]
  congr 1
  have e : (a ++ b).data.toList = a.data.toList ++ b.data.toList := by simp [ByteArray.data_append]
  simp only [e]
  rw [List.getElem_append_right (by simp)]
  simp
theorem dec_left (a b : ByteArray) (i : Nat) (h : i < a.size) (hw : whole (Utf8.decode a i)) : Utf8.decode (a ++ b) i = Utf8.decode a i := by
  rw [dec_refB a i] at hw ⊢
  rw [dec_refB, bA_left a b i h]
  exact refN_more _ _ _ _ _ _ _ _ _ (by simp; omega) (fun h1 => (bA_left a b _ (by omega)).symm) (fun h1 => (bA_left a b _ (by omega)).symm) (fun h1 => (bA_left a b _ (by omega)).symm) hw
theorem dec_right (a b : ByteArray) (i : Nat) (h : i < b.size) : Utf8.decode (a ++ b) (a.size + i) = Utf8.decode b i := by
  have hw := dec_width b i h
  rw [dec_refB b i] at hw ⊢
  rw [dec_refB, bA_right a b i h]
  have hz : (a ++ b).size - (a.size + i) = b.size - i := by simp; omega
  rw [hz]
  exact refN_less _ _ _ _ _ _ _ _ _ (Nat.le_refl _) (fun h1 => by rw [Nat.add_assoc]; exact bA_right a b _ (by omega)) (fun h1 => by rw [Nat.add_assoc]; exact bA_right a b _ (by omega)) (fun h1 => by rw [Nat.add_assoc]; exact bA_right a b _ (by omega)) (by omega)
theorem rest_right (a b : ByteArray) : ∀ n i, b.size - i ≤ n → i ≤ b.size → rest (a ++ b) (a.size + i) = rest b i := by
  intro n
  induction n with
  | zero => intro i h1 h2; rw [rest_end b i (by omega), rest_end _ _ (by simp; omega)]
  | succ n ih =>
    intro i h1 h2
    by_cases hi : i < b.size
    · have hw := dec_width b i hi
      rw [rest_cons b i hi, rest_cons _ _ (by simp; omega), dec_right a b i hi, Nat.add_assoc, ih _ (by omega) (by omega)]
    · rw [rest_end b i (by omega), rest_end _ _ (by simp; omega)]
theorem rest_left (a b : ByteArray) : ∀ n i, a.size - i ≤ n → i ≤ a.size → (∀ x ∈ rest a i, whole x) → rest (a ++ b) i = rest a i ++ rest (a ++ b) a.size := by
  intro n
  induction n with
  | zero =>
    intro i h1 h2 _
    have : i = a.size := by omega
    subst this
    rw [rest_end a _ (Nat.le_refl _)]; rfl
  | succ n ih =>
    intro i h1 h2 hall
    by_cases hi : i < a.size
    · have hw := dec_width a i hi
      have hc := rest_cons a i hi
      rw [hc] at hall ⊢
      rw [rest_cons (a ++ b) i (by simp; omega), dec_left a b i hi (hall _ (by simp)), ih _ (by omega) (by omega) (fun x hx => hall x (by simp [hx]))]
      rfl
    · have : i = a.size := by omega
      subst this
      rw [rest_end a _ (Nat.le_refl _)]; rfl
theorem runes_append (a b : ByteArray) (h : ∀ x ∈ runes a, whole x) : runes (a ++ b) = runes a ++ runes b := by
  unfold runes at h ⊢
  rw [rest_left a b _ 0 (Nat.le_refl _) (Nat.zero_le _) h]
  have := rest_right a b _ 0 (Nat.le_refl _) (Nat.zero_le _)
  rw [Nat.add_zero] at this
  rw [this]
end RuneM
/-
  Runes: the document's table of UTF-8 tells what the model's decoding tells. Nothing of the program.
-/
set_option linter.unusedVariables false
set_option linter.unusedSimpArgs false
namespace RuneM
open Go

def loF (b : Nat) : Nat := if b = 224 then 160 else if b = 240 then 144 else 128
def hiF (b : Nat) : Nat := if b = 237 then 159 else if b = 244 then 143 else 191
/-- the document's own table -/
def refN (n b0 b1 b2 b3 : Nat) : Nat × Nat :=
  if b0 < 128 then (b0, 1)
  else if 194 ≤ b0 ∧ b0 ≤ 223 ∧ (1 < n ∧ 128 ≤ b1 ∧ b1 ≤ 191) then (b0 % 32 * 64 + b1 % 64, 2)
  else if 224 ≤ b0 ∧ b0 ≤ 239 ∧ (1 < n ∧ loF b0 ≤ b1 ∧ b1 ≤ hiF b0) ∧ (2 < n ∧ 128 ≤ b2 ∧ b2 ≤ 191) then (b0 % 16 * 4096 + b1 % 64 * 64 + b2 % 64, 3)
  else if 240 ≤ b0 ∧ b0 ≤ 244 ∧ (1 < n ∧ loF b0 ≤ b1 ∧ b1 ≤ hiF b0) ∧ (2 < n ∧ 128 ≤ b2 ∧ b2 ≤ 191) ∧ (3 < n ∧ 128 ≤ b3 ∧ b3 ≤ 191) then (b0 % 8 * 262144 + b1 % 64 * 4096 + b2 % 64 * 64 + b3 % 64, 4)
  else (65533, 1)

theorem lo_hi (b0 b1 : Nat) (_h : 224 ≤ b0 ∧ b0 ≤ 244) : (loF b0 ≤ b1 ∧ b1 ≤ hiF b0) ↔ (128 ≤ b1 ∧ b1 ≤ 191) ∧ (b0 = 224 → 160 ≤ b1) ∧ (b0 = 240 → 144 ≤ b1) ∧ (b0 = 237 → b1 ≤ 159) ∧ (b0 = 244 → b1 ≤ 143) := by
  unfold loF hiF
  constructor
  · intro h; split at h <;> split at h <;> (try split at h) <;> (try split at h) <;> omega
  · intro h; split <;> split <;> (try split) <;> (try split) <;> omega

set_option maxHeartbeats 4000000 in
theorem refN_eq (n b0 b1 b2 b3 : Nat) (_h0 : b0 < 256) (h1 : b1 < 256) (h2 : b2 < 256) (h3 : b3 < 256) : refN n b0 b1 b2 b3 = Lib.decodeN n b0 b1 b2 b3 := by
  unfold refN Lib.decodeN
  by_cases a : b0 < 128
  · rw [if_pos a, if_pos a]
  rw [if_neg a, if_neg a]
  by_cases c2 : b0 / 32 = 6 ∧ (1 < n ∧ b1 / 64 = 2)
  · rw [if_pos c2]
    by_cases d : 194 ≤ b0
    · rw [if_pos (by omega), if_pos (by omega)]
    · rw [if_neg (by omega), if_neg (by omega), if_neg (by omega), if_neg (by omega)]
  rw [if_neg c2, if_neg (by omega)]
  by_cases c3 : b0 / 16 = 14 ∧ (1 < n ∧ b1 / 64 = 2) ∧ (2 < n ∧ b2 / 64 = 2)
  · rw [if_pos c3]
    have e := lo_hi b0 b1 (by omega)
    by_cases d : loF b0 ≤ b1 ∧ b1 ≤ hiF b0
    · have d' := e.1 d
      rw [if_pos (by omega), if_pos (by omega)]
    · have d' := fun x => d (e.2 x)
      rw [if_neg (by omega), if_neg (by omega), if_neg (by omega)]
  rw [if_neg c3]
  by_cases r : 224 ≤ b0 ∧ b0 ≤ 244
  · have e := lo_hi b0 b1 r
    rw [if_neg (by omega)]
    by_cases c4 : b0 / 8 = 30 ∧ (1 < n ∧ b1 / 64 = 2) ∧ (2 < n ∧ b2 / 64 = 2) ∧ (3 < n ∧ b3 / 64 = 2)
    · rw [if_pos c4]
      by_cases d : loF b0 ≤ b1 ∧ b1 ≤ hiF b0
      · have d' := e.1 d
        rw [if_pos (by omega), if_pos (by omega)]
      · have d' := fun x => d (e.2 x)
        rw [if_neg (by omega), if_neg (by omega)]
    · rw [if_neg c4, if_neg (by omega)]
  · rw [if_neg (by omega), if_neg (by omega)]
    by_cases c4 : b0 / 8 = 30 ∧ (1 < n ∧ b1 / 64 = 2) ∧ (2 < n ∧ b2 / 64 = 2) ∧ (3 < n ∧ b3 / 64 = 2)
    · rw [if_pos c4, if_neg (by omega)]
    · rw [if_neg c4]

theorem decN_width (n b0 b1 b2 b3 : Nat) (h : 1 ≤ n) : 1 ≤ (Lib.decodeN n b0 b1 b2 b3).2 ∧ (Lib.decodeN n b0 b1 b2 b3).2 ≤ n ∧ (Lib.decodeN n b0 b1 b2 b3).2 ≤ 4 := by
  unfold Lib.decodeN
  repeat' split
  all_goals (simp only []; omega)
theorem decN_rune (n b0 b1 b2 b3 : Nat) : (Lib.decodeN n b0 b1 b2 b3).1 ≤ 1114111 := by
  unfold Lib.decodeN
  repeat' split
  all_goals (simp only []; omega)
theorem dec_width (s : ByteArray) (i : Nat) (h : i < s.size) : 1 ≤ (Utf8.decode s i).2 ∧ i + (Utf8.decode s i).2 ≤ s.size ∧ (Utf8.decode s i).2 ≤ 4 := by
  rw [Lib.decode_at]
  have := decN_width (s.size - i) (s.get! i).toNat (s.get! (i + 1)).toNat (s.get! (i + 2)).toNat (s.get! (i + 3)).toNat (by omega)
  omega
theorem dec_rune (s : ByteArray) (i : Nat) : (Utf8.decode s i).1 ≤ 1114111 := by rw [Lib.decode_at]; exact decN_rune ..
/-- the runes of a text from a place on, each with how many bytes it has -/
def rs (s : ByteArray) : Nat → Nat → List (Nat × Nat)
  | 0, _ => []
  | f + 1, i => if i < s.size then Utf8.decode s i :: rs s f (i + (Utf8.decode s i).2) else []
theorem rs_two (s : ByteArray) : ∀ f g i, s.size - i ≤ f → s.size - i ≤ g → rs s f i = rs s g i := by
  intro f
  induction f with
  | zero =>
    intro g i h _
    cases g with
    | zero => rfl
    | succ g => simp [rs, show ¬ i < s.size by omega]
  | succ f ih =>
    intro g i h hg
    by_cases hi : i < s.size
    · have hw := dec_width s i hi
      obtain ⟨k, rfl⟩ : ∃ k, g = k + 1 := ⟨g - 1, by omega⟩
      simp only [rs, if_pos hi]
      rw [ih k _ (by omega) (by omega)]
    · cases g with
      | zero => simp [rs, hi]
      | succ g => simp [rs, hi]
/-- all from a place on -/
def rest (s : ByteArray) (i : Nat) : List (Nat × Nat) := rs s s.size i
/-- a text's runes -/
def runes (s : ByteArray) : List (Nat × Nat) := rest s 0
theorem rest_cons (s : ByteArray) (i : Nat) (h : i < s.size) : rest s i = Utf8.decode s i :: rest s (i + (Utf8.decode s i).2) := by
  unfold rest
  have hw := dec_width s i h
  rw [rs_two s s.size (s.size - 1 + 1) i (by omega) (by omega)]
  simp only [rs, if_pos h]
  rw [rs_two s (s.size - 1) s.size _ (by omega) (by omega)]
theorem rest_end (s : ByteArray) (i : Nat) (h : s.size ≤ i) : rest s i = [] := by
  unfold rest
  cases hz : s.size with
  | zero => rfl
  | succ n => simp [rs, show ¬ i < s.size by omega]
theorem rest_length (s : ByteArray) (i : Nat) : (rest s i).length ≤ s.size - i := by
  unfold rest
  have : ∀ f i, (rs s f i).length ≤ s.size - i := by
    intro f
    induction f with
    | zero => intro i; simp [rs]
    | succ f ih =>
      intro i
      by_cases hi : i < s.size
      · have hw := dec_width s i hi
        have := ih (i + (Utf8.decode s i).2)
        simp only [rs, if_pos hi, List.length_cons]; omega
      · simp [rs, hi]
  exact this _ _
theorem runes_length (s : ByteArray) : (runes s).length ≤ s.size := by have := rest_length s 0; unfold runes; omega
/-- how many bytes some runes have -/
def width (l : List (Nat × Nat)) : Nat := (l.map (·.2)).sum
theorem width_nil : width [] = 0 := rfl
theorem width_append (l m : List (Nat × Nat)) : width (l ++ m) = width l + width m := by simp [width]
theorem width_one (x : Nat × Nat) : width [x] = x.2 := by simp [width]
end RuneM
/-
  Lists of runes: how they begin alike, how they stand to one another, how many bytes they have. Nothing of the program.
-/
set_option linter.unusedVariables false
set_option linter.unusedSimpArgs false
namespace RuneM
open Go
theorem width_take_succ (l : List (Nat × Nat)) (k : Nat) (h : k < l.length) : width (l.take (k + 1)) = width (l.take k) + l[k].2 := by
  rw [List.take_succ_eq_append_getElem h, width_append, width_one]
theorem rest_width (s : ByteArray) (i : Nat) (h : i ≤ s.size) : width (rest s i) = s.size - i := by
  have : ∀ n i, s.size - i ≤ n → i ≤ s.size → width (rest s i) = s.size - i := by
    intro n
    induction n with
    | zero => intro i h1 h2; rw [rest_end s i (by omega), width_nil]; omega
    | succ n ih =>
      intro i h1 h2
      by_cases hi : i < s.size
      · have hw := dec_width s i hi
        rw [rest_cons s i hi, show Utf8.decode s i :: rest s (i + (Utf8.decode s i).2) = [Utf8.decode s i] ++ rest s (i + (Utf8.decode s i).2) from rfl, width_append, width_one, ih _ (by omega) (by omega)]
        omega
      · rw [rest_end s i (by omega), width_nil]; omega
  exact this _ i (Nat.le_refl _) h
theorem runes_width (s : ByteArray) : width (runes s) = s.size := by unfold runes; rw [rest_width s 0 (Nat.zero_le _)]; omega
theorem width_take_le (l : List (Nat × Nat)) (k : Nat) : width (l.take k) ≤ width l := by
  have : width l = width (l.take k) + width (l.drop k) := by rw [← width_append, List.take_append_drop]
  omega
/-- the runes' numbers -/
def nums (s : ByteArray) : List Nat := (runes s).map (·.1)
theorem nums_length (s : ByteArray) : (nums s).length = (runes s).length := by simp [nums]
/-- how many two lists begin with alike -/
def common : List Nat → List Nat → Nat
  | a :: x, b :: y => if a = b then common x y + 1 else 0
  | _, _ => 0
theorem common_nil_left (y : List Nat) : common [] y = 0 := by cases y <;> rfl
theorem common_nil_right (x : List Nat) : common x [] = 0 := by cases x <;> rfl
theorem common_le (x y : List Nat) : common x y ≤ x.length ∧ common x y ≤ y.length := by
  induction x generalizing y with
  | nil => simp [common_nil_left]
  | cons a x ih =>
    cases y with
    | nil => simp [common]
    | cons b y =>
      have := ih y
      simp only [common, List.length_cons]
      split <;> omega
/-- how two lists stand to one another -/
def cmpL : List Nat → List Nat → Int
  | [], [] => 0
  | [], _ :: _ => -1
  | _ :: _, [] => 1
  | a :: x, b :: y => if a = b then cmpL x y else if a < b then -1 else 1
theorem cmpL_common (x y : List Nat) : cmpL x y = if common x y = x.length then (if common x y = y.length then 0 else -1) else if common x y = y.length then 1 else if x.getD (common x y) 0 < y.getD (common x y) 0 then -1 else 1 := by
  induction x generalizing y with
  | nil => cases y <;> simp [cmpL, common]
  | cons a x ih =>
    cases y with
    | nil => simp [cmpL, common]
    | cons b y =>
      by_cases h : a = b
      · have hc : common (a :: x) (b :: y) = common x y + 1 := by simp [common, h]
        simp only [hc, cmpL, if_pos h, ih, List.length_cons, Nat.add_right_cancel_iff, List.getD_cons_succ]
      · have hc : common (a :: x) (b :: y) = 0 := by simp [common, h]
        simp only [hc, cmpL, if_neg h]; simp
theorem common_step {x y : List Nat} {k : Nat} (hx : k < x.length) (hy : k < y.length) : common (x.drop k) (y.drop k) = if x[k] = y[k] then common (x.drop (k + 1)) (y.drop (k + 1)) + 1 else 0 := by
  rw [List.drop_eq_getElem_cons hx, List.drop_eq_getElem_cons hy]; rfl
end RuneM
