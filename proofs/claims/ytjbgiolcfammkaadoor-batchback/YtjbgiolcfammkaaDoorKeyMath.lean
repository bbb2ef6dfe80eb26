/-
  Lists of runes: how they begin alike, how they stand to one another, how many bytes they have. Nothing of the program.
-/
import Derived.Test.YtjbgiolcfammkaaDoorRuneMath
namespace RuneM
open Go
theorem width_take_succ (l : List (Nat × Nat)) (k : Nat) (h : k < l.length) : width (l.take (k + 1)) = width (l.take k) + l[k].2 := by
  rw [List.take_succ_eq_append_getElem h, width_append, width_one]
theorem rest_width (s : ByteArray) (i : Nat) (h : i ≤ s.size) : width (rest s i) = s.size - i := by
  have : ∀ n i, s.size - i ≤ n → i ≤ s.size → width (rest s i) = s.size - i := by
    intro n
    induction n with
    | zero => intro i h1 h2; rw [rest_end s i (by omega), width_nil]; omega
    | succ n ih =>
      intro i h1 h2
      by_cases hi : i < s.size
      · have hw := dec_width s i hi
        rw [rest_cons s i hi, show Utf8.decode s i :: rest s (i + (Utf8.decode s i).2) = [Utf8.decode s i] ++ rest s (i + (Utf8.decode s i).2) from rfl, width_append, width_one, ih _ (by omega) (by omega)]
        omega
      · rw [rest_end s i (by omega), width_nil]; omega
  exact this _ i (Nat.le_refl _) h
theorem runes_width (s : ByteArray) : width (runes s) = s.size := by unfold runes; rw [rest_width s 0 (Nat.zero_le _)]; omega
theorem width_take_le (l : List (Nat × Nat)) (k : Nat) : width (l.take k) ≤ width l := by
  have : width l = width (l.take k) + width (l.drop k) := by rw [← width_append, List.take_append_drop]
  omega
/-- the runes' numbers -/
def nums (s : ByteArray) : List Nat := (runes s).map (·.1)
theorem nums_length (s : ByteArray) : (nums s).length = (runes s).length := by simp [nums]
/-- how many two lists begin with alike -/
def common : List Nat → List Nat → Nat
  | a :: x, b :: y => if a = b then common x y + 1 else 0
  | _, _ => 0
theorem common_nil_left (y : List Nat) : common [] y = 0 := by cases y <;> rfl
theorem common_nil_right (x : List Nat) : common x [] = 0 := by cases x <;> rfl
theorem common_le (x y : List Nat) : common x y ≤ x.length ∧ common x y ≤ y.length := by
  induction x generalizing y with
  | nil => simp [common_nil_left]
  | cons a x ih =>
    cases y with
    | nil => simp [common]
    | cons b y =>
      have := ih y
      simp only [common, List.length_cons]
      split <;> omega
/-- how two lists stand to one another -/
def cmpL : List Nat → List Nat → Int
  | [], [] => 0
  | [], _ :: _ => -1
  | _ :: _, [] => 1
  | a :: x, b :: y => if a = b then cmpL x y else if a < b then -1 else 1
theorem cmpL_common (x y : List Nat) : cmpL x y = if common x y = x.length then (if common x y = y.length then 0 else -1) else if common x y = y.length then 1 else if x.getD (common x y) 0 < y.getD (common x y) 0 then -1 else 1 := by
  induction x generalizing y with
  | nil => cases y <;> simp [cmpL, common]
  | cons a x ih =>
    cases y with
    | nil => simp [cmpL, common]
    | cons b y =>
      by_cases h : a = b
      · have hc : common (a :: x) (b :: y) = common x y + 1 := by simp [common, h]
        simp only [hc, cmpL, if_pos h, ih, List.length_cons, Nat.add_right_cancel_iff, List.getD_cons_succ]
      · have hc : common (a :: x) (b :: y) = 0 := by simp [common, h]
        simp only [hc, cmpL, if_neg h]; simp
theorem common_step {x y : List Nat} {k : Nat} (hx : k < x.length) (hy : k < y.length) : common (x.drop k) (y.drop k) = if x[k] = y[k] then common (x.drop (k + 1)) (y.drop (k + 1)) + 1 else 0 := by
  rw [List.drop_eq_getElem_cons hx, List.drop_eq_getElem_cons hy]; rfl
end RuneM
