/-
  Runes of beginnings of a text, and of texts one behind the other; the order of runes. Nothing of the program.
-/
import Derived.Test.YtligapgjdpdihaaDoorRunRunRunRuneMath
set_option linter.unusedVariables false
set_option linter.unusedSimpArgs false
namespace RuneM
open Go

def bA (s : ByteArray) (i : Nat) : Nat := (s.get! i).toNat
theorem bA_lt (s : ByteArray) (i : Nat) : bA s i < 256 := (s.get! i).toNat_lt
theorem dec_refB (s : ByteArray) (i : Nat) : Utf8.decode s i = refN (s.size - i) (bA s i) (bA s (i + 1)) (bA s (i + 2)) (bA s (i + 3)) := by
  rw [refN_eq _ _ _ _ _ (bA_lt s i) (bA_lt s _) (bA_lt s _) (bA_lt s _), Lib.decode_at]; rfl
theorem bA_get (s : ByteArray) (i : Nat) (h : i < s.size) : s.get! i = s[i] := by
  rw [ByteArray.get!, ByteArray.getElem_eq_getElem_data]
  exact getElem!_pos s.data i h
theorem bA_data (s : ByteArray) (i : Nat) (h : i < s.size) : bA s i = (s.data.toList[i]'(by simpa using h)).toNat := by
  unfold bA; rw [bA_get s i h]; rfl

/-- what fewer bytes tell: as long as all of the rune is there, the same -/
theorem refN_less (n m b0 b1 b2 b3 c1 c2 c3 : Nat) (hm : m ≤ n) (h1 : 1 < m → c1 = b1) (h2 : 2 < m → c2 = b2) (h3 : 3 < m → c3 = b3) (hw : (refN n b0 b1 b2 b3).2 ≤ m) :
    refN m b0 c1 c2 c3 = refN n b0 b1 b2 b3 := by
  unfold refN at hw ⊢
  by_cases a : b0 < 128
  · rw [if_pos a, if_pos a]
  rw [if_neg a] at hw
  rw [if_neg a, if_neg a]
  by_cases t2 : 194 ≤ b0 ∧ b0 ≤ 223 ∧ (1 < n ∧ 128 ≤ b1 ∧ b1 ≤ 191)
  · rw [if_pos t2] at hw
    have e1 := h1 (by omega)
    subst e1
    rw [if_pos t2, if_pos (by omega)]
  rw [if_neg t2] at hw
  rw [if_neg t2, if_neg (by intro x; have := h1 x.2.2.1; subst this; omega)]
  by_cases t3 : 224 ≤ b0 ∧ b0 ≤ 239 ∧ (1 < n ∧ loF b0 ≤ b1 ∧ b1 ≤ hiF b0) ∧ (2 < n ∧ 128 ≤ b2 ∧ b2 ≤ 191)
  · rw [if_pos t3] at hw
    have e1 := h1 (by omega)
    have e2 := h2 (by omega)
    subst e1 e2
    rw [if_pos t3, if_pos (by omega)]
  rw [if_neg t3] at hw
  rw [if_neg t3, if_neg (by intro x; have := h1 x.2.2.1.1; have := h2 x.2.2.2.1; subst_vars; omega)]
  by_cases t4 : 240 ≤ b0 ∧ b0 ≤ 244 ∧ (1 < n ∧ loF b0 ≤ b1 ∧ b1 ≤ hiF b0) ∧ (2 < n ∧ 128 ≤ b2 ∧ b2 ≤ 191) ∧ (3 < n ∧ 128 ≤ b3 ∧ b3 ≤ 191)
  · rw [if_pos t4] at hw
    have e1 := h1 (by omega)
    have e2 := h2 (by omega)
    have e3 := h3 (by omega)
    subst e1 e2 e3
    rw [if_pos t4, if_pos (by omega)]
  · rw [if_neg t4, if_neg (by intro x; have := h1 x.2.2.1.1; have := h2 x.2.2.2.1.1; have := h3 x.2.2.2.2.1; subst_vars; omega)]

theorem bA_extract (s : ByteArray) (j i : Nat) (h : i < j) (hj : j ≤ s.size) : bA (s.extract 0 j) i = bA s i := by
  rw [bA_data s i (by omega), bA_data _ i (by simp; omega)]
  congr 1
  simp
theorem dec_extract (s : ByteArray) (i j : Nat) (hi : i < s.size) (hj : j ≤ s.size) (hw : i + (Utf8.decode s i).2 ≤ j) : Utf8.decode (s.extract 0 j) i = Utf8.decode s i := by
  have hw0 := dec_width s i hi
  rw [dec_refB s i] at hw hw0 ⊢
  rw [dec_refB]
  have hz : (s.extract 0 j).size = j := by simp; omega
  rw [hz, bA_extract s j i (by omega) hj]
  exact refN_less _ _ _ _ _ _ _ _ _ (by omega) (fun h => bA_extract s j _ (by omega) hj) (fun h => bA_extract s j _ (by omega) hj) (fun h => bA_extract s j _ (by omega) hj) (by omega)

/-- the runes of a beginning that ends where a rune ends -/
theorem rest_extract (s : ByteArray) (n : Nat) : ∀ i k, k = (rest s i).length → i ≤ s.size → rest (s.extract 0 (i + width ((rest s i).take n))) i = (rest s i).take n := by
  induction n with
  | zero =>
    intro i k _ hi
    rw [List.take_zero, width_nil, Nat.add_zero]
    exact rest_end _ _ (by simp; omega)
  | succ n ih =>
    intro i k _ hi
    by_cases h : i < s.size
    · have hw := dec_width s i h
      have hc := rest_cons s i h
      have hih := ih (i + (Utf8.decode s i).2) _ rfl (by omega)
      rw [hc, List.take_succ_cons]
      have ew : width (Utf8.decode s i :: (rest s (i + (Utf8.decode s i).2)).take n) = (Utf8.decode s i).2 + width ((rest s (i + (Utf8.decode s i).2)).take n) := by
        rw [show Utf8.decode s i :: (rest s (i + (Utf8.decode s i).2)).take n = [Utf8.decode s i] ++ (rest s (i + (Utf8.decode s i).2)).take n from rfl, width_append, width_one]
      rw [ew, ← Nat.add_assoc]
      have hle : width ((rest s (i + (Utf8.decode s i).2)).take n) ≤ s.size - (i + (Utf8.decode s i).2) := by
        have := width_take_le (rest s (i + (Utf8.decode s i).2)) n
        rw [rest_width s _ (by omega)] at this; exact this
      have hsz : (s.extract 0 (i + (Utf8.decode s i).2 + width ((rest s (i + (Utf8.decode s i).2)).take n))).size = i + (Utf8.decode s i).2 + width ((rest s (i + (Utf8.decode s i).2)).take n) := by simp; omega
      rw [rest_cons _ i (by omega), dec_extract s i _ h (by omega) (by omega), hih]
    · rw [rest_end s i (by omega), List.take_nil, width_nil, Nat.add_zero]
      exact rest_end _ _ (by simp; omega)
theorem runes_extract (s : ByteArray) (n : Nat) : runes (s.extract 0 (width ((runes s).take n))) = (runes s).take n := by
  have := rest_extract s n 0 _ rfl (Nat.zero_le _)
  rw [Nat.zero_add] at this; exact this

theorem common_comm (x y : List Nat) : common x y = common y x := by
  induction x generalizing y with
  | nil => simp [common_nil_left, common_nil_right]
  | cons a x ih =>
    cases y with
    | nil => rfl
    | cons b y =>
      simp only [common]
      by_cases h : a = b
      · rw [if_pos h, if_pos h.symm, ih]
      · rw [if_neg h, if_neg (fun e => h e.symm)]
theorem cmpL_swap (x y : List Nat) : cmpL y x = - cmpL x y := by
  induction x generalizing y with
  | nil => cases y <;> simp [cmpL]
  | cons a x ih =>
    cases y with
    | nil => simp [cmpL]
    | cons b y =>
      simp only [cmpL]
      by_cases h : a = b
      · rw [if_pos h, if_pos h.symm, ih]
      · rw [if_neg h, if_neg (fun e => h e.symm)]
        by_cases g : a < b
        · rw [if_pos g, if_neg (by omega)]; rfl
        · rw [if_neg g, if_pos (by omega)]
theorem cmpL_self (x : List Nat) : cmpL x x = 0 := by
  induction x with
  | nil => rfl
  | cons a x ih => simp [cmpL, ih]
theorem cmpL_three' (x y : List Nat) : cmpL x y = -1 ∨ cmpL x y = 0 ∨ cmpL x y = 1 := by
  rw [cmpL_common]; repeat' split
  all_goals simp
theorem cmpL_zero {x y : List Nat} (h : cmpL x y = 0) : x = y := by
  induction x generalizing y with
  | nil => cases y with
    | nil => rfl
    | cons _ _ => simp [cmpL] at h
  | cons a x ih =>
    cases y with
    | nil => simp [cmpL] at h
    | cons b y =>
      simp only [cmpL] at h
      by_cases e : a = b
      · rw [if_pos e] at h; rw [e, ih h]
      · rw [if_neg e] at h; split at h <;> omega
theorem cmpL_trans {x y z : List Nat} (h1 : cmpL x y ≤ 0) (h2 : cmpL y z ≤ 0) : cmpL x z ≤ 0 ∧ min (common x y) (common y z) ≤ common x z := by
  induction x generalizing y z with
  | nil => cases z <;> simp [cmpL, common_nil_left]
  | cons a x ih =>
    cases y with
    | nil => simp [cmpL] at h1
    | cons b y =>
      cases z with
      | nil => simp [cmpL] at h2
      | cons c z =>
        simp only [cmpL] at h1 h2 ⊢
        simp only [common]
        by_cases e1 : a = b
        · rw [if_pos e1] at h1
          by_cases e2 : b = c
          · rw [if_pos e2] at h2
            have := ih h1 h2
            rw [if_pos (e1.trans e2), if_pos e1, if_pos e2, if_pos (e1.trans e2)]
            omega
          · rw [if_neg e2] at h2
            have g2 : b < c := by by_cases g : b < c; exact g; rw [if_neg g] at h2; omega
            rw [if_neg (by omega), if_pos (by omega), if_neg e2]
            omega
        · rw [if_neg e1] at h1
          have g1 : a < b := by by_cases g : a < b; exact g; rw [if_neg g] at h1; omega
          by_cases e2 : b = c
          · rw [if_neg (by omega), if_pos (by omega), if_neg e1]; omega
          · rw [if_neg e2] at h2
            have g2 : b < c := by by_cases g : b < c; exact g; rw [if_neg g] at h2; omega
            rw [if_neg (by omega), if_pos (by omega), if_neg e1]; omega
theorem cmpL_take (x : List Nat) (n : Nat) : cmpL (x.take n) x ≤ 0 := by
  induction x generalizing n with
  | nil => simp [cmpL]
  | cons a x ih =>
    cases n with
    | zero => simp [cmpL]
    | succ n => simp only [List.take_succ_cons, cmpL, if_true]; exact ih n

/-- a rune that stands there as UTF-8 -/
def whole (x : Nat × Nat) : Prop := ¬ (x.1 = 65533 ∧ x.2 = 1)
/-- more bytes behind a whole rune tell the same -/
theorem refN_more (n m b0 b1 b2 b3 c1 c2 c3 : Nat) (hm : m ≤ n) (h1 : 1 < m → c1 = b1) (h2 : 2 < m → c2 = b2) (h3 : 3 < m → c3 = b3) (hw : whole (refN m b0 c1 c2 c3)) :
    refN n b0 b1 b2 b3 = refN m b0 c1 c2 c3 := by
  unfold refN at hw ⊢
  by_cases a : b0 < 128
  · rw [if_pos a, if_pos a]
  rw [if_neg a] at hw
  rw [if_neg a, if_neg a]
  by_cases t2 : 194 ≤ b0 ∧ b0 ≤ 223 ∧ (1 < m ∧ 128 ≤ c1 ∧ c1 ≤ 191)
  · have e1 := h1 t2.2.2.1
    subst e1
    rw [if_pos t2, if_pos (by omega)]
  rw [if_neg t2] at hw
  rw [if_neg t2]
  by_cases t3 : 224 ≤ b0 ∧ b0 ≤ 239 ∧ (1 < m ∧ loF b0 ≤ c1 ∧ c1 ≤ hiF b0) ∧ (2 < m ∧ 128 ≤ c2 ∧ c2 ≤ 191)
  · have e1 := h1 t3.2.2.1.1
    have e2 := h2 t3.2.2.2.1
    subst e1 e2
    rw [if_pos t3, if_neg (by omega), if_pos (by omega)]
  rw [if_neg t3] at hw
  rw [if_neg t3]
  by_cases t4 : 240 ≤ b0 ∧ b0 ≤ 244 ∧ (1 < m ∧ loF b0 ≤ c1 ∧ c1 ≤ hiF b0) ∧ (2 < m ∧ 128 ≤ c2 ∧ c2 ≤ 191) ∧ (3 < m ∧ 128 ≤ c3 ∧ c3 ≤ 191)
  · have e1 := h1 t4.2.2.1.1
    have e2 := h2 t4.2.2.2.1.1
    have e3 := h3 t4.2.2.2.2.1
    subst e1 e2 e3
    rw [if_pos t4, if_neg (by omega), if_neg (by omega), if_pos (by omega)]
  · rw [if_neg t4] at hw
    exact absurd ⟨rfl, rfl⟩ hw
theorem bA_left (a b : ByteArray) (i : Nat) (h : i < a.size) : bA (a ++ b) i = bA a i := by
  rw [bA_data a i h, bA_data _ i (by simp; omega)]
  congr 1
  have e : (a ++ b).data.toList = a.data.toList ++ b.data.toList := by simp [ByteArray.data_append]
  simp only [e]
  rw [List.getElem_append_left (by simpa using h)]
theorem bA_right (a b : ByteArray) (i : Nat) (h : i < b.size) : bA (a ++ b) (a.size + i) = bA b i := by
  rw [bA_data b i h, bA_data _ _ (by simp; omega)]
  congr 1
  have e : (a ++ b).data.toList = a.data.toList ++ b.data.toList := by simp [ByteArray.data_append]
  simp only [e]
  rw [List.getElem_append_right (by simp)]
  simp
theorem dec_left (a b : ByteArray) (i : Nat) (h : i < a.size) (hw : whole (Utf8.decode a i)) : Utf8.decode (a ++ b) i = Utf8.decode a i := by
  rw [dec_refB a i] at hw ⊢
  rw [dec_refB, bA_left a b i h]
  exact refN_more _ _ _ _ _ _ _ _ _ (by simp; omega) (fun h1 => (bA_left a b _ (by omega)).symm) (fun h1 => (bA_left a b _ (by omega)).symm) (fun h1 => (bA_left a b _ (by omega)).symm) hw
theorem dec_right (a b : ByteArray) (i : Nat) (h : i < b.size) : Utf8.decode (a ++ b) (a.size + i) = Utf8.decode b i := by
  have hw := dec_width b i h
  rw [dec_refB b i] at hw ⊢
  rw [dec_refB, bA_right a b i h]
  have hz : (a ++ b).size - (a.size + i) = b.size - i := by simp; omega
  rw [hz]
  exact refN_less _ _ _ _ _ _ _ _ _ (Nat.le_refl _) (fun h1 => by rw [Nat.add_assoc]; exact bA_right a b _ (by omega)) (fun h1 => by rw [Nat.add_assoc]; exact bA_right a b _ (by omega)) (fun h1 => by rw [Nat.add_assoc]; exact bA_right a b _ (by omega)) (by omega)
theorem rest_right (a b : ByteArray) : ∀ n i, b.size - i ≤ n → i ≤ b.size → rest (a ++ b) (a.size + i) = rest b i := by
  intro n
  induction n with
  | zero => intro i h1 h2; rw [rest_end b i (by omega), rest_end _ _ (by simp; omega)]
  | succ n ih =>
    intro i h1 h2
    by_cases hi : i < b.size
    · have hw := dec_width b i hi
      rw [rest_cons b i hi, rest_cons _ _ (by simp; omega), dec_right a b i hi, Nat.add_assoc, ih _ (by omega) (by omega)]
    · rw [rest_end b i (by omega), rest_end _ _ (by simp; omega)]
theorem rest_left (a b : ByteArray) : ∀ n i, a.size - i ≤ n → i ≤ a.size → (∀ x ∈ rest a i, whole x) → rest (a ++ b) i = rest a i ++ rest (a ++ b) a.size := by
  intro n
  induction n with
  | zero =>
    intro i h1 h2 _
    have : i = a.size := by omega
    subst this
    rw [rest_end a _ (Nat.le_refl _)]; rfl
  | succ n ih =>
    intro i h1 h2 hall
    by_cases hi : i < a.size
    · have hw := dec_width a i hi
      have hc := rest_cons a i hi
      rw [hc] at hall ⊢
      rw [rest_cons (a ++ b) i (by simp; omega), dec_left a b i hi (hall _ (by simp)), ih _ (by omega) (by omega) (fun x hx => hall x (by simp [hx]))]
      rfl
    · have : i = a.size := by omega
      subst this
      rw [rest_end a _ (Nat.le_refl _)]; rfl
theorem runes_append (a b : ByteArray) (h : ∀ x ∈ runes a, whole x) : runes (a ++ b) = runes a ++ runes b := by
  unfold runes at h ⊢
  rw [rest_left a b _ 0 (Nat.le_refl _) (Nat.zero_le _) h]
  have := rest_right a b _ 0 (Nat.le_refl _) (Nat.zero_le _)
  rw [Nat.add_zero] at this
  rw [this]
end RuneM
