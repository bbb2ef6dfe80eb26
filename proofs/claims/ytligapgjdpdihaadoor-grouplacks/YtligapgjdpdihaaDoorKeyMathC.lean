/-
  Of whole runes the order of runes is that of bytes. Nothing of the program.
-/
import Derived.Test.YtligapgjdpdihaaDoorRunRuneMath
import GoSem.Op.String
set_option linter.unusedVariables false
set_option linter.unusedSimpArgs false
namespace RuneM
open Go

/-- a rune's bytes -/
def encN (r : Nat) : List Nat :=
  if r < 128 then [r]
  else if r < 2048 then [192 + r / 64, 128 + r % 64]
  else if r < 65536 then [224 + r / 4096, 128 + r / 64 % 64, 128 + r % 64]
  else [240 + r / 262144, 128 + r / 4096 % 64, 128 + r / 64 % 64, 128 + r % 64]
theorem cmpL_prefix (P X Y : List Nat) : cmpL (P ++ X) (P ++ Y) = cmpL X Y := by
  induction P with
  | nil => rfl
  | cons a P ih => simp only [List.cons_append, cmpL, if_true]; exact ih
set_option maxHeartbeats 4000000 in
theorem enc_cmp (r q : Nat) (X Y : List Nat) (hr : r ≤ 1114111) (hq : q ≤ 1114111) : cmpL (encN r ++ X) (encN q ++ Y) = if r = q then cmpL X Y else if r < q then -1 else 1 := by
  by_cases e : r = q
  · subst e; rw [if_pos rfl]; exact cmpL_prefix _ _ _
  · rw [if_neg e]
    unfold encN
    by_cases a1 : r < 128
    · rw [if_pos a1]
      by_cases b1 : q < 128
      · rw [if_pos b1]; simp only [List.cons_append, List.nil_append, cmpL]; rw [if_neg e]
      rw [if_neg b1]
      rw [if_pos (show r < q by omega)]
      by_cases b2 : q < 2048
      · rw [if_pos b2]; simp only [List.cons_append, List.nil_append, cmpL]; rw [if_neg (by omega), if_pos (by omega)]
      rw [if_neg b2]
      by_cases b3 : q < 65536
      · rw [if_pos b3]; simp only [List.cons_append, List.nil_append, cmpL]; rw [if_neg (by omega), if_pos (by omega)]
      · rw [if_neg b3]; simp only [List.cons_append, List.nil_append, cmpL]; rw [if_neg (by omega), if_pos (by omega)]
    rw [if_neg a1]
    by_cases a2 : r < 2048
    · rw [if_pos a2]
      by_cases b1 : q < 128
      · rw [if_pos b1]; simp only [List.cons_append, List.nil_append, cmpL]; rw [if_neg (by omega), if_neg (by omega), if_neg (by omega)]
      rw [if_neg b1]
      by_cases b2 : q < 2048
      · rw [if_pos b2]; simp only [List.cons_append, List.nil_append, cmpL]
        by_cases c1 : 192 + r / 64 = 192 + q / 64
        · rw [if_pos c1, if_neg (by omega)]
          by_cases c2 : r < q
          · rw [if_pos c2, if_pos (by omega)]
          · rw [if_neg c2, if_neg (by omega)]
        · rw [if_neg c1]
          by_cases c2 : r < q
          · rw [if_pos c2, if_pos (by omega)]
          · rw [if_neg c2, if_neg (by omega)]
      rw [if_neg b2, if_pos (show r < q by omega)]
      by_cases b3 : q < 65536
      · rw [if_pos b3]; simp only [List.cons_append, List.nil_append, cmpL]; rw [if_neg (by omega), if_pos (by omega)]
      · rw [if_neg b3]; simp only [List.cons_append, List.nil_append, cmpL]; rw [if_neg (by omega), if_pos (by omega)]
    rw [if_neg a2]
    by_cases a3 : r < 65536
    · rw [if_pos a3]
      by_cases b1 : q < 128
      · rw [if_pos b1]; simp only [List.cons_append, List.nil_append, cmpL]; rw [if_neg (by omega), if_neg (by omega), if_neg (by omega)]
      rw [if_neg b1]
      by_cases b2 : q < 2048
      · rw [if_pos b2]; simp only [List.cons_append, List.nil_append, cmpL]; rw [if_neg (by omega), if_neg (by omega), if_neg (by omega)]
      rw [if_neg b2]
      by_cases b3 : q < 65536
      · rw [if_pos b3]; simp only [List.cons_append, List.nil_append, cmpL]
        by_cases c1 : 224 + r / 4096 = 224 + q / 4096
        · rw [if_pos c1]
          by_cases c2 : 128 + r / 64 % 64 = 128 + q / 64 % 64
          · rw [if_pos c2, if_neg (by omega)]
            by_cases c3 : r < q
            · rw [if_pos c3, if_pos (by omega)]
            · rw [if_neg c3, if_neg (by omega)]
          · rw [if_neg c2]
            by_cases c3 : r < q
            · rw [if_pos c3, if_pos (by omega)]
            · rw [if_neg c3, if_neg (by omega)]
        · rw [if_neg c1]
          by_cases c2 : r < q
          · rw [if_pos c2, if_pos (by omega)]
          · rw [if_neg c2, if_neg (by omega)]
      · rw [if_neg b3]; simp only [List.cons_append, List.nil_append, cmpL]; rw [if_neg (by omega), if_pos (by omega), if_pos (by omega)]
    rw [if_neg a3]
    by_cases b1 : q < 128
    · rw [if_pos b1]; simp only [List.cons_append, List.nil_append, cmpL]; rw [if_neg (by omega), if_neg (by omega), if_neg (by omega)]
    rw [if_neg b1]
    by_cases b2 : q < 2048
    · rw [if_pos b2]; simp only [List.cons_append, List.nil_append, cmpL]; rw [if_neg (by omega), if_neg (by omega), if_neg (by omega)]
    rw [if_neg b2]
    by_cases b3 : q < 65536
    · rw [if_pos b3]; simp only [List.cons_append, List.nil_append, cmpL]; rw [if_neg (by omega), if_neg (by omega), if_neg (by omega)]
    rw [if_neg b3]; simp only [List.cons_append, List.nil_append, cmpL]
    by_cases c1 : 240 + r / 262144 = 240 + q / 262144
    · rw [if_pos c1]
      by_cases c2 : 128 + r / 4096 % 64 = 128 + q / 4096 % 64
      · rw [if_pos c2]
        by_cases c3 : 128 + r / 64 % 64 = 128 + q / 64 % 64
        · rw [if_pos c3, if_neg (by omega)]
          by_cases c4 : r < q
          · rw [if_pos c4, if_pos (by omega)]
          · rw [if_neg c4, if_neg (by omega)]
        · rw [if_neg c3]
          by_cases c4 : r < q
          · rw [if_pos c4, if_pos (by omega)]
          · rw [if_neg c4, if_neg (by omega)]
      · rw [if_neg c2]
        by_cases c3 : r < q
        · rw [if_pos c3, if_pos (by omega)]
        · rw [if_neg c3, if_neg (by omega)]
    · rw [if_neg c1]
      by_cases c2 : r < q
      · rw [if_pos c2, if_pos (by omega)]
      · rw [if_neg c2, if_neg (by omega)]
theorem encN_ne (r : Nat) : encN r ≠ [] := by unfold encN; repeat' split
                                              all_goals simp
theorem flat_cmp (x y : List Nat) (hx : ∀ r ∈ x, r ≤ 1114111) (hy : ∀ r ∈ y, r ≤ 1114111) : cmpL (x.flatMap encN) (y.flatMap encN) = cmpL x y := by
  induction x generalizing y with
  | nil =>
    cases y with
    | nil => rfl
    | cons b y =>
      rw [List.flatMap_cons]
      cases h : encN b with
      | nil => exact absurd h (encN_ne b)
      | cons c r => rfl
  | cons a x ih =>
    cases y with
    | nil =>
      rw [List.flatMap_cons]
      cases h : encN a with
      | nil => exact absurd h (encN_ne a)
      | cons c r => rfl
    | cons b y =>
      rw [List.flatMap_cons, List.flatMap_cons, enc_cmp a b _ _ (hx a (by simp)) (hy b (by simp))]
      rw [ih y (fun r h => hx r (by simp [h])) (fun r h => hy r (by simp [h]))]
      rfl
theorem bytesLess_cmp (x y : List UInt8) : Op.bytesLess x y = decide (cmpL (x.map (·.toNat)) (y.map (·.toNat)) < 0) := by
  induction x generalizing y with
  | nil => cases y <;> simp [Op.bytesLess, cmpL]
  | cons a x ih =>
    cases y with
    | nil => simp [Op.bytesLess, cmpL]
    | cons b y =>
      simp only [Op.bytesLess, List.map_cons, cmpL, ih]
      by_cases e : a = b
      · subst e; simp
      · have e' : ¬ a.toNat = b.toNat := fun h => e (UInt8.toNat_inj.1 h)
        rw [if_neg e']
        by_cases g : a.toNat < b.toNat
        · rw [if_pos g]; simp [UInt8.lt_iff_toNat_lt, g]
        · rw [if_neg g]; simp [UInt8.lt_iff_toNat_lt, g, e]
/-- what a whole rune's bytes are -/
theorem refN_enc (n b0 b1 b2 b3 : Nat) (h0 : b0 < 256) (_hn : 1 ≤ n) (hw : whole (refN n b0 b1 b2 b3)) :
    ((refN n b0 b1 b2 b3).2 = 1 ∧ encN (refN n b0 b1 b2 b3).1 = [b0]) ∨ ((refN n b0 b1 b2 b3).2 = 2 ∧ 1 < n ∧ encN (refN n b0 b1 b2 b3).1 = [b0, b1]) ∨
    ((refN n b0 b1 b2 b3).2 = 3 ∧ 2 < n ∧ encN (refN n b0 b1 b2 b3).1 = [b0, b1, b2]) ∨ ((refN n b0 b1 b2 b3).2 = 4 ∧ 3 < n ∧ encN (refN n b0 b1 b2 b3).1 = [b0, b1, b2, b3]) := by
  unfold refN at hw ⊢
  by_cases a : b0 < 128
  · rw [if_pos a]; exact .inl ⟨rfl, by simp [encN, a]⟩
  rw [if_neg a] at hw ⊢
  by_cases t2 : 194 ≤ b0 ∧ b0 ≤ 223 ∧ (1 < n ∧ 128 ≤ b1 ∧ b1 ≤ 191)
  · rw [if_pos t2]
    refine .inr (.inl ⟨rfl, by omega, ?_⟩)
    unfold encN
    simp only
    rw [if_neg (by omega), if_pos (by omega)]
    congr 1
    · omega
    · congr 1; omega
  rw [if_neg t2] at hw ⊢
  by_cases t3 : 224 ≤ b0 ∧ b0 ≤ 239 ∧ (1 < n ∧ loF b0 ≤ b1 ∧ b1 ≤ hiF b0) ∧ (2 < n ∧ 128 ≤ b2 ∧ b2 ≤ 191)
  · rw [if_pos t3]
    have l := (lo_hi b0 b1 (by omega)).1 t3.2.2.1.2
    refine .inr (.inr (.inl ⟨rfl, by omega, ?_⟩))
    unfold encN
    simp only
    rw [if_neg (by omega), if_neg (by omega), if_pos (by omega)]
    congr 1
    · omega
    · congr 1
      · omega
      · congr 1; omega
  rw [if_neg t3] at hw ⊢
  by_cases t4 : 240 ≤ b0 ∧ b0 ≤ 244 ∧ (1 < n ∧ loF b0 ≤ b1 ∧ b1 ≤ hiF b0) ∧ (2 < n ∧ 128 ≤ b2 ∧ b2 ≤ 191) ∧ (3 < n ∧ 128 ≤ b3 ∧ b3 ≤ 191)
  · rw [if_pos t4]
    have l := (lo_hi b0 b1 (by omega)).1 t4.2.2.1.2
    refine .inr (.inr (.inr ⟨rfl, by omega, ?_⟩))
    unfold encN
    simp only
    rw [if_neg (by omega), if_neg (by omega), if_neg (by omega)]
    congr 1
    · omega
    · congr 1
      · omega
      · congr 1
        · omega
        · congr 1; omega
  · rw [if_neg t4] at hw; exact absurd ⟨rfl, rfl⟩ hw
/-- a text's bytes as numbers -/
def bytesN (s : ByteArray) : List Nat := s.data.toList.map (·.toNat)
theorem drop_bytes (s : ByteArray) (i : Nat) (h : i < s.size) : (bytesN s).drop i = bA s i :: (bytesN s).drop (i + 1) := by
  have hl : i < (bytesN s).length := by simpa [bytesN] using h
  rw [List.drop_eq_getElem_cons hl]
  congr 1
  rw [bA_data s i h]; simp [bytesN]
theorem rest_bytes (s : ByteArray) : ∀ n i, s.size - i ≤ n → i ≤ s.size → (∀ x ∈ rest s i, whole x) → (bytesN s).drop i = ((rest s i).map (·.1)).flatMap encN := by
  intro n
  induction n with
  | zero =>
    intro i h1 h2 _
    rw [rest_end s i (by omega), List.drop_eq_nil_of_le (by simp [bytesN]; omega)]; rfl
  | succ n ih =>
    intro i h1 h2 hall
    by_cases hi : i < s.size
    · have hw := dec_width s i hi
      have hc := rest_cons s i hi
      rw [hc] at hall ⊢
      have hwh := hall (Utf8.decode s i) (by simp)
      have hih := ih (i + (Utf8.decode s i).2) (by omega) (by omega) (fun x hx => hall x (by simp [hx]))
      rw [List.map_cons, List.flatMap_cons, ← hih]
      rw [dec_refB] at hwh hw ⊢
      rcases refN_enc _ _ _ _ _ (bA_lt s i) (by omega) hwh with ⟨e1, e2⟩ | ⟨e1, _, e2⟩ | ⟨e1, _, e2⟩ | ⟨e1, _, e2⟩
      · rw [e2, e1, drop_bytes s i hi]; rfl
      · rw [e2, e1, drop_bytes s i hi, drop_bytes s (i + 1) (by omega)]; rfl
      · rw [e2, e1, drop_bytes s i hi, drop_bytes s (i + 1) (by omega), drop_bytes s (i + 2) (by omega)]; rfl
      · rw [e2, e1, drop_bytes s i hi, drop_bytes s (i + 1) (by omega), drop_bytes s (i + 2) (by omega), drop_bytes s (i + 3) (by omega)]; rfl
    · rw [rest_end s i (by omega), List.drop_eq_nil_of_le (by simp [bytesN]; omega)]; rfl
theorem bytes_whole (s : ByteArray) (h : ∀ x ∈ runes s, whole x) : bytesN s = (nums s).flatMap encN := by
  have := rest_bytes s _ 0 (Nat.le_refl _) (Nat.zero_le _) h
  rw [List.drop_zero] at this; exact this
theorem nums_bound (s : ByteArray) : ∀ r ∈ nums s, r ≤ 1114111 := by
  have : ∀ f i, ∀ x ∈ rs s f i, x.1 ≤ 1114111 := by
    intro f
    induction f with
    | zero => intro i x h; simp [rs] at h
    | succ f ih =>
      intro i x h
      simp only [rs] at h
      split at h
      · rcases List.mem_cons.1 h with rfl | h
        · exact dec_rune s i
        · exact ih _ x h
      · simp at h
  intro r h
  simp only [nums, List.mem_map] at h
  obtain ⟨x, hx, rfl⟩ := h
  exact this _ _ x hx
/-- of texts of whole runes the order of runes is that of bytes -/
theorem less_whole (s t : ByteArray) (hs : ∀ x ∈ runes s, whole x) (ht : ∀ x ∈ runes t, whole x) : Op.bytesLess s.data.toList t.data.toList = decide (cmpL (nums s) (nums t) < 0) := by
  rw [bytesLess_cmp]
  have e1 := bytes_whole s hs
  have e2 := bytes_whole t ht
  unfold bytesN at e1 e2
  rw [e1, e2, flat_cmp _ _ (nums_bound s) (nums_bound t)]
theorem same_whole (s t : ByteArray) (hs : ∀ x ∈ runes s, whole x) (ht : ∀ x ∈ runes t, whole x) (h : cmpL (nums s) (nums t) = 0) : s = t := by
  have h := cmpL_zero h
  have e1 := bytes_whole s hs
  have e2 := bytes_whole t ht
  rw [h, ← e2] at e1
  unfold bytesN at e1
  have : s.data.toList = t.data.toList := (List.map_inj_right (fun a b h => UInt8.toNat_inj.1 h)).1 e1
  exact ByteArray.ext (Array.toList_inj.1 this)
theorem runes_size_le (s : ByteArray) : s.size ≤ 4 * (runes s).length := by
  have h := runes_width s
  have : ∀ f i, width (rs s f i) ≤ 4 * (rs s f i).length := by
    intro f
    induction f with
    | zero => intro i; simp [rs, width]
    | succ f ih =>
      intro i
      simp only [rs]
      split
      · rename_i hi
        have hw := dec_width s i hi
        have := ih (i + (Utf8.decode s i).2)
        rw [show Utf8.decode s i :: rs s f (i + (Utf8.decode s i).2) = [Utf8.decode s i] ++ rs s f (i + (Utf8.decode s i).2) from rfl, width_append, width_one, List.length_append]
        simp only [List.length_cons, List.length_nil]; omega
      · simp [width]
  have := this s.size 0
  unfold runes rest at h ⊢
  omega
end RuneM
