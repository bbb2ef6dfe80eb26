/-
  Patterns of runes that say themselves, of stars and question marks, of one span; texts that are quoted. Nothing of the program.
-/
import Derived.Test.YtfponjonbhnmlaaGlobMathB
import Derived.Test.YtfponjonbhnmlaaQuoteMath
namespace GlobM
open Go RuneM

/-- a sign that says itself -/
def fine (s : Sg) : Prop := s.2 = true ∨ (s.1 ≠ 42 ∧ s.1 ≠ 63 ∧ s.1 ≠ 91)
def ones (L : List Sg) : List It := L.map fun s => one s.1
theorem item_fine {s : Sg} (h : fine s) (f : Nat) (T : List Sg) : itemS f (s :: T) = some (one s.1, T) := by
  obtain ⟨c, q⟩ := s
  rcases h with h | ⟨h1, h2, h3⟩
  · simp only at h; subst h; simp [itemS, bare]
  · simp only at h1 h2 h3; simp [itemS, bare, h1, h2, h3]
theorem itemsFS_two : ∀ f g (L : List Sg), L.length < f → L.length < g → itemsFS f L = itemsFS g L := by
  intro f
  induction f with
  | zero => intro g L h; omega
  | succ f ih =>
    intro g L h hg
    obtain ⟨g, rfl⟩ : ∃ k, g = k + 1 := ⟨g - 1, by omega⟩
    simp only [itemsFS]
    split
    · rfl
    · cases hs : itemS (L.length + 1) L with
      | none => rfl
      | some y =>
        obtain ⟨x, u⟩ := y
        have h1 := itemS_less hs
        simp only []
        rw [ih g u (by omega) (by omega)]
theorem itemsFS_some {f : Nat} {s : Sg} {T : List Sg} {x : It} {u : List Sg} (h : itemS ((s :: T).length + 1) (s :: T) = some (x, u)) : itemsFS (f + 1) (s :: T) = (itemsFS f u).map (x :: ·) := by
  rw [itemsFS, if_neg (by simp), h]
theorem items_fine : ∀ (L T : List Sg) (f : Nat), (∀ s ∈ L, fine s) → (L ++ T).length < f → itemsFS f (L ++ T) = (itemsFS (T.length + 1) T).map (ones L ++ ·)
  | [], T, f, _, hf => by
    rw [List.nil_append, itemsFS_two f (T.length + 1) T (by simpa using hf) (by omega)]
    simp [ones]
  | s :: L, T, 0, _, hf => by simp at hf
  | s :: L, T, f + 1, h, hf => by
    have hs := h s (by simp)
    have ih := items_fine L T f (fun x hx => h x (by simp [hx])) (by simp at hf ⊢; omega)
    rw [List.cons_append, itemsFS_some (item_fine hs _ _), ih]
    simp [ones, Function.comp_def]
theorem items_ones (L : List Sg) (f : Nat) (h : ∀ s ∈ L, fine s) (hf : L.length < f) : itemsFS f L = some (ones L) := by
  have := items_fine L [] f h (by simpa using hf)
  rw [List.append_nil] at this
  rw [this]; simp [itemsFS]
theorem has_one (c r : Nat) : hasI (one c) r = decide (r = c) := by
  rw [Bool.eq_iff_iff]; simp [hasI, one]; omega
theorem has_any (r : Nat) : hasI any r = true := by simp [hasI, any]
theorem M_ones : ∀ (cs k : List Nat), M (cs.map one) k ↔ k = cs
  | [], k => Iff.rfl
  | c :: cs, k => by
    constructor
    · rintro ⟨a, b, rfl, ha, hb⟩
      have hb := (M_ones cs b).1 hb
      rcases ha with ha | ⟨r, rfl, hr⟩
      · simp [one] at ha
      · rw [has_one] at hr; simp at hr; subst hr hb; rfl
    · rintro rfl
      exact ⟨[c], cs, rfl, .inr ⟨c, rfl, by rw [has_one]; simp⟩, (M_ones cs cs).2 rfl⟩
theorem M_starmid (l m : List It) (k : List Nat) : M (l ++ star :: m) k ↔ ∃ a b c, k = a ++ b ++ c ∧ M l a ∧ M m c := by
  rw [M_append]
  constructor
  · rintro ⟨a, b, rfl, ha, c, d, rfl, _, hd⟩
    exact ⟨a, c, d, by simp, ha, hd⟩
  · rintro ⟨a, b, c, rfl, ha, hc⟩
    exact ⟨a, b ++ c, by simp, ha, b, c, rfl, .inl rfl, hc⟩
theorem M_anys : ∀ (n : Nat) (k : List Nat), M (List.replicate n any) k ↔ k.length = n
  | 0, k => by simp [M]
  | n + 1, k => by
    rw [List.replicate_succ]
    constructor
    · rintro ⟨a, b, rfl, ha, hb⟩
      have hb := (M_anys n b).1 hb
      rcases ha with ha | ⟨r, rfl, _⟩
      · simp [any] at ha
      · simp; omega
    · intro h
      cases k with
      | nil => simp at h
      | cons r k => exact ⟨[r], k, rfl, .inr ⟨r, rfl, has_any r⟩, (M_anys n k).2 (by simpa using h)⟩
theorem M_star_anys (n : Nat) (k : List Nat) : M (star :: List.replicate n any) k ↔ n ≤ k.length := by
  have := M_starmid [] (List.replicate n any) k
  rw [List.nil_append] at this
  rw [this]
  constructor
  · rintro ⟨a, b, c, rfl, ha, hc⟩
    have := (M_anys n c).1 hc
    simp; omega
  · intro h
    exact ⟨[], k.take (k.length - n), k.drop (k.length - n), by simp, rfl, (M_anys n _).2 (by simp; omega)⟩
theorem M_anys_star (n : Nat) (k : List Nat) : M (List.replicate n any ++ [star]) k ↔ n ≤ k.length := by
  rw [show [star] = star :: [] from rfl, M_starmid]
  constructor
  · rintro ⟨a, b, c, rfl, ha, hc⟩
    have := (M_anys n a).1 ha
    simp; omega
  · intro h
    exact ⟨k.take n, k.drop n, [], by simp, (M_anys n _).2 (by simp; omega), rfl⟩
/-! ### question marks -/
theorem items_marks : ∀ (n f : Nat) (T : List Sg), n + T.length < f → itemsFS f (List.replicate n (63, false) ++ T) = (itemsFS (T.length + 1) T).map (List.replicate n any ++ ·)
  | 0, f, T, hf => by
    rw [List.replicate_zero, List.nil_append, itemsFS_two f (T.length + 1) T (by omega) (by omega)]
    simp
  | n + 1, 0, T, hf => by omega
  | n + 1, f + 1, T, hf => by
    have ih := items_marks n f T (by omega)
    have h1 : itemS (((63, false) :: (List.replicate n (63, false) ++ T)).length + 1) ((63, false) :: (List.replicate n (63, false) ++ T)) = some (any, List.replicate n (63, false) ++ T) := by simp [itemS, bare]
    rw [List.replicate_succ, List.cons_append, itemsFS_some h1, ih]
    simp [Function.comp_def, List.replicate_succ]
theorem signs_plain : ∀ (l : List Nat), (∀ c ∈ l, c ≠ 92) → signsL l = some (l.map fun c => (c, false))
  | [], _ => rfl
  | c :: l, h => by
    rw [signsL_cons, if_neg (h c (by simp)), signs_plain l (fun x hx => h x (by simp [hx]))]; rfl
theorem items_of_plain {l : List Nat} (h : ∀ c ∈ l, c ≠ 92) (hl : ¬ 24 < l.length) : itemsL l = itemsFS (l.length + 1) (l.map fun c => (c, false)) := by
  rw [itemsL_signs l hl, signs_plain l h]; simp
theorem marks_n (n : Nat) (hn : n ≤ 24) : itemsL (List.replicate n 63) = some (List.replicate n any) := by
  rw [items_of_plain (by intro c hc; rw [List.eq_of_mem_replicate hc]; decide) (by simp; omega), List.map_replicate]
  have := items_marks n (n + 1) [] (by simp)
  rw [List.append_nil] at this
  simp only [List.length_replicate]
  rw [this]; simp [itemsFS]
theorem marks_star (n : Nat) (hn : n < 24) : itemsL (42 :: List.replicate n 63) = some (star :: List.replicate n any) := by
  rw [items_of_plain (by intro c hc; rcases List.mem_cons.1 hc with rfl | hc; decide; rw [List.eq_of_mem_replicate hc]; decide) (by simp; omega)]
  simp only [List.map_cons, List.map_replicate, List.length_cons, List.length_replicate]
  have := items_marks n (n + 1) [] (by simp)
  rw [List.append_nil] at this
  rw [itemsFS, if_neg (by simp)]
  have h1 : itemS (((42, false) :: List.replicate n ((63 : Nat), false)).length + 1) ((42, false) :: List.replicate n (63, false)) = some (star, List.replicate n (63, false)) := by simp [itemS, bare]
  rw [h1]
  simp only []
  rw [this]; simp [itemsFS]
theorem star_marks (n : Nat) (hn : n < 24) : itemsL (List.replicate n 63 ++ [42]) = some (List.replicate n any ++ [star]) := by
  rw [items_of_plain (by intro c hc; rcases List.mem_append.1 hc with hc | hc; rw [List.eq_of_mem_replicate hc]; decide; rw [List.mem_singleton.1 hc]; decide) (by simp; omega)]
  simp only [List.map_append, List.map_replicate, List.map_cons, List.map_nil, List.length_append, List.length_replicate, List.length_cons, List.length_nil]
  rw [items_marks n (n + (0 + 1) + 1) [(42, false)] (by simp)]
  simp [itemsFS, itemS, bare]
/-! ### quoting -/
def qn (l : List Nat) : List Nat := l.flatMap fun c => if isM c then [92, c] else [c]
theorem qn_cons (c : Nat) (l : List Nat) : qn (c :: l) = (if isM c then [92, c] else [c]) ++ qn l := rfl
theorem signs_qn : ∀ (l m : List Nat), signsL (qn l ++ m) = (signsL m).map ((l.map fun c => (c, isM c)) ++ ·)
  | [], m => by simp [qn]
  | c :: l, m => by
    rw [qn_cons]
    cases hc : isM c with
    | true =>
      simp only [if_true, List.cons_append, List.nil_append, List.append_assoc]
      rw [signsL_cons, if_pos rfl]
      simp only []
      rw [signs_qn l m]
      simp [Function.comp_def, hc]
    | false =>
      have h92 : c ≠ 92 := by intro e; subst e; simp [isM] at hc
      simp only [Bool.false_eq_true, if_false, List.cons_append, List.nil_append]
      rw [signsL_cons, if_neg h92, signs_qn l m]
      simp [Function.comp_def, hc]
theorem fine_qn (l : List Nat) : ∀ s ∈ l.map (fun c => (c, isM c)), fine s := by
  intro s hs
  obtain ⟨c, _, rfl⟩ := List.mem_map.1 hs
  by_cases h : isM c = true
  · exact .inl h
  · right
    simp only [isM, Bool.or_eq_true, beq_iff_eq, not_or] at h
    exact ⟨h.1.1.1.1.1.1, h.1.1.1.1.1.2, h.1.1.1.1.2⟩
theorem items_qn (l : List Nat) (h : ¬ 24 < (qn l).length) : itemsL (qn l) = some (l.map one) := by
  rw [itemsL_signs _ h]
  have := signs_qn l []
  rw [List.append_nil] at this
  rw [this]
  simp only [signsL, Option.map_some, Option.bind_some, List.append_nil]
  rw [items_ones _ _ (fine_qn l) (by omega)]
  simp [ones, Function.comp_def]
theorem items_qstar (l m : List Nat) (h : ¬ 24 < (qn l ++ 42 :: qn m).length) : itemsL (qn l ++ 42 :: qn m) = some (l.map one ++ star :: m.map one) := by
  rw [itemsL_signs _ h]
  have h1 := signs_qn m []
  rw [List.append_nil] at h1
  have h2 : signsL (42 :: qn m) = some ((42, false) :: m.map fun c => (c, isM c)) := by
    rw [signsL_cons, if_neg (by decide), h1]; simp [signsL]
  rw [signs_qn l, h2]
  simp only [Option.map_some, Option.bind_some]
  rw [items_fine _ _ _ (fine_qn l) (by omega), itemsFS, if_neg (by simp)]
  have h3 : itemS (((42, false) :: m.map fun c => (c, isM c)).length + 1) ((42, false) :: m.map fun c => (c, isM c)) = some (star, m.map fun c => (c, isM c)) := by simp [itemS, bare]
  rw [h3]
  simp only []
  rw [items_ones _ _ (fine_qn m) (by simp)]
  simp [ones, Function.comp_def]
/-! ### a set of one span -/
theorem items_span {a b : Nat} (ha : 97 ≤ a ∧ a ≤ 122) (hb : 97 ≤ b ∧ b ≤ 122) : itemsL [91, a, 45, b, 93] = if b < a then none else some [⟨3, false, [(a, b)]⟩] := by
  have a1 : a ≠ 93 := by omega
  have a2 : a ≠ 45 := by omega
  have a3 : a ≠ 92 := by omega
  have a4 : a ≠ 94 := by omega
  have b1 : b ≠ 93 := by omega
  have b2 : b ≠ 45 := by omega
  have b3 : b ≠ 92 := by omega
  by_cases h : b < a <;> simp [itemsL, itemsF, itemL, setL, setF, spanL, endL, a1, a2, a3, a4, b1, b2, b3, h]
theorem items_unspan {a b : Nat} (ha : 97 ≤ a ∧ a ≤ 122) (hb : 97 ≤ b ∧ b ≤ 122) : itemsL [91, 94, a, 45, b, 93] = if b < a then none else some [⟨3, true, [(a, b)]⟩] := by
  have a1 : a ≠ 93 := by omega
  have a2 : a ≠ 45 := by omega
  have a3 : a ≠ 92 := by omega
  have b1 : b ≠ 93 := by omega
  have b2 : b ≠ 45 := by omega
  have b3 : b ≠ 92 := by omega
  by_cases h : b < a <;> simp [itemsL, itemsF, itemL, setL, setF, spanL, endL, a1, a2, a3, b1, b2, b3, h]
theorem M_span (a b r : Nat) (neg : Bool) : M [⟨3, neg, [(a, b)]⟩] [r] ↔ ((decide (a ≤ r) && decide (r ≤ b)) != neg) = true := by
  rw [M_one]
  constructor
  · rintro (h | ⟨q, e, h⟩)
    · simp at h
    · cases e; simpa [hasI] using h
  · intro h
    exact .inr ⟨r, rfl, by simpa [hasI] using h⟩
/-! ### texts of plain letters -/
theorem rest_ascii (s : ByteArray) (h : ∀ b ∈ s.data.toList, b.toNat < 128) : ∀ n i, s.size - i ≤ n → i ≤ s.size → rest s i = (s.data.toList.drop i).map fun b => (b.toNat, 1) := by
  have hs : s.data.toList.length = s.size := by simp
  intro n
  induction n with
  | zero => intro i h1 h2; rw [rest_end s i (by omega), List.drop_eq_nil_of_le (by omega)]; rfl
  | succ n ih =>
    intro i h1 h2
    by_cases hi : i < s.size
    · have hb : bA s i < 128 := by rw [bA_data s i hi]; exact h _ (List.getElem_mem _)
      have e : Utf8.decode s i = (bA s i, 1) := by rw [dec_refB]; unfold refN; rw [if_pos hb]
      rw [rest_cons s i hi, e, List.drop_eq_getElem_cons (by omega), List.map_cons, ih (i + 1) (by omega) (by omega), bA_data s i hi]
    · rw [rest_end s i (by omega), List.drop_eq_nil_of_le (by omega)]; rfl
theorem nums_ascii (s : ByteArray) (h : ∀ b ∈ s.data.toList, b.toNat < 128) : nums s = s.data.toList.map (·.toNat) := by
  unfold nums runes
  rw [rest_ascii s h _ 0 (Nat.le_refl _) (Nat.zero_le _)]
  simp [Function.comp_def]
theorem whole_ascii (s : ByteArray) (h : ∀ b ∈ s.data.toList, b.toNat < 128) : ∀ x ∈ runes s, whole x := by
  unfold runes
  rw [rest_ascii s h _ 0 (Nat.le_refl _) (Nat.zero_le _)]
  intro x hx
  obtain ⟨b, hb, rfl⟩ := List.mem_map.1 hx
  have := h b (by simpa using hb)
  unfold whole; simp; omega
end GlobM
