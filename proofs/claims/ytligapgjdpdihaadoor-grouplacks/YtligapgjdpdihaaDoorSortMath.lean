/-
  The order of texts (runes, then bytes) is one; lists in order, each once, are told by what is in them. Nothing of the program but the document's own order.
-/
import Derived.Test.YtligapgjdpdihaaDoorRunRefSort
import Derived.Test.YtligapgjdpdihaaDoorKeyMathC
import Derived.Lib.SlicesCompact
import Derived.Lib.Bytealg
import Derived.Sort.Statements
set_option linter.unusedVariables false
set_option linter.unusedSimpArgs false
namespace Go.Proofs.YtligapgjdpdihaaDoor.SortM
open RuneM RefKeys RefSort

/-- an order that tells all apart -/
structure Ord {α : Type} (o : α → α → Int) : Prop where
  swap : ∀ a b, o b a = - o a b
  trans : ∀ a b c, o a b ≤ 0 → o b c ≤ 0 → o a c ≤ 0
  zero : ∀ a b, o a b = 0 → a = b
variable {α : Type} {o : α → α → Int}
theorem Ord.self (h : Ord o) (a : α) : o a a = 0 := by have := h.swap a a; omega
theorem Ord.lt_le (h : Ord o) {a b c : α} (h1 : o a b < 0) (h2 : o b c ≤ 0) : o a c < 0 := by
  have h3 := h.trans a b c (by omega) h2
  by_cases h4 : o a c = 0
  · have := h.zero _ _ h4; subst this
    have := h.swap a b; omega
  · omega
theorem Ord.le_lt (h : Ord o) {a b c : α} (h1 : o a b ≤ 0) (h2 : o b c < 0) : o a c < 0 := by
  have h3 := h.trans a b c h1 (by omega)
  by_cases h4 : o a c = 0
  · have := h.zero _ _ h4; subst this
    have := h.swap a b; omega
  · omega
def lt (o : α → α → Int) (x y : α) : Bool := decide (o x y < 0)
theorem Ord.swo (h : Ord o) : Sort.SWO (lt o) where
  irrefl := fun x => by simp [lt, h.self x]
  trans := fun x y z h1 h2 => by
    simp only [lt, decide_eq_true_eq] at *
    exact h.lt_le h1 (by omega)
  ntrans := fun x y z h1 h2 => by
    simp only [lt, decide_eq_false_iff_not] at *
    have := h.trans z y x (by have := h.swap y z; omega) (by have := h.swap x y; omega)
    have := h.swap x z; omega
/-- in order, each once -/
def Rising (o : α → α → Int) (l : List α) : Prop := l.Pairwise fun x y => o x y < 0
theorem rising_eq (h : Ord o) : ∀ (l m : List α), Rising o l → Rising o m → (∀ x, x ∈ l ↔ x ∈ m) → l = m
  | [], [], _, _, _ => rfl
  | [], b :: m, _, _, hm => absurd ((hm b).2 (by simp)) (by simp)
  | a :: l, [], _, _, hm => absurd ((hm a).1 (by simp)) (by simp)
  | a :: l, b :: m, hl, hmm, hm => by
    have hl' := List.pairwise_cons.1 hl
    have hm' := List.pairwise_cons.1 hmm
    have hab : a = b := by
      rcases List.mem_cons.1 ((hm a).1 (by simp)) with e | e
      · exact e
      · rcases List.mem_cons.1 ((hm b).2 (by simp)) with e2 | e2
        · exact e2.symm
        · have h1 := hm'.1 a e
          have h2 := hl'.1 b e2
          have := h.swap a b; omega
    subst hab
    congr 1
    refine rising_eq h l m hl'.2 hm'.2 fun x => ⟨fun hx => ?_, fun hx => ?_⟩
    · rcases List.mem_cons.1 ((hm x).1 (by simp [hx])) with e | e
      · subst e; have := hl'.1 x hx; have := h.self x; omega
      · exact e
    · rcases List.mem_cons.1 ((hm x).2 (by simp [hx])) with e | e
      · subst e; have := hm'.1 x hx; have := h.self x; omega
      · exact e
theorem compact_rising [Inhabited α] [DecidableEq α] (h : Ord o) (d : Array α) (hs : Sort.SortedIn (lt o) 0 d.size d) : ∀ m, m ≤ d.size →
    Rising o (Lib.compactUpTo d m) ∧ (∀ j, j < m → d[j]! ∈ Lib.compactUpTo d m) ∧ ∀ x ∈ Lib.compactUpTo d m, ∃ j, j < m ∧ x = d[j]! := by
  have hle : ∀ i j, i ≤ j → j < d.size → o d[i]! d[j]! ≤ 0 := fun i j hij hj => by
    by_cases e : i = j
    · subst e; have := h.self d[i]!; omega
    · have := hs i j (Nat.zero_le _) (by omega) hj
      simp only [lt, decide_eq_false_iff_not] at this
      have := h.swap d[j]! d[i]!; omega
  intro m
  induction m with
  | zero => intro _; exact ⟨by simp [Lib.compactUpTo, Rising], fun j hj => absurd hj (by omega), fun x hx => by simp [Lib.compactUpTo] at hx⟩
  | succ m ih =>
    intro hm
    obtain ⟨h1, h2, h3⟩ := ih (by omega)
    rw [Lib.compactUpTo_succ]
    by_cases hk : Lib.keeps d m = true
    · rw [if_pos hk]
      refine ⟨List.pairwise_append.2 ⟨h1, List.pairwise_singleton _ _, ?_⟩, ?_, ?_⟩
      · intro x hx y hy
        simp at hy; subst hy
        obtain ⟨j, hj, rfl⟩ := h3 x hx
        simp only [Lib.keeps, decide_eq_true_eq] at hk
        have hne : d[m]! ≠ d[m - 1]! := by rcases hk with hk | hk; · omega
                                           · exact hk
        have hlt : o d[m - 1]! d[m]! < 0 := by
          have := hle (m - 1) m (by omega) (by omega)
          by_cases e : o d[m - 1]! d[m]! = 0
          · exact absurd (h.zero _ _ e).symm hne
          · omega
        exact h.le_lt (hle j (m - 1) (by omega) (by omega)) hlt
      · intro j hj
        by_cases e : j = m
        · subst e; simp
        · exact List.mem_append_left _ (h2 j (by omega))
      · intro x hx
        rcases List.mem_append.1 hx with hx | hx
        · obtain ⟨j, hj, e⟩ := h3 x hx; exact ⟨j, by omega, e⟩
        · simp at hx; exact ⟨m, by omega, hx⟩
    · rw [if_neg hk, List.append_nil]
      simp only [Lib.keeps, decide_eq_true_eq, not_or, Classical.not_not] at hk
      refine ⟨h1, fun j hj => ?_, fun x hx => ?_⟩
      · by_cases e : j = m
        · subst e; rw [hk.2]; exact h2 _ (by omega)
        · exact h2 j (by omega)
      · obtain ⟨j, hj, e⟩ := h3 x hx; exact ⟨j, by omega, e⟩
theorem compact_mem [Inhabited α] [DecidableEq α] (h : Ord o) (d : Array α) (hs : Sort.SortedIn (lt o) 0 d.size d) : Rising o (Lib.compactUpTo d d.size) ∧ ∀ x, x ∈ Lib.compactUpTo d d.size ↔ x ∈ d.toList := by
  obtain ⟨h1, h2, h3⟩ := compact_rising h d hs d.size (Nat.le_refl _)
  refine ⟨h1, fun x => ⟨fun hx => ?_, fun hx => ?_⟩⟩
  · obtain ⟨j, hj, rfl⟩ := h3 x hx
    rw [getElem!_pos d j hj]; simp
  · obtain ⟨j, hj, rfl⟩ := List.getElem_of_mem hx
    have hj' : j < d.size := by simpa using hj
    have := h2 j hj'
    rw [getElem!_pos d j hj'] at this
    simpa using this

/-! ### the order of texts -/
theorem compareBytes_cmp (x y : List UInt8) : Lib.compareBytes x y = cmpL (x.map (·.toNat)) (y.map (·.toNat)) := by
  induction x generalizing y with
  | nil => cases y <;> simp [Lib.compareBytes, cmpL]
  | cons a x ih =>
    cases y with
    | nil => simp [Lib.compareBytes, cmpL]
    | cons b y =>
      simp only [Lib.compareBytes, List.map_cons, cmpL, ih]
      by_cases h : a < b
      · have : a.toNat < b.toNat := UInt8.lt_iff_toNat_lt.1 h
        rw [if_pos h, if_neg (by omega), if_pos this]
      · rw [if_neg h]
        have h' : ¬ a.toNat < b.toNat := fun e => h (UInt8.lt_iff_toNat_lt.2 e)
        by_cases h2 : b < a
        · have : b.toNat < a.toNat := UInt8.lt_iff_toNat_lt.1 h2
          rw [if_pos h2, if_neg (by omega), if_neg h']
        · have h2' : ¬ b.toNat < a.toNat := fun e => h2 (UInt8.lt_iff_toNat_lt.2 e)
          rw [if_neg h2, if_pos (by omega)]
/-- what order tells -/
def ordS (a b : ByteArray) : Int := if cmpS a b = 0 then Lib.compareBytes a.data.toList b.data.toList else cmpS a b
theorem ordS_is (a b : ByteArray) : ordS a b = if cmpL (nums a) (nums b) = 0 then cmpL (a.data.toList.map (·.toNat)) (b.data.toList.map (·.toNat)) else cmpL (nums a) (nums b) := by
  unfold ordS cmpS; rw [compareBytes_cmp]
theorem bytes_inj {a b : ByteArray} (h : a.data.toList.map (·.toNat) = b.data.toList.map (·.toNat)) : a = b := by
  apply ByteArray.ext
  apply Array.toList_inj.1
  exact (List.map_inj_right (fun x y h => UInt8.toNat_inj.1 h)).1 h
theorem ordS_ord : Ord ordS where
  swap := fun a b => by
    rw [ordS_is, ordS_is, cmpL_swap (nums a) (nums b), cmpL_swap (a.data.toList.map _) (b.data.toList.map _)]
    by_cases h : cmpL (nums a) (nums b) = 0
    · rw [if_pos h, if_pos (by omega)]
    · rw [if_neg h, if_neg (by omega)]
  trans := fun a b c => by
    rw [ordS_is, ordS_is, ordS_is]
    intro h1 h2
    by_cases ha : cmpL (nums a) (nums b) = 0
    · rw [if_pos ha] at h1
      rw [cmpL_zero ha]
      by_cases hb : cmpL (nums b) (nums c) = 0
      · rw [if_pos hb] at h2 ⊢
        exact (cmpL_trans h1 h2).1
      · rw [if_neg hb] at h2 ⊢; exact h2
    · rw [if_neg ha] at h1
      by_cases hb : cmpL (nums b) (nums c) = 0
      · rw [← cmpL_zero hb, if_neg ha]; exact h1
      · rw [if_neg hb] at h2
        have h3 := (cmpL_trans h1 h2).1
        by_cases hc : cmpL (nums a) (nums c) = 0
        · exfalso
          rw [← cmpL_zero hc] at h2 hb
          have := cmpL_swap (nums a) (nums b); omega
        · rw [if_neg hc]; exact h3
  zero := fun a b => by
    rw [ordS_is]
    intro h
    by_cases ha : cmpL (nums a) (nums b) = 0
    · rw [if_pos ha] at h; exact bytes_inj (cmpL_zero h)
    · rw [if_neg ha] at h; exact absurd h ha
theorem ahead_ord (a b : ByteArray) : aheadB a b = decide (ordS a b < 0) := by
  unfold aheadB
  rw [ByteArray.toList_eq, ByteArray.toList_eq, bytesLess_cmp, ordS_is]
  unfold cmpS
  by_cases h : cmpL (nums a) (nums b) = 0
  · rw [if_pos h]; simp [h]
  · rw [if_neg h]; simp [h]
theorem insU_cons (x : ByteArray) (r : List ByteArray) (s : ByteArray) : insU (x :: r) s = if aheadB x s then x :: insU r s else if x = s then x :: r else s :: x :: r := by
  unfold insU
  by_cases h : aheadB x s = true
  · simp only [insAt, h, if_true, List.getElem?_cons_succ, List.take_succ_cons, List.drop_succ_cons, List.cons_append]
    split <;> rfl
  · have h' : aheadB x s = false := by simpa using h
    simp only [insAt, h', Bool.false_eq_true, if_false, List.getElem?_cons_zero, Option.some.injEq, List.take_zero, List.drop_zero, List.nil_append]
    split <;> rfl
theorem insU_rising (s : ByteArray) : ∀ out, Rising ordS out → Rising ordS (insU out s) ∧ ∀ x, x ∈ insU out s ↔ x ∈ out ∨ x = s
  | [], _ => by simp [insU, insAt, Rising]
  | y :: r, h => by
    obtain ⟨h1, h2⟩ := List.pairwise_cons.1 h
    obtain ⟨i1, i2⟩ := insU_rising s r h2
    rw [insU_cons, ahead_ord]
    by_cases ha : ordS y s < 0
    · rw [if_pos (by simpa using ha)]
      refine ⟨List.pairwise_cons.2 ⟨fun x hx => ?_, i1⟩, fun x => ?_⟩
      · rcases (i2 x).1 hx with hx | hx
        · exact h1 x hx
        · subst hx; exact ha
      · simp only [List.mem_cons, i2]; exact ⟨fun h => by rcases h with h | h | h <;> simp [h], fun h => by rcases h with (h | h) | h <;> simp [h]⟩
    · rw [if_neg (by simpa using ha)]
      by_cases e : y = s
      · rw [if_pos e]
        subst e
        exact ⟨h, fun x => ⟨fun hx => .inl hx, fun hx => hx.elim id (fun e => by rw [e]; simp)⟩⟩
      · rw [if_neg e]
        have hsy : ordS s y < 0 := by
          have hw := ordS_ord.swap y s
          by_cases e0 : ordS y s = 0
          · exact absurd (ordS_ord.zero _ _ e0) e
          · omega
        refine ⟨List.pairwise_cons.2 ⟨fun x hx => ?_, h⟩, fun x => ?_⟩
        · rcases List.mem_cons.1 hx with hx | hx
          · subst hx; exact hsy
          · exact ordS_ord.lt_le hsy (by have := h1 x hx; omega)
        · simp only [List.mem_cons]; exact ⟨fun h => by rcases h with h | h | h <;> simp [h], fun h => by rcases h with (h | h) | h <;> simp [h]⟩
theorem fold_rising (l : List ByteArray) : ∀ out, Rising ordS out → Rising ordS (l.foldl insU out) ∧ ∀ x, x ∈ l.foldl insU out ↔ x ∈ out ∨ x ∈ l := by
  induction l with
  | nil => intro out h; exact ⟨h, by simp⟩
  | cons s l ih =>
    intro out h
    obtain ⟨h1, h2⟩ := insU_rising s out h
    obtain ⟨h3, h4⟩ := ih _ h1
    refine ⟨h3, fun x => ?_⟩
    simp only [List.foldl_cons, h4, h2, List.mem_cons]
    exact ⟨fun h => by rcases h with (h | h) | h <;> simp [h], fun h => by rcases h with h | h | h <;> simp [h]⟩
theorem sortedL_rising (l : List ByteArray) : Rising ordS (sortedL l) ∧ ∀ x, x ∈ sortedL l ↔ x ∈ l := by
  obtain ⟨h1, h2⟩ := fold_rising l [] List.Pairwise.nil
  exact ⟨h1, fun x => by unfold sortedL; rw [h2]; simp⟩
end Go.Proofs.YtligapgjdpdihaaDoor.SortM
