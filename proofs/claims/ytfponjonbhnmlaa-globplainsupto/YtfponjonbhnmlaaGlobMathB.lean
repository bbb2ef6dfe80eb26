/-
  Patterns read in two steps: first signs (a rune, and whether a stroke stood ahead of it), then items of signs. The same items come out. Nothing of the program.
-/
import Derived.Test.YtfponjonbhnmlaaGlobMath
namespace GlobM

abbrev Sg := Nat × Bool
/-- a pattern's signs; none if a stroke has nothing behind it -/
def signsL : List Nat → Option (List Sg)
  | [] => some []
  | c :: t => if c = 92 then (match t with
      | [] => none
      | d :: u => (signsL u).map ((d, true) :: ·))
    else (signsL t).map ((c, false) :: ·)
theorem signsL_cons (c : Nat) (t : List Nat) : signsL (c :: t) = if c = 92 then (match t with
      | [] => none
      | d :: u => (signsL u).map ((d, true) :: ·))
    else (signsL t).map ((c, false) :: ·) := by
  cases t <;> rfl
/-- s is the rune c, and no stroke stood ahead of it -/
def bare (s : Sg) (c : Nat) : Bool := decide (s.1 = c) && !s.2
def endS : List Sg → Option (Nat × List Sg)
  | [] => none
  | s :: t => if bare s 93 = true ∨ bare s 45 = true then none else some (s.1, t)
def dash : List Sg → Bool
  | [] => false
  | s :: _ => bare s 45
def spanS (l : List Sg) : Option ((Nat × Nat) × List Sg) :=
  match endS l with
  | none => none
  | some (a, t) => if dash t = true then
      (match endS t.tail with
      | none => none
      | some (b, u) => if b < a then none else some ((a, b), u))
    else some ((a, a), t)
def setFS : Nat → List (Nat × Nat) → List Sg → Option (List (Nat × Nat) × List Sg)
  | 0, _, _ => none
  | f + 1, sp, l => match l with
    | [] => none
    | s :: t => if bare s 93 = true then (if sp = [] then none else some (sp, t)) else
      match spanS (s :: t) with
      | none => none
      | some (x, u) => setFS f (sp ++ [x]) u
def hat : List Sg → Bool
  | [] => false
  | s :: _ => bare s 94
def setS (f : Nat) (l : List Sg) : Option (It × List Sg) :=
  (setFS f [] (if hat l = true then l.tail else l)).map fun x => (⟨3, hat l, x.1⟩, x.2)
def itemS (f : Nat) : List Sg → Option (It × List Sg)
  | [] => none
  | s :: t => if bare s 42 = true then some (star, t) else if bare s 63 = true then some (any, t)
    else if bare s 91 = true then setS f t else some (one s.1, t)
def itemsFS : Nat → List Sg → Option (List It)
  | 0, _ => none
  | f + 1, l => if l = [] then some [] else match itemS (l.length + 1) l with
    | none => none
    | some (x, t) => (itemsFS f t).map (x :: ·)

/-- what is read of signs is what is read of runes, and what is left, too -/
def Same {α : Type} (x : Option (α × List Nat)) (y : Option (α × List Sg)) : Prop :=
  match y with
  | none => x = none
  | some (a, T) => ∃ t, x = some (a, t) ∧ signsL t = some T

theorem signs_len : ∀ (n : Nat) (l : List Nat) (L : List Sg), l.length ≤ n → signsL l = some L → L.length ≤ l.length := by
  intro n
  induction n with
  | zero => intro l L h e; have := List.length_eq_zero_iff.1 (Nat.le_zero.1 h); subst this; simp [signsL] at e; subst e; simp
  | succ n ih =>
    intro l L h e
    cases l with
    | nil => simp [signsL] at e; subst e; simp
    | cons c t =>
      rw [signsL_cons] at e
      split at e
      · cases t with
        | nil => simp at e
        | cons d u =>
          simp only [Option.map_eq_some_iff] at e
          obtain ⟨U, hU, rfl⟩ := e
          have := ih u U (by simp at h; omega) hU
          simp; omega
      · simp only [Option.map_eq_some_iff] at e
        obtain ⟨U, hU, rfl⟩ := e
        have := ih t U (by simp at h; omega) hU
        simp; omega
/-- signs of a rune that is no stroke, and of a stroke with a rune -/
theorem signs_cons {c : Nat} {t : List Nat} {L : List Sg} (h : signsL (c :: t) = some L) :
    (c ≠ 92 ∧ ∃ T, L = (c, false) :: T ∧ signsL t = some T) ∨ (c = 92 ∧ ∃ d u T, t = d :: u ∧ L = (d, true) :: T ∧ signsL u = some T) := by
  rw [signsL_cons] at h
  split at h
  · rename_i hc
    right
    refine ⟨hc, ?_⟩
    cases t with
    | nil => simp at h
    | cons d u =>
      simp only [Option.map_eq_some_iff] at h
      obtain ⟨U, hU, rfl⟩ := h
      exact ⟨d, u, U, rfl, rfl, hU⟩
  · rename_i hc
    left
    simp only [Option.map_eq_some_iff] at h
    obtain ⟨U, hU, rfl⟩ := h
    exact ⟨hc, U, rfl, hU⟩
theorem bare_no {c d : Nat} : bare (c, true) d = false := by simp [bare]
theorem bare_is {c d : Nat} : bare (c, false) d = decide (c = d) := by simp [bare]
theorem same_end {l : List Nat} {L : List Sg} (h : signsL l = some L) : Same (endL l) (endS L) := by
  cases l with
  | nil => simp [signsL] at h; subst h; rfl
  | cons c t =>
    rcases signs_cons h with ⟨hc, T, rfl, hT⟩ | ⟨rfl, d, u, T, rfl, rfl, hT⟩
    · simp only [endL, endS, bare_is, decide_eq_true_eq]
      by_cases h1 : c = 93 ∨ c = 45
      · rw [if_pos h1, if_pos h1]; rfl
      · rw [if_neg h1, if_neg h1, if_pos hc]; exact ⟨t, rfl, hT⟩
    · simp only [endL, endS, bare_no]
      exact ⟨u, rfl, hT⟩
theorem head_bare {t : List Nat} {T : List Sg} (h : signsL t = some T) (c : Nat) (hc : c ≠ 92) : (t.head? = some c) ↔ (match T with | [] => False | s :: _ => bare s c = true) := by
  cases t with
  | nil => simp [signsL] at h; subst h; simp
  | cons d u =>
    rcases signs_cons h with ⟨hd, T, rfl, hT⟩ | ⟨rfl, e, v, T, rfl, rfl, hT⟩
    · simp [bare]
    · simp [bare]; omega
theorem tail_signs {t : List Nat} {T : List Sg} (h : signsL t = some T) {c : Nat} (hc : c ≠ 92) (hh : t.head? = some c) : signsL t.tail = some T.tail := by
  cases t with
  | nil => simp at hh
  | cons d u =>
    simp at hh; subst hh
    rcases signs_cons h with ⟨hd, T, rfl, hT⟩ | ⟨h92, _⟩
    · simpa using hT
    · exact absurd h92 hc
theorem dash_iff {t : List Nat} {T : List Sg} (h : signsL t = some T) : (t.head? = some 45) ↔ dash T = true := by
  rw [head_bare h 45 (by decide)]
  cases T <;> simp [dash]
theorem hat_iff {t : List Nat} {T : List Sg} (h : signsL t = some T) : (t.head? = some 94) ↔ hat T = true := by
  rw [head_bare h 94 (by decide)]
  cases T <;> simp [hat]
theorem same_span {l : List Nat} {L : List Sg} (h : signsL l = some L) : Same (spanL l) (spanS L) := by
  have h1 := same_end h
  unfold spanL spanS
  cases he : endS L with
  | none => rw [he] at h1; rw [show endL l = none from h1]; rfl
  | some x =>
    obtain ⟨a, T⟩ := x
    rw [he] at h1
    obtain ⟨t, e1, hT⟩ := h1
    rw [e1]
    simp only
    by_cases hd : dash T = true
    · have hh := (dash_iff hT).2 hd
      rw [if_pos hd, if_pos hh]
      have h2 := same_end (tail_signs hT (by decide) hh)
      cases he2 : endS T.tail with
      | none => rw [he2] at h2; rw [show endL t.tail = none from h2]; rfl
      | some y =>
        obtain ⟨b, U⟩ := y
        rw [he2] at h2
        obtain ⟨u, e2, hU⟩ := h2
        rw [e2]
        simp only
        by_cases hb : b < a
        · rw [if_pos hb, if_pos hb]; rfl
        · rw [if_neg hb, if_neg hb]; exact ⟨u, rfl, hU⟩
    · have hh := fun e => hd ((dash_iff hT).1 e)
      rw [if_neg hd, if_neg hh]; exact ⟨t, rfl, hT⟩
theorem same_setF : ∀ (f : Nat) (sp : List (Nat × Nat)) (l : List Nat) (L : List Sg), signsL l = some L → Same (setF f sp l) (setFS f sp L) := by
  intro f
  induction f with
  | zero => intro sp l L h; rfl
  | succ f ih =>
    intro sp l L h
    simp only [setF, setFS]
    have hb := head_bare h 93 (by decide)
    cases L with
    | nil =>
      have : ¬ l.head? = some 93 := fun e => hb.1 e
      rw [if_neg this]
      have h2 := same_span h
      rw [show spanL l = none from h2]; rfl
    | cons s T =>
      simp only at hb
      by_cases h1 : bare s 93 = true
      · have hh := hb.2 h1
        rw [if_pos hh]
        simp only [h1, if_true]
        by_cases hs : sp = []
        · rw [if_pos hs, if_pos hs]; rfl
        · rw [if_neg hs, if_neg hs]; exact ⟨l.tail, rfl, tail_signs h (by decide) hh⟩
      · rw [if_neg (fun e => h1 (hb.1 e))]
        simp only [h1]
        have h2 := same_span h
        cases he : spanS (s :: T) with
        | none => rw [he] at h2; rw [show spanL l = none from h2]; rfl
        | some x =>
          obtain ⟨y, U⟩ := x
          rw [he] at h2
          obtain ⟨u, e2, hU⟩ := h2
          rw [e2]
          exact ih _ u U hU
theorem same_set {l : List Nat} {L : List Sg} (f : Nat) (hf : l.length < f) (h : signsL l = some L) : Same (setL l) (setS f L) := by
  unfold setL setS
  have hh := hat_iff h
  have key : ∀ (l' : List Nat) (L' : List Sg), l'.length ≤ l.length → signsL l' = some L' → ∀ b : Bool, Same ((setF (l.length + 1) [] l').map fun x => ((⟨3, b, x.1⟩ : It), x.2)) ((setFS f [] L').map fun x => ((⟨3, b, x.1⟩ : It), x.2)) := by
    intro l' L' hl hL b
    have h1 := same_setF f [] l' L' hL
    rw [setF_two (l.length + 1) f [] l' (by omega) (by omega)]
    cases he : setFS f [] L' with
    | none => rw [he] at h1; rw [show setF f [] l' = none from h1]; rfl
    | some x =>
      obtain ⟨y, U⟩ := x
      rw [he] at h1
      obtain ⟨u, e2, hU⟩ := h1
      rw [e2]
      exact ⟨u, rfl, hU⟩
  by_cases hc : hat L = true
  · have hc2 := hh.2 hc
    simp only [hc2, hc, decide_true, if_true]
    exact key l.tail L.tail (by simp) (tail_signs h (by decide) hc2) true
  · have hc2 : ¬ l.head? = some 94 := fun e => hc (hh.1 e)
    have hc3 : hat L = false := by simpa using hc
    simp only [hc2, hc3, decide_false, if_false, Bool.false_eq_true]
    exact key l L (Nat.le_refl _) h false
theorem same_item {l : List Nat} {L : List Sg} (f : Nat) (hf : l.length < f) (h : signsL l = some L) : Same (itemL l) (itemS f L) := by
  cases l with
  | nil => simp [signsL] at h; subst h; rfl
  | cons c t =>
    rcases signs_cons h with ⟨hc, T, rfl, hT⟩ | ⟨rfl, d, u, T, rfl, rfl, hT⟩
    · simp only [itemL, itemS, bare_is, decide_eq_true_eq]
      by_cases h42 : c = 42
      · rw [if_pos h42, if_pos h42]; exact ⟨t, rfl, hT⟩
      rw [if_neg h42, if_neg h42]
      by_cases h63 : c = 63
      · rw [if_pos h63, if_pos h63]; exact ⟨t, rfl, hT⟩
      rw [if_neg h63, if_neg h63, if_neg hc]
      by_cases h91 : c = 91
      · rw [if_pos h91, if_pos h91]; exact same_set f (by simp at hf; omega) hT
      rw [if_neg h91, if_neg h91]; exact ⟨t, rfl, hT⟩
    · simp only [itemL, itemS, bare_no]
      exact ⟨u, rfl, hT⟩
theorem endS_less {l : List Sg} {a : Nat} {t : List Sg} (h : endS l = some (a, t)) : t.length < l.length := by
  cases l with
  | nil => simp [endS] at h
  | cons s u =>
    simp only [endS] at h
    split at h
    · cases h
    · cases h; simp
theorem spanS_less {l : List Sg} {x : Nat × Nat} {t : List Sg} (h : spanS l = some (x, t)) : t.length < l.length := by
  unfold spanS at h
  cases he : endS l with
  | none => simp [he] at h
  | some y =>
    obtain ⟨a, u⟩ := y
    have h1 := endS_less he
    simp only [he] at h
    split at h
    · cases hf : endS u.tail with
      | none => simp [hf] at h
      | some z =>
        obtain ⟨b, v⟩ := z
        have h2 := endS_less hf
        simp only [hf] at h
        split at h
        · cases h
        · cases h
          have : u.tail.length ≤ u.length := by simp
          omega
    · cases h; exact h1
theorem setFS_less : ∀ f sp l sp' t, setFS f sp l = some (sp', t) → t.length < l.length := by
  intro f
  induction f with
  | zero => intro sp l sp' t h; simp [setFS] at h
  | succ f ih =>
    intro sp l sp' t h
    cases l with
    | nil => simp [setFS] at h
    | cons s u =>
      simp only [setFS] at h
      split at h
      · split at h
        · cases h
        · cases h; simp
      · cases hs : spanS (s :: u) with
        | none => simp [hs] at h
        | some y =>
          obtain ⟨x, v⟩ := y
          simp only [hs] at h
          have h1 := spanS_less hs
          have h2 := ih _ _ _ _ h
          omega
theorem setFS_two : ∀ f g sp l, l.length < f → l.length < g → setFS f sp l = setFS g sp l := by
  intro f
  induction f with
  | zero => intro g sp l h; omega
  | succ f ih =>
    intro g sp l h hg
    obtain ⟨g, rfl⟩ : ∃ k, g = k + 1 := ⟨g - 1, by omega⟩
    cases l with
    | nil => rfl
    | cons s u =>
      simp only [setFS]
      split
      · rfl
      · cases hs : spanS (s :: u) with
        | none => rfl
        | some y =>
          obtain ⟨x, v⟩ := y
          have h1 := spanS_less hs
          exact ih g _ v (by omega) (by omega)
theorem setS_two {l : List Sg} {f g : Nat} (hf : l.length < f) (hg : l.length < g) : setS f l = setS g l := by
  unfold setS
  have : (if hat l = true then l.tail else l).length ≤ l.length := by split <;> simp
  rw [setFS_two f g [] _ (by omega) (by omega)]
theorem setS_less {f : Nat} {l : List Sg} {x : It} {t : List Sg} (h : setS f l = some (x, t)) : t.length < l.length := by
  unfold setS at h
  simp only [Option.map_eq_some_iff] at h
  obtain ⟨y, hy, e⟩ := h
  obtain ⟨sp, u⟩ := y
  cases e
  have h1 := setFS_less _ _ _ _ _ hy
  have h2 : (if hat l = true then l.tail else l).length ≤ l.length := by split <;> simp
  exact Nat.lt_of_lt_of_le h1 h2
theorem itemS_two {l : List Sg} {f g : Nat} (hf : l.length < f) (hg : l.length < g) : itemS f l = itemS g l := by
  cases l with
  | nil => rfl
  | cons s t =>
    simp only [itemS]
    rw [setS_two (l := t) (f := f) (g := g) (by simp at hf; omega) (by simp at hg; omega)]
theorem itemS_less {f : Nat} {l : List Sg} {x : It} {t : List Sg} (h : itemS f l = some (x, t)) : t.length < l.length := by
  cases l with
  | nil => simp [itemS] at h
  | cons s u =>
    simp only [itemS] at h
    split at h
    · cases h; simp
    · split at h
      · cases h; simp
      · split at h
        · have := setS_less h; simp; omega
        · cases h; simp
theorem items_signs : ∀ (f : Nat) (l : List Nat) (L : List Sg), signsL l = some L → itemsF f l = itemsFS f L := by
  intro f
  induction f with
  | zero => intro l L h; rfl
  | succ f ih =>
    intro l L h
    simp only [itemsF, itemsFS]
    by_cases hl : l = []
    · subst hl; simp [signsL] at h; subst h; simp
    · have hL : L ≠ [] := by
        intro e; subst e
        cases l with
        | nil => exact hl rfl
        | cons c t => rcases signs_cons h with ⟨_, T, e, _⟩ | ⟨_, d, u, T, _, e, _⟩ <;> cases e
      rw [if_neg hl, if_neg hL]
      have hlen := signs_len _ l L (Nat.le_refl _) h
      have h1 := same_item (l.length + 1) (by omega) h
      rw [itemS_two (l := L) (f := L.length + 1) (g := l.length + 1) (by omega) (by omega)]
      cases he : itemS (l.length + 1) L with
      | none => rw [he] at h1; rw [show itemL l = none from h1]
      | some x =>
        obtain ⟨y, U⟩ := x
        rw [he] at h1
        obtain ⟨u, e2, hU⟩ := h1
        rw [e2]
        simp only
        rw [ih u U hU]
/-! ### where a stroke has nothing behind it there are no items -/
theorem signs_tail1 {c : Nat} {t : List Nat} (hc : c ≠ 92) (h : (signsL t).isSome = true) : (signsL (c :: t)).isSome = true := by
  obtain ⟨T, hT⟩ := Option.isSome_iff_exists.1 h
  rw [signsL_cons]; simp [hc, hT]
theorem signs_tail2 {d : Nat} {t : List Nat} (h : (signsL t).isSome = true) : (signsL (92 :: d :: t)).isSome = true := by
  obtain ⟨T, hT⟩ := Option.isSome_iff_exists.1 h
  rw [signsL_cons]; simp [hT]
theorem some_end {l : List Nat} {a : Nat} {t : List Nat} (h : endL l = some (a, t)) (ht : (signsL t).isSome = true) : (signsL l).isSome = true := by
  cases l with
  | nil => simp [endL] at h
  | cons c u =>
    simp only [endL] at h
    split at h
    · cases h
    · split at h
      · rename_i hc; cases h; exact signs_tail1 hc ht
      · rename_i hc
        have hc : c = 92 := by omega
        subst hc
        cases u with
        | nil => simp at h
        | cons d v => simp at h; obtain ⟨_, rfl⟩ := h; exact signs_tail2 ht
theorem some_head {t : List Nat} {c : Nat} (hc : c ≠ 92) (hh : t.head? = some c) (h : (signsL t.tail).isSome = true) : (signsL t).isSome = true := by
  cases t with
  | nil => simp at hh
  | cons d u => simp at hh; subst hh; exact signs_tail1 hc h
theorem some_span {l : List Nat} {x : Nat × Nat} {t : List Nat} (h : spanL l = some (x, t)) (ht : (signsL t).isSome = true) : (signsL l).isSome = true := by
  unfold spanL at h
  cases he : endL l with
  | none => simp [he] at h
  | some y =>
    obtain ⟨a, u⟩ := y
    simp only [he] at h
    refine some_end he ?_
    split at h
    · rename_i hh
      cases hf : endL u.tail with
      | none => simp [hf] at h
      | some z =>
        obtain ⟨b, v⟩ := z
        simp only [hf] at h
        split at h
        · cases h
        · cases h; exact some_head (by decide) hh (some_end hf ht)
    · cases h; exact ht
theorem some_setF : ∀ f sp l sp' t, setF f sp l = some (sp', t) → (signsL t).isSome = true → (signsL l).isSome = true := by
  intro f
  induction f with
  | zero => intro sp l sp' t h; simp [setF] at h
  | succ f ih =>
    intro sp l sp' t h ht
    simp only [setF] at h
    split at h
    · rename_i hh
      split at h
      · cases h
      · cases h; exact some_head (by decide) hh ht
    · cases hs : spanL l with
      | none => simp [hs] at h
      | some y =>
        obtain ⟨x, u⟩ := y
        simp only [hs] at h
        exact some_span hs (ih _ _ _ _ h ht)
theorem some_set {l : List Nat} {x : It} {t : List Nat} (h : setL l = some (x, t)) (ht : (signsL t).isSome = true) : (signsL l).isSome = true := by
  unfold setL at h
  simp only [Option.map_eq_some_iff] at h
  obtain ⟨y, hy, e⟩ := h
  obtain ⟨sp, u⟩ := y
  cases e
  have h1 := some_setF _ _ _ _ _ hy ht
  split at h1
  · rename_i hh; exact some_head (c := 94) (by decide) (by simpa using hh) h1
  · exact h1
theorem some_item {l : List Nat} {x : It} {t : List Nat} (h : itemL l = some (x, t)) (ht : (signsL t).isSome = true) : (signsL l).isSome = true := by
  cases l with
  | nil => simp [itemL] at h
  | cons c u =>
    simp only [itemL] at h
    split at h
    · rename_i hc; cases h; exact signs_tail1 (by omega) ht
    · split at h
      · rename_i hc; cases h; exact signs_tail1 (by omega) ht
      · split at h
        · rename_i hc
          subst hc
          cases u with
          | nil => simp at h
          | cons d v => simp at h; obtain ⟨_, rfl⟩ := h; exact signs_tail2 ht
        · rename_i hc
          split at h
          · exact signs_tail1 hc (some_set h ht)
          · cases h; exact signs_tail1 hc ht
theorem some_items : ∀ f l its, itemsF f l = some its → (signsL l).isSome = true := by
  intro f
  induction f with
  | zero => intro l its h; simp [itemsF] at h
  | succ f ih =>
    intro l its h
    simp only [itemsF] at h
    split at h
    · rename_i hl; subst hl; rfl
    · cases hs : itemL l with
      | none => simp [hs] at h
      | some y =>
        obtain ⟨x, u⟩ := y
        simp only [hs, Option.map_eq_some_iff] at h
        obtain ⟨r, hr, _⟩ := h
        exact some_item hs (ih _ _ hr)
/-- a pattern's items, by its signs -/
theorem itemsL_signs (l : List Nat) (hl : ¬ 24 < l.length) : itemsL l = (signsL l).bind (fun L => itemsFS (L.length + 1) L) := by
  unfold itemsL
  rw [if_neg hl]
  cases h : signsL l with
  | none =>
    cases hi : itemsF (l.length + 1) l with
    | none => rfl
    | some its => have := some_items _ _ _ hi; rw [h] at this; cases this
  | some L =>
    rw [items_signs _ l L h]
    have hlen := signs_len _ l L (Nat.le_refl _) h
    have two : ∀ f g (L : List Sg), L.length < f → L.length < g → itemsFS f L = itemsFS g L := by
      intro f
      induction f with
      | zero => intro g L h; omega
      | succ f ih =>
        intro g L h hg
        obtain ⟨g, rfl⟩ : ∃ k, g = k + 1 := ⟨g - 1, by omega⟩
        simp only [itemsFS]
        split
        · rfl
        · cases hs : itemS (L.length + 1) L with
          | none => rfl
          | some y =>
            obtain ⟨x, u⟩ := y
            have h1 := itemS_less hs
            simp only []
            rw [ih g u (by omega) (by omega)]
    exact two _ _ L (by omega) (by omega)
theorem itemsL_long (l : List Nat) (hl : 24 < l.length) : itemsL l = none := by unfold itemsL; rw [if_pos hl]
end GlobM
