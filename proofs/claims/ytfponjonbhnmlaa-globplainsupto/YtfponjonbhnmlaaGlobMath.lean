/-
  Patterns as the document has them: how a list of runes is read as items, and which runes they say. Nothing of the program.
-/
import Derived.Test.YtfponjonbhnmlaaKeyMathC
namespace GlobM

/-- an item: kind 0 one rune, 1 any number, 2 one of any, 3 a set -/
structure It where
  kind : Nat
  neg : Bool
  sp : List (Nat × Nat)
  deriving DecidableEq, Inhabited
def star : It := ⟨1, false, []⟩
def any : It := ⟨2, false, []⟩
def one (c : Nat) : It := ⟨0, false, [(c, c)]⟩
/-- an end of a set's item, and what stands behind it -/
def endL : List Nat → Option (Nat × List Nat)
  | [] => none
  | c :: t => if c = 93 ∨ c = 45 then none else if c ≠ 92 then some (c, t) else match t with
    | [] => none
    | d :: u => some (d, u)
/-- a span, and what stands behind it -/
def spanL (l : List Nat) : Option ((Nat × Nat) × List Nat) :=
  match endL l with
  | none => none
  | some (a, t) => if t.head? = some 45 then
      (match endL t.tail with
      | none => none
      | some (b, u) => if b < a then none else some ((a, b), u))
    else some ((a, a), t)
/-- a set's spans up to its end, and what stands behind it -/
def setF : Nat → List (Nat × Nat) → List Nat → Option (List (Nat × Nat) × List Nat)
  | 0, _, _ => none
  | f + 1, sp, l => if l.head? = some 93 then (if sp = [] then none else some (sp, l.tail)) else
    match spanL l with
    | none => none
    | some (x, t) => setF f (sp ++ [x]) t
/-- what stands behind a set's beginning -/
def setL (l : List Nat) : Option (It × List Nat) :=
  let neg := decide (l.head? = some 94)
  (setF (l.length + 1) [] (if neg then l.tail else l)).map fun x => (⟨3, neg, x.1⟩, x.2)
/-- the next item, and what stands behind it -/
def itemL : List Nat → Option (It × List Nat)
  | [] => none
  | c :: t => if c = 42 then some (star, t) else if c = 63 then some (any, t) else if c = 92 then (match t with
    | [] => none
    | d :: u => some (one d, u))
    else if c = 91 then setL t else some (one c, t)
def itemsF : Nat → List Nat → Option (List It)
  | 0, _ => none
  | f + 1, l => if l = [] then some [] else match itemL l with
    | none => none
    | some (x, t) => (itemsF f t).map (x :: ·)
/-- a pattern's items -/
def itemsL (l : List Nat) : Option (List It) := if 24 < l.length then none else itemsF (l.length + 1) l
/-- does an item that is none of any number say a rune? -/
def hasI (x : It) (r : Nat) : Bool := decide (x.kind = 2) || (x.sp.any (fun s => decide (s.1 ≤ r) && decide (r ≤ s.2)) != x.neg)

theorem endL_less {l : List Nat} {a : Nat} {t : List Nat} (h : endL l = some (a, t)) : t.length < l.length := by
  cases l with
  | nil => simp [endL] at h
  | cons c l =>
    simp only [endL] at h
    split at h
    · cases h
    · split at h
      · cases h; simp
      · cases l with
        | nil => simp at h
        | cons d u => simp at h; obtain ⟨_, rfl⟩ := h; simp; omega
theorem spanL_less {l : List Nat} {x : Nat × Nat} {t : List Nat} (h : spanL l = some (x, t)) : t.length < l.length := by
  unfold spanL at h
  cases he : endL l with
  | none => simp [he] at h
  | some y =>
    obtain ⟨a, u⟩ := y
    have h1 := endL_less he
    simp only [he] at h
    split at h
    · cases hf : endL u.tail with
      | none => simp [hf] at h
      | some z =>
        obtain ⟨b, v⟩ := z
        have h2 := endL_less hf
        simp only [hf] at h
        split at h
        · cases h
        · cases h
          have : u.tail.length ≤ u.length := by simp
          omega
    · cases h; exact h1
theorem setF_less : ∀ f sp l sp' t, setF f sp l = some (sp', t) → t.length < l.length := by
  intro f
  induction f with
  | zero => intro sp l sp' t h; simp [setF] at h
  | succ f ih =>
    intro sp l sp' t h
    simp only [setF] at h
    split at h
    · rename_i h0
      split at h
      · cases h
      · cases h
        cases l with
        | nil => simp at h0
        | cons c l => simp
    · cases hs : spanL l with
      | none => simp [hs] at h
      | some y =>
        obtain ⟨x, u⟩ := y
        simp only [hs] at h
        have h1 := spanL_less hs
        have h2 := ih _ _ _ _ h
        omega
theorem setL_less {l : List Nat} {x : It} {t : List Nat} (h : setL l = some (x, t)) : t.length < l.length := by
  unfold setL at h
  simp only [Option.map_eq_some_iff] at h
  obtain ⟨y, hy, e⟩ := h
  obtain ⟨sp, u⟩ := y
  cases e
  have h1 := setF_less _ _ _ _ _ hy
  have h2 : (if (decide (l.head? = some 94)) = true then l.tail else l).length ≤ l.length := by split <;> simp
  exact Nat.lt_of_lt_of_le h1 h2
theorem itemL_less {l : List Nat} {x : It} {t : List Nat} (h : itemL l = some (x, t)) : t.length < l.length := by
  cases l with
  | nil => simp [itemL] at h
  | cons c l =>
    simp only [itemL] at h
    split at h
    · cases h; simp
    · split at h
      · cases h; simp
      · split at h
        · cases l with
          | nil => simp at h
          | cons d u => simp at h; obtain ⟨_, rfl⟩ := h; simp; omega
        · split at h
          · have := setL_less h; simp; omega
          · cases h; simp
theorem setF_two : ∀ f g sp l, l.length < f → l.length < g → setF f sp l = setF g sp l := by
  intro f
  induction f with
  | zero => intro g sp l h; omega
  | succ f ih =>
    intro g sp l h hg
    obtain ⟨g, rfl⟩ : ∃ k, g = k + 1 := ⟨g - 1, by omega⟩
    simp only [setF]
    split
    · rfl
    · cases hs : spanL l with
      | none => rfl
      | some y =>
        obtain ⟨x, u⟩ := y
        have h1 := spanL_less hs
        exact ih g _ u (by omega) (by omega)
theorem itemsF_two : ∀ f g l, l.length < f → l.length < g → itemsF f l = itemsF g l := by
  intro f
  induction f with
  | zero => intro g l h; omega
  | succ f ih =>
    intro g l h hg
    obtain ⟨g, rfl⟩ : ∃ k, g = k + 1 := ⟨g - 1, by omega⟩
    simp only [itemsF]
    split
    · rfl
    · cases hs : itemL l with
      | none => rfl
      | some y =>
        obtain ⟨x, u⟩ := y
        have h1 := itemL_less hs
        simp only []
        rw [ih g u (by omega) (by omega)]

/-! ### what items say -/
/-- an item says a run of runes -/
def Says (x : It) (k : List Nat) : Prop := x.kind = 1 ∨ ∃ r, k = [r] ∧ hasI x r = true
/-- items say a row of runes, one behind the other -/
def M : List It → List Nat → Prop
  | [], k => k = []
  | x :: l, k => ∃ a b, k = a ++ b ∧ Says x a ∧ M l b
theorem M_append (l m : List It) (k : List Nat) : M (l ++ m) k ↔ ∃ a b, k = a ++ b ∧ M l a ∧ M m b := by
  induction l generalizing k with
  | nil => exact ⟨fun h => ⟨[], k, rfl, rfl, h⟩, fun ⟨a, b, e, ha, hb⟩ => by cases ha; simpa [e] using hb⟩
  | cons x l ih =>
    constructor
    · rintro ⟨a, b, rfl, ha, hb⟩
      obtain ⟨c, d, rfl, hc, hd⟩ := (ih b).1 hb
      exact ⟨a ++ c, d, by simp, ⟨a, c, rfl, ha, hc⟩, hd⟩
    · rintro ⟨a, b, rfl, ⟨c, d, rfl, hc, hd⟩, hb⟩
      exact ⟨c, d ++ b, by simp, hc, (ih _).2 ⟨d, b, rfl, hd, hb⟩⟩
theorem M_one (x : It) (k : List Nat) : M [x] k ↔ Says x k := by
  constructor
  · rintro ⟨a, b, rfl, ha, rfl⟩; simpa using ha
  · intro h; exact ⟨k, [], by simp, h, rfl⟩
/-- behind any number: the row of places at which items may end, one item on -/
theorem M_star (l : List It) (x : It) (hx : x.kind = 1) (k : List Nat) (r : Nat) : M (l ++ [x]) (k ++ [r]) ↔ M l (k ++ [r]) ∨ M (l ++ [x]) k := by
  simp only [M_append, M_one]
  constructor
  · rintro ⟨a, b, e, ha, hb⟩
    rcases List.eq_nil_or_concat b with rfl | ⟨b', y, rfl⟩
    · left; rw [List.append_nil] at e; rw [e]; exact ha
    · right
      rw [List.concat_eq_append, ← List.append_assoc] at e
      obtain ⟨e1, e2⟩ := List.append_inj' e rfl
      exact ⟨a, b', e1, ha, .inl hx⟩
  · rintro (h | ⟨a, b, rfl, ha, _⟩)
    · exact ⟨k ++ [r], [], by simp, h, .inl hx⟩
    · exact ⟨a, b ++ [r], by simp, ha, .inl hx⟩
theorem M_star_nil (l : List It) (x : It) (hx : x.kind = 1) : M (l ++ [x]) [] ↔ M l [] := by
  simp only [M_append, M_one]
  constructor
  · rintro ⟨a, b, e, ha, _⟩
    have := List.append_eq_nil_iff.1 e.symm
    rw [this.1] at ha; exact ha
  · intro h; exact ⟨[], [], rfl, h, .inl hx⟩
theorem M_has (l : List It) (x : It) (hx : ¬ x.kind = 1) (k : List Nat) (r : Nat) : M (l ++ [x]) (k ++ [r]) ↔ M l k ∧ hasI x r = true := by
  simp only [M_append, M_one]
  constructor
  · rintro ⟨a, b, e, ha, hb⟩
    rcases hb with hb | ⟨y, rfl, hy⟩
    · exact absurd hb hx
    · obtain ⟨e1, e2⟩ := List.append_inj' e rfl
      cases e2; subst e1
      exact ⟨ha, hy⟩
  · rintro ⟨h1, h2⟩; exact ⟨k, [r], rfl, h1, .inr ⟨r, rfl, h2⟩⟩
theorem M_has_nil (l : List It) (x : It) (hx : ¬ x.kind = 1) : ¬ M (l ++ [x]) [] := by
  simp only [M_append, M_one]
  rintro ⟨a, b, e, ha, hb⟩
  have := List.append_eq_nil_iff.1 e.symm
  rcases hb with hb | ⟨y, hb, hy⟩
  · exact hx hb
  · rw [this.2] at hb; cases hb
end GlobM
