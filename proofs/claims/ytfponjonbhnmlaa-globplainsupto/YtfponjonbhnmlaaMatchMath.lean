/-
  Which places a pattern's items may end at; a row of truths in memory. Nothing of the program's functions.
-/
import Derived.Test.YtfponjonbhnmlaaGlobMath
import Derived.Test.YtfponjonbhnmlaaOwn
import Derived.Test.YtfponjonbhnmlaaRefRune
import Derived.Test.YtfponjonbhnmlaaKeyMath
import Derived.Deep.RegionHeld3
namespace Go.Proofs.Ytfponjonbhnmlaa.RefGlob
open Go.RowKit
open RuneM RefRune Own GlobM

def inSpan (r : Nat) (s : Nat × Nat) : Bool := decide (s.1 ≤ r) && decide (r ≤ s.2)
theorem any_take {sp : List (Nat × Nat)} {k r : Nat} (h : k < sp.length) : (sp.take (k + 1)).any (inSpan r) = ((sp.take k).any (inSpan r) || inSpan r sp[k]) := by
  rw [List.take_succ_eq_append_getElem h, List.any_append]; simp
/-- the places at which one item more may end -/
def stepB (it : It) (r : List Nat) (f : Nat → Bool) : Nat → Bool
  | 0 => decide (it.kind = 1) && f 0
  | j + 1 => if it.kind = 1 then f (j + 1) || stepB it r f j else f j && hasI it (r.getD j 0)
def rowB (r : List Nat) (its : List It) : Nat → Bool := its.foldl (fun f it => stepB it r f) (fun j => decide (j = 0))
theorem rowB_snoc (r : List Nat) (its : List It) (it : It) : rowB r (its ++ [it]) = stepB it r (rowB r its) := by simp [rowB, List.foldl_append]
theorem rowB_take {r : List Nat} {its : List It} {i : Nat} (h : i < its.length) : rowB r (its.take (i + 1)) = stepB its[i] r (rowB r (its.take i)) := by
  rw [List.take_succ_eq_append_getElem h, rowB_snoc]
/-- does a pattern match a text? -/
def globB (p k : ByteArray) : Bool := match itemsL (nums p) with
  | none => false
  | some its => rowB (nums k) its (nums k).length
theorem globB_none {p k : ByteArray} (h : itemsL (nums p) = none) : globB p k = false := by simp [globB, h]
theorem globB_some {p k : ByteArray} {its : List It} (h : itemsL (nums p) = some its) : globB p k = rowB (nums k) its (nums k).length := by simp [globB, h]
/-- the places are what the items say -/
theorem rowB_says (r : List Nat) : ∀ (n : Nat) (its : List It), its.length = n → ∀ j, j ≤ r.length → (rowB r its j = true ↔ M its (r.take j)) := by
  intro n
  induction n with
  | zero =>
    intro its hn j hj
    have := List.length_eq_zero_iff.1 hn
    subst this
    simp only [rowB, List.foldl_nil, M, decide_eq_true_eq, List.take_eq_nil_iff]
    constructor
    · exact fun h => .inl h
    · rintro (h | h)
      · exact h
      · subst h; simpa using hj
  | succ n ih =>
    intro its hn j hj
    rcases List.eq_nil_or_concat its with rfl | ⟨l, x, rfl⟩
    · simp at hn
    rw [List.concat_eq_append] at hn ⊢
    have hl : l.length = n := by simp at hn; exact hn
    rw [rowB_snoc]
    induction j with
    | zero =>
      have h0 := ih l hl 0 (Nat.zero_le _)
      simp only [List.take_zero] at h0 ⊢
      by_cases hx : x.kind = 1
      · rw [M_star_nil l x hx, ← h0]; simp [stepB, hx]
      · have := M_has_nil l x hx
        simp [stepB, hx, this]
    | succ j ihj =>
      have hj' : j < r.length := by omega
      have hij : stepB x r (rowB r l) j = true ↔ M (l ++ [x]) (r.take j) := ihj (by omega)
      rw [List.take_succ_eq_append_getElem hj']
      by_cases hx : x.kind = 1
      · rw [M_star l x hx, ← List.take_succ_eq_append_getElem hj']
        have h2 := ih l hl (j + 1) hj
        simp only [stepB, hx, if_true, Bool.or_eq_true]
        exact or_congr h2 hij
      · rw [M_has l x hx]
        have h2 := ih l hl j (by omega)
        simp only [stepB, hx, if_false, Bool.and_eq_true]
        rw [show r.getD j 0 = r[j] by simp [hj']]
        exact and_congr h2 Iff.rfl
theorem setF_len : ∀ f sp l sp' t, setF f sp l = some (sp', t) → sp'.length + t.length < sp.length + l.length := by
  intro f
  induction f with
  | zero => intro sp l sp' t h; simp [setF] at h
  | succ f ih =>
    intro sp l sp' t h
    simp only [setF] at h
    split at h
    · rename_i hh
      split at h
      · cases h
      · cases h
        cases l with
        | nil => simp at hh
        | cons c l => simp
    · cases hs : spanL l with
      | none => simp [hs] at h
      | some z =>
        obtain ⟨x, u⟩ := z
        simp only [hs] at h
        have := ih _ _ _ _ h
        have := spanL_less hs
        simp at *; omega
theorem setL_len {l : List Nat} {it : It} {t : List Nat} (h : setL l = some (it, t)) : it.sp.length ≤ l.length := by
  unfold setL at h
  simp only [Option.map_eq_some_iff] at h
  obtain ⟨y, hy, e⟩ := h
  obtain ⟨sp, u⟩ := y
  cases e
  have := setF_len _ _ _ _ _ hy
  split at this <;> simp at this ⊢ <;> omega
theorem itemL_len {l : List Nat} {it : It} {t : List Nat} (h : itemL l = some (it, t)) : it.sp.length ≤ l.length := by
  cases l with
  | nil => simp [itemL] at h
  | cons c l =>
    simp only [itemL] at h
    split at h
    · cases h; simp [star]
    · split at h
      · cases h; simp [any]
      · split at h
        · split at h
          · cases h
          · cases h; simp [one]
        · split at h
          · have := setL_len h; simp; omega
          · cases h; simp [one]
theorem itemsF_len : ∀ f l its, itemsF f l = some its → its.length ≤ l.length ∧ ∀ x ∈ its, x.sp.length ≤ l.length := by
  intro f
  induction f with
  | zero => intro l its h; simp [itemsF] at h
  | succ f ih =>
    intro l its h
    simp only [itemsF] at h
    split at h
    · cases h; simp
    · cases hi : itemL l with
      | none => simp [hi] at h
      | some z =>
        obtain ⟨x, t⟩ := z
        simp only [hi, Option.map_eq_some_iff] at h
        obtain ⟨r, hr, rfl⟩ := h
        have h1 := ih _ _ hr
        have h2 := itemL_less hi
        have h3 := itemL_len hi
        refine ⟨by simp; omega, fun y hy => ?_⟩
        rcases List.mem_cons.1 hy with rfl | hy
        · exact h3
        · have := h1.2 y hy; omega
theorem itemsL_len {l : List Nat} {its : List It} (h : itemsL l = some its) : its.length ≤ 24 ∧ ∀ x ∈ its, x.sp.length ≤ 24 := by
  unfold itemsL at h
  split at h
  · cases h
  · have := itemsF_len _ _ _ h
    exact ⟨by omega, fun x hx => by have := this.2 x hx; omega⟩
/-- a row of truths in a block; the first of them as said -/
def Bits (w : World) (g n : Nat) (f : Nat → Bool) (k : Nat) : Prop :=
  (∀ j, j < n → (∃ b, w.cell? ⟨g, j, none⟩ = some (.bool b)) ∧ w.frozen? ⟨g, j, none⟩ = false) ∧ ∀ j, j < k → w.cell? ⟨g, j, none⟩ = some (.bool (f j))
theorem Bits.lt {w : World} {g n k : Nat} {f : Nat → Bool} (h : Bits w g n f k) (hn : 0 < n) : g < w.heap.size := by
  obtain ⟨b, hb⟩ := (h.1 0 hn).1
  exact block_lt_of_cell hb
theorem Bits.below {w w' : World} {g n k : Nat} {f : Nat → Bool} (h : Bits w g n f k) (hk : k ≤ n) (hb : Below w.heap.size w w') : Bits w' g n f k := by
  have hl : ∀ j, j < n → w'.cell? ⟨g, j, none⟩ = w.cell? ⟨g, j, none⟩ ∧ w'.frozen? ⟨g, j, none⟩ = w.frozen? ⟨g, j, none⟩ := fun j hj => by
    obtain ⟨b, hc⟩ := (h.1 j hj).1
    have := block_lt_of_cell hc
    exact ⟨hb.cell this, hb.frozen this⟩
  refine ⟨fun j hj => ?_, fun j hj => ?_⟩
  · rw [(hl j hj).1, (hl j hj).2]; exact h.1 j hj
  · rw [(hl j (by omega)).1]; exact h.2 j hj
theorem Bits.set {w : World} {g n k : Nat} {f : Nat → Bool} (h : Bits w g n f k) (hk : k < n) {b : Bool} (hb : b = f k) : Bits (w.setCell ⟨g, k, none⟩ (.bool b)) g n f (k + 1) := by
  obtain ⟨b0, h0⟩ := (h.1 k hk).1
  have key : ∀ j, (w.setCell ⟨g, k, none⟩ (.bool b)).cell? ⟨g, j, none⟩ = if j = k then some (.bool b) else w.cell? ⟨g, j, none⟩ := fun j => by
    by_cases e : j = k
    · subst e; rw [if_pos rfl, World.cell?_setCell_same _ _ _ h0]
    · rw [if_neg e, World.cell?_setCell_other _ _ _ _ (fun hh => e (congrArg Addr.off hh).symm)]
  refine ⟨fun j hj => ⟨?_, by rw [World.frozen?_setCell]; exact (h.1 j hj).2⟩, fun j hj => ?_⟩
  · rw [key]
    by_cases e : j = k
    · exact ⟨b, by rw [if_pos e]⟩
    · rw [if_neg e]; exact (h.1 j hj).1
  · rw [key]
    by_cases e : j = k
    · subst e; rw [if_pos rfl, hb]
    · rw [if_neg e]; exact h.2 j (by omega)
theorem Bits.of_make {w2 : World} {base B n cap : Nat} {e : TypeId} (h : w2.ownsRow base e 1 (.slice (some ⟨B, 0, none⟩) n cap) n (madeCells (Value.bool false).cells (n * 1)).toList) (f : Nat → Bool) : Bits w2 B n f 0 := by
  refine ⟨fun j hj => ⟨⟨false, ?_⟩, h.frozenAt j⟩, fun j hj => by omega⟩
  rw [h.cellAt j (by omega)]
  have : (madeCells (Value.bool false).cells (n * 1)).toList = List.replicate n (.bool false) := by
    rw [Nat.mul_one]; exact toList_madeCells_one (.bool false) n
  rw [this]
  simp [hj]
theorem Bits.start {w2 : World} {base B n cap : Nat} {e : TypeId} (h : w2.ownsRow base e 1 (.slice (some ⟨B, 0, none⟩) n cap) n (madeCells (Value.bool false).cells (n * 1)).toList) (hn : 0 < n) : Bits (w2.setCell ⟨B, 0, none⟩ (.bool true)) B n (fun j => decide (j = 0)) n := by
  have hc : ∀ j, j < n → w2.cell? ⟨B, j, none⟩ = some (.bool false) := fun j hj => by
    rw [h.cellAt j (by omega)]
    have : (madeCells (Value.bool false).cells (n * 1)).toList = List.replicate n (.bool false) := by
      rw [Nat.mul_one]; exact toList_madeCells_one (.bool false) n
    rw [this]
    simp [hj]
  have key : ∀ j, j < n → (w2.setCell ⟨B, 0, none⟩ (.bool true)).cell? ⟨B, j, none⟩ = some (.bool (decide (j = 0))) := fun j hj => by
    by_cases e : j = 0
    · subst e; rw [World.cell?_setCell_same _ _ _ (hc 0 hn)]; rfl
    · rw [World.cell?_setCell_other _ _ _ _ (fun hh => e (congrArg Addr.off hh).symm), hc j hj]; simp [e]
  exact ⟨fun j hj => ⟨⟨_, key j hj⟩, by rw [World.frozen?_setCell]; exact h.frozenAt j⟩, key⟩
theorem infoBool : (Try.prog.info? 4).map (fun i => (i.zero, i.size, i.bytes)) = some (some (.bool false), 1, 1) := by kernel_rfl
end Go.Proofs.Ytfponjonbhnmlaa.RefGlob
