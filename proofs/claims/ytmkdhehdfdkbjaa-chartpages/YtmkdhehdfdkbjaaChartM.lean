/-
  An account of regions as the document has it. Nothing of the program.
-/
import Derived.Test.YtmkdhehdfdkbjaaCommon
set_option linter.unusedVariables false
set_option linter.unusedSimpArgs false
namespace Go.Proofs.Ytmkdhehdfdkbjaa.Chart

structure Ch where
  pg : Nat
  pgs : Nat
  rgs : Nat
  st : List (Nat × Nat)
  now : Option Nat
def Ch.slots (c : Ch) : Nat := c.pgs - 1
def Ch.is (c : Ch) (i : Int) : Bool := decide (0 ≤ i) && decide (i < (c.rgs : Int))
def Ch.ep (c : Ch) (i : Nat) : Nat := (c.st.getD i (0, 0)).1
def Ch.us (c : Ch) (i : Nat) : Nat := (c.st.getD i (0, 0)).2
/-- such an account as there may be -/
structure Ch.Ok (c : Ch) : Prop where
  p0 : 32 ≤ c.pg
  p1 : c.pg ≤ 128
  s0 : 3 ≤ c.pgs
  s1 : c.pgs ≤ 10
  r0 : 4 ≤ c.rgs
  r1 : c.rgs ≤ 12
  len : c.st.length = c.rgs
  ep : ∀ i, c.ep i ≤ 2147483647
  us : ∀ i, c.us i ≤ c.slots
  free : ∀ i, c.ep i = 0 → c.us i = 0
  now : ∀ k, c.now = some k → k < c.rgs ∧ c.ep k ≠ 0
/-- of the first k the greatest epoch -/
def Ch.maxTo (c : Ch) : Nat → Nat
  | 0 => 0
  | k + 1 => if c.maxTo k < c.ep k then c.ep k else c.maxTo k
/-- .. the first region that has it -/
def Ch.topTo (c : Ch) : Nat → Nat
  | 0 => 0
  | k + 1 => if c.maxTo k < c.ep k then k else c.topTo k
def Ch.cntTo (c : Ch) : Nat → Nat
  | 0 => 0
  | k + 1 => if c.ep k = 0 then c.cntTo k + 1 else c.cntTo k
def Ch.oldTo (c : Ch) : Nat → Option Nat
  | 0 => none
  | k + 1 => if c.ep k = 0 ∨ c.now = some k then c.oldTo k else match c.oldTo k with
    | none => some k
    | some j => if c.ep k < c.ep j then some k else some j
/-- the first free one of n, from that place on, going round -/
def Ch.scan (c : Ch) (first : Nat) : Nat → Nat → Option Nat
  | _, 0 => none
  | i, n + 1 => if c.ep ((first + i) % c.rgs) = 0 then some ((first + i) % c.rgs) else c.scan first (i + 1) n
def Ch.max (c : Ch) : Nat := c.maxTo c.rgs
def Ch.top (c : Ch) : Nat := c.topTo c.rgs
def Ch.free (c : Ch) : Nat := c.cntTo c.rgs
def Ch.left (c : Ch) : Nat := match c.now with
  | none => 0
  | some k => c.slots - c.us k
def Ch.avail (c : Ch) : Nat := c.left + (c.free - 2) * c.slots
def Ch.next (c : Ch) : Option Nat := c.scan c.top 0 c.rgs
def Ch.put (c : Ch) (i e u : Nat) : Ch := { c with st := c.st.set i (e, u) }
def newC (pg pgs rgs : Nat) : Ch := ⟨pg, pgs, rgs, List.replicate rgs (0, 0), none⟩
def setC (c : Ch) (i : Int) (e : Nat) (u : Int) : Nat × Ch :=
  if c.is i = false ∨ e < 1 ∨ 2147483647 < e ∨ u < 0 ∨ (c.slots : Int) < u then (1, c)
  else if c.ep i.toNat ≠ 0 then (7, c) else (0, c.put i.toNat e u.toNat)
def resumeC (c : Ch) (i : Int) : Nat × Ch :=
  if c.is i = false then (1, c)
  else if c.ep i.toNat = 0 ∨ c.now.isSome = true ∨ c.ep i.toNat < c.max then (7, c) else (0, { c with now := some i.toNat })
def epochC (c : Ch) (i : Int) : Nat := if c.is i = true then c.ep i.toNat else 0
def usedC (c : Ch) (i : Int) : Nat := if c.is i = true then c.us i.toNat else 0
def Ch.openAt (c : Ch) (r : Nat) : Ch := { c.put r (c.max + 1) 0 with now := some r }
def openC (c : Ch) : (Nat × Nat × Bool) × Ch :=
  if 2147483647 ≤ c.max then ((0, 0, false), c) else match c.next with
    | none => ((0, 0, false), c)
    | some r => ((r, c.max + 1, true), c.openAt r)
def Ch.takeAt (c : Ch) (k : Nat) : Ch := c.put k (c.ep k) (c.us k + 1)
def takeC (c : Ch) : (Nat × Bool) × Ch :=
  if c.left = 0 then ((0, false), c) else match c.now with
    | none => ((0, false), c)
    | some k => ((k * c.pgs + (c.us k + 1), true), c.takeAt k)
def oldestC (c : Ch) : Nat × Bool := match c.oldTo c.rgs with
  | none => (0, false)
  | some k => (k, true)
def eraseC (c : Ch) (i : Int) : Nat × Ch :=
  if c.is i = false then (1, c) else if c.ep i.toNat = 0 ∨ c.now = some i.toNat then (7, c) else (0, c.put i.toNat 0 0)

theorem Ch.is_lt {c : Ch} {i : Int} (h : c.is i = true) : ∃ k : Nat, i = (k : Int) ∧ k < c.rgs := by
  unfold Ch.is at h
  simp only [Bool.and_eq_true, decide_eq_true_eq] at h
  exact ⟨i.toNat, by omega, by omega⟩
theorem Ch.is_nat {c : Ch} {k : Nat} (h : k < c.rgs) : c.is (k : Int) = true := by
  unfold Ch.is; simp; omega
theorem Ch.is_not {c : Ch} {i : Int} (h : c.is i = false) : i < 0 ∨ (c.rgs : Int) ≤ i := by
  unfold Ch.is at h
  simp only [Bool.and_eq_false_iff, decide_eq_false_iff_not] at h
  omega
theorem put_ep {c : Ch} (hl : c.st.length = c.rgs) {i e u : Nat} (hi : i < c.rgs) (j : Nat) : (c.put i e u).ep j = if j = i then e else c.ep j := by
  unfold Ch.put Ch.ep
  simp only [List.getD_eq_getElem?_getD, List.getElem?_set]
  by_cases h : i = j
  · subst h; simp [hl, hi]
  · have h2 : ¬ j = i := fun x => h x.symm
    simp [h, h2]
theorem put_us {c : Ch} (hl : c.st.length = c.rgs) {i e u : Nat} (hi : i < c.rgs) (j : Nat) : (c.put i e u).us j = if j = i then u else c.us j := by
  unfold Ch.put Ch.us
  simp only [List.getD_eq_getElem?_getD, List.getElem?_set]
  by_cases h : i = j
  · subst h; simp [hl, hi]
  · have h2 : ¬ j = i := fun x => h x.symm
    simp [h, h2]
theorem ep_out {c : Ch} (hl : c.st.length = c.rgs) {j : Nat} (hj : c.rgs ≤ j) : c.ep j = 0 := by
  unfold Ch.ep; rw [List.getD_eq_getElem?_getD, List.getElem?_eq_none (by omega)]; rfl
theorem us_out {c : Ch} (hl : c.st.length = c.rgs) {j : Nat} (hj : c.rgs ≤ j) : c.us j = 0 := by
  unfold Ch.us; rw [List.getD_eq_getElem?_getD, List.getElem?_eq_none (by omega)]; rfl
theorem st_get {c : Ch} {j : Nat} (hj : j < c.st.length) : c.st[j] = (c.ep j, c.us j) := by
  unfold Ch.ep Ch.us; rw [List.getD_eq_getElem?_getD, List.getElem?_eq_getElem hj]; rfl
theorem maxTo_le {c : Ch} {B : Nat} (h : ∀ i, c.ep i ≤ B) (k : Nat) : c.maxTo k ≤ B := by
  induction k with
  | zero => exact Nat.zero_le _
  | succ k ih => unfold Ch.maxTo; split
                 · exact h k
                 · exact ih
theorem le_maxTo {c : Ch} {k j : Nat} (h : j < k) : c.ep j ≤ c.maxTo k := by
  induction k with
  | zero => omega
  | succ k ih =>
    unfold Ch.maxTo
    by_cases e : j = k
    · subst e; split <;> omega
    · have := ih (by omega); split <;> omega
theorem maxTo_step (c : Ch) (k : Nat) : c.maxTo k ≤ c.maxTo (k + 1) := by
  rw [Ch.maxTo]; split <;> omega
theorem maxTo_mono (c : Ch) {k n : Nat} (h : k ≤ n) : c.maxTo k ≤ c.maxTo n := by
  induction n with
  | zero => obtain rfl : k = 0 := by omega
            exact Nat.le_refl _
  | succ n ih =>
    by_cases e : k = n + 1
    · subst e; exact Nat.le_refl _
    · exact Nat.le_trans (ih (by omega)) (maxTo_step c n)
theorem ep_topTo {c : Ch} {k : Nat} (h : 0 < k) : c.ep (c.topTo k) = c.maxTo k := by
  induction k with
  | zero => omega
  | succ k ih =>
    rw [Ch.topTo, Ch.maxTo]
    by_cases hn : c.maxTo k < c.ep k
    · rw [if_pos hn, if_pos hn]
    · rw [if_neg hn, if_neg hn]
      cases k with
      | zero =>
        simp only [Ch.topTo, Ch.maxTo] at hn ⊢; omega
      | succ k => exact ih (by omega)
theorem topTo_lt {c : Ch} {k : Nat} (h : 0 < k) : c.topTo k < k := by
  induction k with
  | zero => omega
  | succ k ih =>
    rw [Ch.topTo]
    split
    · omega
    · cases k with
      | zero => simp [Ch.topTo]
      | succ k => have := ih (by omega); omega
theorem topTo_zero {c : Ch} {k : Nat} (h : c.maxTo k = 0) : c.topTo k = 0 := by
  induction k with
  | zero => rfl
  | succ k ih =>
    have h0 := maxTo_step c k
    unfold Ch.maxTo at h
    unfold Ch.topTo
    split at h
    · omega
    · rename_i hn; rw [if_neg hn]; exact ih h
/-- the document's own step of the loop: from the second one on it asks the top's epoch -/
theorem topTo_next (c : Ch) (k : Nat) : c.topTo (k + 1) = if c.ep (c.topTo k) < c.ep k then k else c.topTo k := by
  cases k with
  | zero => simp [Ch.topTo]
  | succ k => rw [ep_topTo (by omega)]; rfl
theorem cntTo_le (c : Ch) (k : Nat) : c.cntTo k ≤ k := by
  induction k with
  | zero => exact Nat.le_refl _
  | succ k ih => unfold Ch.cntTo; split <;> omega
theorem cntTo_zero {c : Ch} {k : Nat} (h : ∀ j, j < k → c.ep j ≠ 0) : c.cntTo k = 0 := by
  induction k with
  | zero => rfl
  | succ k ih => unfold Ch.cntTo; rw [if_neg (h k (by omega))]; exact ih fun j hj => h j (by omega)
theorem cntTo_pos {c : Ch} {k j : Nat} (hj : j < k) (h : c.ep j = 0) : 0 < c.cntTo k := by
  induction k with
  | zero => omega
  | succ k ih =>
    unfold Ch.cntTo
    by_cases e : j = k
    · subst e; rw [if_pos h]; omega
    · have := ih (by omega); split <;> omega
theorem scan_none {c : Ch} {first i n : Nat} (h : c.scan first i n = none) : ∀ j, j < n → c.ep ((first + (i + j)) % c.rgs) ≠ 0 := by
  induction n generalizing i with
  | zero => intro j hj; omega
  | succ n ih =>
    unfold Ch.scan at h
    split at h
    · simp at h
    · rename_i hn
      intro j hj
      cases j with
      | zero => exact hn
      | succ j => have := ih h j (by omega); rw [show i + (j + 1) = i + 1 + j by omega]; exact this
theorem scan_some {c : Ch} {first i n r : Nat} (hr : 0 < c.rgs) (h : c.scan first i n = some r) : r < c.rgs ∧ c.ep r = 0 := by
  induction n generalizing i with
  | zero => simp [Ch.scan] at h
  | succ n ih =>
    unfold Ch.scan at h
    split at h
    · rename_i h0
      simp only [Option.some.injEq] at h
      subst h
      exact ⟨Nat.mod_lt _ hr, h0⟩
    · exact ih h
theorem scan_free {c : Ch} {first : Nat} (hr : 0 < c.rgs) : c.scan first 0 c.rgs = none ↔ c.free = 0 := by
  constructor
  · intro h
    refine cntTo_zero fun j hj => ?_
    have hs := scan_none h
    have h1 : first % c.rgs < c.rgs := Nat.mod_lt _ hr
    by_cases hle : first % c.rgs ≤ j
    · have := hs (j - first % c.rgs) (by omega)
      rw [Nat.zero_add, Nat.add_mod, Nat.mod_eq_of_lt (show j - first % c.rgs < c.rgs by omega), show first % c.rgs + (j - first % c.rgs) = j by omega, Nat.mod_eq_of_lt hj] at this
      exact this
    · have := hs (c.rgs + j - first % c.rgs) (by omega)
      rw [Nat.zero_add, Nat.add_mod, Nat.mod_eq_of_lt (show c.rgs + j - first % c.rgs < c.rgs by omega), show first % c.rgs + (c.rgs + j - first % c.rgs) = c.rgs + j by omega, Nat.add_mod_left, Nat.mod_eq_of_lt hj] at this
      exact this
  · intro h
    cases hs : c.scan first 0 c.rgs with
    | none => rfl
    | some r =>
      have := scan_some hr hs
      have := cntTo_pos this.1 this.2
      unfold Ch.free at h; omega
theorem left_le {c : Ch} : c.left ≤ c.slots := by
  unfold Ch.left; split <;> omega
theorem left_open {c : Ch} (h : c.left ≠ 0) : ∃ k, c.now = some k ∧ c.us k < c.slots ∧ c.left = c.slots - c.us k := by
  unfold Ch.left at h ⊢
  cases hn : c.now with
  | none => rw [hn] at h; simp at h
  | some k => rw [hn] at h; exact ⟨k, rfl, by simp only at h; omega, rfl⟩
theorem oldTo_lt {c : Ch} {k j : Nat} (h : c.oldTo k = some j) : j < k := by
  induction k generalizing j with
  | zero => simp [Ch.oldTo] at h
  | succ k ih =>
    unfold Ch.oldTo at h
    split at h
    · have := ih h; omega
    · split at h
      · simp at h; omega
      · rename_i x hx
        have := ih hx
        split at h <;> simp at h <;> omega
theorem new_ep (pg pgs rgs i : Nat) : (newC pg pgs rgs).ep i = 0 := by
  unfold newC Ch.ep; simp only [List.getD_eq_getElem?_getD, List.getElem?_replicate]; split <;> rfl
theorem new_us (pg pgs rgs i : Nat) : (newC pg pgs rgs).us i = 0 := by
  unfold newC Ch.us; simp only [List.getD_eq_getElem?_getD, List.getElem?_replicate]; split <;> rfl
theorem new_ok {pg pgs rgs : Nat} (p0 : 32 ≤ pg) (p1 : pg ≤ 128) (s0 : 3 ≤ pgs) (s1 : pgs ≤ 10) (r0 : 4 ≤ rgs) (r1 : rgs ≤ 12) : (newC pg pgs rgs).Ok :=
  ⟨p0, p1, s0, s1, r0, r1, by simp [newC], fun i => by rw [new_ep]; omega, fun i => by rw [new_us]; omega, fun i _ => new_us _ _ _ i, fun k h => by simp [newC] at h⟩
theorem max_le {c : Ch} (h : c.Ok) : c.max ≤ 2147483647 := maxTo_le h.ep _
theorem put_ok {c : Ch} (h : c.Ok) {i e u : Nat} (hi : i < c.rgs) (he : e ≤ 2147483647) (hu : u ≤ c.slots) (h0 : e = 0 → u = 0 ∧ c.now ≠ some i) : (c.put i e u).Ok := by
  have H1 := put_ep h.len (i := i) (e := e) (u := u) hi
  have H2 := put_us h.len (i := i) (e := e) (u := u) hi
  refine ⟨h.p0, h.p1, h.s0, h.s1, h.r0, h.r1, by simp [Ch.put, h.len], fun j => ?_, fun j => ?_, fun j hj => ?_, fun k hk => ⟨(h.now k hk).1, ?_⟩⟩
  · rw [H1]; split
    · exact he
    · exact h.ep j
  · rw [H2]; split
    · exact hu
    · exact h.us j
  · rw [H1] at hj; rw [H2]; split at hj
    · rename_i e1; rw [if_pos e1]; exact (h0 hj).1
    · rename_i e1; rw [if_neg e1]; exact h.free j hj
  · rw [H1]; split
    · rename_i e1; intro e2; exact (h0 e2).2 (by rw [← e1]; exact hk)
    · exact (h.now k hk).2
theorem now_ok {c : Ch} (h : c.Ok) {k : Nat} (hk : k < c.rgs) (he : c.ep k ≠ 0) : ({ c with now := some k } : Ch).Ok :=
  ⟨h.p0, h.p1, h.s0, h.s1, h.r0, h.r1, h.len, h.ep, h.us, h.free, fun j hj => by simp only [Option.some.injEq] at hj; subst hj; exact ⟨hk, he⟩⟩
theorem set_keeps {c : Ch} (h : c.Ok) (i : Int) (e : Nat) (u : Int) : (setC c i e u).2.Ok := by
  unfold setC
  split
  · exact h
  · rename_i hn
    split
    · exact h
    · rename_i h0
      have hi : c.is i = true := by cases hx : c.is i <;> simp [hx] at hn ⊢
      obtain ⟨k, rfl, hk⟩ := Ch.is_lt hi
      refine put_ok h (by simpa using hk) (by omega) (by omega) (by omega)
theorem resume_keeps {c : Ch} (h : c.Ok) (i : Int) : (resumeC c i).2.Ok := by
  unfold resumeC
  split
  · exact h
  · rename_i hn
    split
    · exact h
    · rename_i h0
      obtain ⟨k, rfl, hk⟩ := Ch.is_lt (by simpa using hn)
      exact now_ok h (by simpa using hk) (by intro e; exact h0 (.inl e))
theorem next_lt {c : Ch} (h : c.Ok) {r : Nat} (hr : c.next = some r) : r < c.rgs ∧ c.ep r = 0 := scan_some (by have := h.r0; omega) hr
theorem openAt_ok {c : Ch} (h : c.Ok) {r : Nat} (hr : r < c.rgs) (hm : c.max < 2147483647) : (c.openAt r).Ok := by
  have h1 := put_ok h (i := r) (e := c.max + 1) (u := 0) hr (by omega) (Nat.zero_le _) (by omega)
  exact now_ok h1 hr (by rw [put_ep h.len hr, if_pos rfl]; omega)
theorem open_keeps {c : Ch} (h : c.Ok) : (openC c).2.Ok := by
  unfold openC
  split
  · exact h
  · cases hn : c.next with
    | none => exact h
    | some r => exact openAt_ok h (next_lt h hn).1 (by omega)
theorem takeAt_ok {c : Ch} (h : c.Ok) {k : Nat} (hn : c.now = some k) (hu : c.us k < c.slots) : (c.takeAt k).Ok :=
  put_ok h (h.now k hn).1 (h.ep k) (by omega) (fun e => absurd e (h.now k hn).2)
theorem take_keeps {c : Ch} (h : c.Ok) : (takeC c).2.Ok := by
  unfold takeC
  split
  · exact h
  · rename_i hl
    obtain ⟨k, hn, hu, _⟩ := left_open hl
    rw [hn]
    exact takeAt_ok h hn hu
theorem erase_keeps {c : Ch} (h : c.Ok) (i : Int) : (eraseC c i).2.Ok := by
  unfold eraseC
  split
  · exact h
  · rename_i hn
    split
    · exact h
    · rename_i h0
      obtain ⟨k, rfl, hk⟩ := Ch.is_lt (by simpa using hn)
      simp only [Int.toNat_natCast] at h0 ⊢
      exact put_ok h hk (Nat.zero_le _) (Nat.zero_le _) fun _ => ⟨rfl, fun e => h0 (.inr e)⟩
theorem take_open {c : Ch} {k : Nat} (hn : c.now = some k) (hu : c.us k < c.slots) : takeC c = ((k * c.pgs + (c.us k + 1), true), c.takeAt k) := by
  unfold takeC
  have : c.left ≠ 0 := by unfold Ch.left; rw [hn]; simp only; omega
  rw [if_neg this, hn]
theorem take_full {c : Ch} (h : c.left = 0) : takeC c = ((0, false), c) := by unfold takeC; rw [if_pos h]
end Go.Proofs.Ytmkdhehdfdkbjaa.Chart
