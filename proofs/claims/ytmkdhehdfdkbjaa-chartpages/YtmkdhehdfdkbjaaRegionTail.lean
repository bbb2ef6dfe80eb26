/-
  A region that draws its order, of which the last operations wait for all that stand ahead of them: the ones ahead are walked once each, the last ones in the order of the text.
-/
import Derived.Test.YtmkdhehdfdkbjaaRegion2
set_option linter.unusedVariables false
set_option linter.unusedSimpArgs false
namespace Go.Proofs.Ytmkdhehdfdkbjaa.Region
open Go.RowKit

/-- an operation waits for another one, by way of others -/
inductive Anc (l : List Oper) : Nat → Nat → Prop
  | one {i j : Nat} : waits l i j = true → Anc l i j
  | more {i k j : Nat} : waits l i k = true → Anc l k j → Anc l i j
theorem Anc.listed {l : List Oper} {d : Nat → Bool} (hd : ∀ j i, waits l j i = true → d j = true → d i = true) {i j : Nat} (h : Anc l i j) : d i = true → d j = true := by
  induction h with
  | one h => exact hd _ _ h
  | more h _ ih => exact fun hi => ih (hd _ _ h hi)
/-- for whom an operation waits, as binary digits -/
def maskF (acc : List Nat) (m : Nat) (e : Edge) : Nat := if Region.binds .any e then m ||| (1 <<< e.on ||| acc.getD e.on 0) else m
def maskOf (acc : List Nat) (o : Oper) : Nat := o.after.toList.foldl (maskF acc) 0
def masks : List Oper → List Nat → List Nat
  | [], acc => acc
  | o :: r, acc => masks r (acc ++ [maskOf acc o])
/-- from n on each operation waits for all ahead of it -/
def full (l : List Oper) (n : Nat) : Bool := let M := masks l []; (List.range l.length).all fun i => decide (i < n) || M.getD i 0 == 2 ^ i - 1
theorem mask_fold (acc : List Nat) (j : Nat) : ∀ (es : List Edge) (m : Nat), (es.foldl (maskF acc) m).testBit j = true → m.testBit j = true ∨ ∃ e ∈ es, Region.binds .any e = true ∧ (e.on = j ∨ (acc.getD e.on 0).testBit j = true)
  | [], m, h => .inl h
  | e :: r, m, h => by
    rcases mask_fold acc j r _ h with h | ⟨e', he, hb, hj⟩
    · unfold maskF at h
      split at h
      · rename_i hb
        rw [Nat.testBit_or, Nat.testBit_or, Nat.one_shiftLeft, Nat.testBit_two_pow] at h
        simp only [Bool.or_eq_true, decide_eq_true_eq] at h
        rcases h with h | h | h
        · exact .inl h
        · exact .inr ⟨e, by simp, hb, .inl h⟩
        · exact .inr ⟨e, by simp, hb, .inr h⟩
      · exact .inl h
    · exact .inr ⟨e', by simp [he], hb, hj⟩
def Sound (l : List Oper) (acc : List Nat) : Prop := ∀ i j, (acc.getD i 0).testBit j = true → Anc l i j
theorem masks_sound (l : List Oper) : ∀ (r : List Oper) (acc : List Nat), l.drop acc.length = r → Sound l acc → Sound l (masks r acc)
  | [], acc, _, h => h
  | o :: r, acc, hr, h => by
    have ho : l[acc.length]? = some o := by
      have := congrArg (·[0]?) hr
      simpa using this
    refine masks_sound l r _ ?_ ?_
    · rw [List.length_append, List.length_singleton, ← List.drop_drop, hr]; rfl
    · intro i j hj
      by_cases hi : i < acc.length
      · refine h i j ?_
        rw [List.getD, List.getElem?_append_left hi] at hj
        exact hj
      · by_cases hi2 : i = acc.length
        · subst hi2
          rw [List.getD, List.getElem?_append_right (Nat.le_refl _), Nat.sub_self] at hj
          rcases mask_fold acc j _ _ hj with h0 | ⟨e, he, hb, hj⟩
          · simp at h0
          · have hw := waits_of ho he hb
            rcases hj with rfl | hj
            · exact .one hw
            · exact .more hw (h _ _ hj)
        · rw [List.getD, List.getElem?_eq_none (by simp; omega)] at hj
          simp at hj
theorem full_anc {l : List Oper} {n : Nat} (h : full l n = true) {i : Nat} (hi : i < l.length) (hn : n ≤ i) {j : Nat} (hj : j < i) : Anc l i j := by
  have := List.all_eq_true.1 h i (by simpa using hi)
  simp only [Bool.or_eq_true, decide_eq_true_eq, beq_iff_eq] at this
  rcases this with h | h
  · omega
  · refine masks_sound l l [] rfl (fun i j h => by simp at h) i j ?_
    rw [h, Nat.testBit_two_pow_sub_one]; simpa using hj
/-- the last operations are all behind one that stands ahead of them in the text -/
theorem list_step {P : Program} {ops : Array Oper} {Q : Exit → Act → World → Prop} {o : Oper} {rest : List Oper} {a : Act} {w : World} (h : wpList P ops Q (o :: rest) a w) :
    wpList P ops (Then Q fun a' w' => wpList P ops Q rest a' w') [o] a w := by
  unfold wpList at h ⊢
  have hl : LetsOut Q → LetsOut (Then Q fun a' w' => wpList P ops Q rest a' w') := fun ⟨a, w, h⟩ => ⟨a, w, h⟩
  split
  · rename_i hw
    rw [if_pos hw] at h
    rcases h with h | ⟨h1, h2⟩
    · left
      unfold Oper.wp at h ⊢
      generalize (execOp a.eval o).run P w = r at h ⊢
      cases r with
      | ok n w' =>
        cases n <;> simp only [Oper.upon] at h ⊢ <;>
          first
            | exact h
            | exact Calls.mono h (fun e w'' he => by cases e <;> first | exact he | exact hl he)
            | exact Rows.mono h (fun _ _ he => he)
      | halt x w' => cases x <;> simp only [Oper.upon] at h ⊢ <;> exact h
    · exact .inr ⟨h1, hl h2⟩
  · rename_i hw
    rw [if_neg hw] at h
    exact h
/-- what is known behind some of the operations -/
structure InvT (P : Program) (Q : Exit → Act → World → Prop) (a0 : Act) (dst : List Nat) (B : World → Prop) (V : Nat → Value → World → Prop) (l : List Oper) (n : Nat) (listed : Array Bool) (a : Act) (w : World) : Prop where
  at_ : ((∀ i, n ≤ i → listed.getD i false = false) ∧ B w ∧ Like a0 dst a ∧ ∀ i, i < n → listed.getD i false = true → V i (a.tmps.getD (dst.getD i 0) undef) w) ∨
    ∃ k, n ≤ k ∧ k ≤ l.length ∧ (∀ i, i < l.length → (listed.getD i false = true ↔ i < k)) ∧ wpList P l.toArray Q (l.drop k) a w
  down : ∀ j i, waits l j i = true → listed.getD j false = true → listed.getD i false = true
/-- each of the first n operations, from whatever the ones ahead of it have left -/
def EachN (P : Program) (ops : Array Oper) (Q : Exit → Act → World → Prop) (a0 : Act) (dst : List Nat) (B : World → Prop) (V : Nat → Value → World → Prop) (n : Nat) : List Oper → Prop := fun l => Each P ops Q a0 dst B V 0 (l.take n)
theorem wpAny_tail {P : Program} {l : List Oper} {Q : Exit → Act → World → Prop} {a0 : Act} {dst : List Nat} {B : World → Prop} {V : Nat → Value → World → Prop} {n : Nat}
    (hn : n ≤ l.length) (hb : back l = true) (hf : full l n = true) (hlen : dst.length = n) (hnd : dst.Nodup) (hsz : ∀ d ∈ dst, d < a0.tmps.size)
    (hmono : ∀ i v w w', V i v w → Below w.heap.size w w' → V i v w')
    (hE : Each P l.toArray Q a0 dst B V 0 (l.take n))
    (tail : ∀ ys w, B w → (∀ i, i < n → V i (ys (dst.getD i 0)) w) → wpList P l.toArray Q (l.drop n) (fill a0 dst ys) w) :
    ∀ (fuel : Nat) (listed : Array Bool) (a : Act) (w : World), listed.size = l.toArray.size → listed.toList.count false ≤ fuel → InvT P Q a0 dst B V l n listed a w → wpAny P .any l.toArray Q fuel listed a w := by
  have turn : ∀ (listed : Array Bool) (a : Act) (w : World), B w → Like a0 dst a → (∀ i, i < n → listed.getD i false = true → V i (a.tmps.getD (dst.getD i 0) undef) w) → (∀ i, i < n → listed.getD i false = true) → wpList P l.toArray Q (l.drop n) a w := by
    intro listed a w hB hL hV hall
    have := tail (fun d => a.tmps.getD d undef) w hB (fun i hi => hV i hi (hall i hi))
    rw [← hL.fill] at this; exact this
  have fin : ∀ (listed : Array Bool) (a : Act) (w : World), listed.size = l.toArray.size → InvT P Q a0 dst B V l n listed a w → Region.ready .any l.toArray listed = [] → Q .normal a w := by
    intro listed a w hs hI hr
    have hall : ∀ i, i < l.length → listed.getD i false = true := fun i hi => all_listed hb listed hs hr i i (Nat.le_refl _) (by simpa using hi)
    have last : ∀ a w, wpList P l.toArray Q (l.drop l.length) a w → Q .normal a w := by
      intro a w h
      rw [List.drop_length] at h
      exact h
    rcases hI.at_ with ⟨h1, hB, hL, hV⟩ | ⟨k, h1, h2, h3, h4⟩
    · have : n = l.length := by
        rcases Nat.lt_or_eq_of_le hn with h | h
        · have := h1 n (Nat.le_refl _); rw [hall n h] at this; cases this
        · exact h
      have ht := turn listed a w hB hL hV (fun i hi => hall i (by omega))
      rw [this] at ht
      exact last a w ht
    · have : k = l.length := by
        rcases Nat.lt_or_eq_of_le h2 with h | h
        · have := (h3 k h).1 (hall k h); omega
        · exact h
      rw [this] at h4
      exact last a w h4
  intro fuel
  induction fuel with
  | zero =>
    intro listed a w hs hc hI
    have hr : Region.ready .any l.toArray listed = [] := by
      cases hr : Region.ready .any l.toArray listed with
      | nil => rfl
      | cons i r =>
        obtain ⟨o, ho, hi, hl, _⟩ := ready_dep (ops := l.toArray) (listed := listed) (i := i) (by rw [hr]; simp)
        have : false ∈ listed.toList := by
          have hi' : i < listed.size := by omega
          rw [Array.getD, dif_pos hi'] at hl
          have : listed[i] = false := hl
          rw [← this]; simp
        have := List.count_pos_iff.2 this
        omega
    exact ⟨hr, fin listed a w hs hI hr⟩
  | succ fuel ih =>
    intro listed a w hs hc hI
    refine ⟨fin listed a w hs hI, fun i hi => ?_⟩
    obtain ⟨o, ho, hin, hl, hdep⟩ := ready_dep hi
    have hi' : i < listed.size := by omega
    have hil : i < l.length := by simpa using hin
    have hol : l[i]? = some o := by simpa using ho
    have hlf : listed.getD i false = false := by rw [Array.getD, dif_pos hi'] at hl ⊢; exact hl
    have hcount : (listed.setIfInBounds i true).toList.count false ≤ fuel := by
      have hf : listed[i] = false := by rw [Array.getD, dif_pos hi'] at hl; exact hl
      have : (listed.setIfInBounds i true).toList = listed.toList.set i true := by simp
      have hcp : 0 < List.count false listed.toList := List.count_pos_iff.2 (by rw [← hf]; simp)
      have hg : listed.toList[i]'(by simpa using hi') = false := by simpa using hf
      rw [this, List.count_set (by simpa using hi'), hg]
      simp only [BEq.rfl, if_true]
      have : ((true == false) = true) = False := by decide
      simp only [this, if_false]
      omega
    have hdown : ∀ j k, waits l j k = true → (listed.setIfInBounds i true).getD j false = true → (listed.setIfInBounds i true).getD k false = true := by
      intro j k hw hjl
      by_cases e : i = k
      · subst e; exact getD_set_self hi'
      · rw [getD_set_ne _ e]
        by_cases e2 : i = j
        · subst e2
          obtain ⟨o', ho', e', he', hx, hon⟩ := waits_edge hw
          rw [hol] at ho'; cases ho'
          rw [← hon]; exact hdep e' he' hx
        · rw [getD_set_ne _ e2] at hjl
          exact hI.down j k hw hjl
    -- all that stand ahead of an operation of the tail are done
    have hahead : n ≤ i → ∀ j, j < i → listed.getD j false = true := by
      intro hni j hj
      have ha := full_anc hf hil hni hj
      have : (listed.setIfInBounds i true).getD j false = true := ha.listed (d := fun t => (listed.setIfInBounds i true).getD t false) hdown (getD_set_self hi')
      rwa [getD_set_ne _ (by omega)] at this
    have goTail : ∀ k, n ≤ k → i = k → (∀ t, t < l.length → (listed.getD t false = true ↔ t < k)) → wpList P l.toArray Q (l.drop k) a w → wpOp P l.toArray Q i (wpAny P .any l.toArray Q fuel (listed.setIfInBounds i true)) a w := by
      intro k hk hik hlist hwp
      subst hik
      rw [List.drop_eq_getElem_cons hil] at hwp
      have hoe : l[i] = o := by rw [List.getElem?_eq_getElem hil] at hol; exact Option.some.inj hol
      rw [hoe] at hwp
      refine wpOp_mono ?_ (wpOp_of_list ho (list_step hwp))
      intro a' w' hwp'
      refine ih _ _ _ (by simpa using hs) hcount ⟨.inr ⟨i + 1, by omega, hil, fun t ht => ?_, hwp'⟩, hdown⟩
      by_cases e : i = t
      · subst e; rw [getD_set_self hi']; simp
      · rw [getD_set_ne _ e, hlist t ht]; omega
    rcases hI.at_ with ⟨h1, hB, hL, hV⟩ | ⟨k, h1, h2, h3, h4⟩
    · by_cases hni : i < n
      · have hot : (l.take n)[i]? = some o := by rw [List.getElem?_take_of_lt hni]; exact hol
        have key := hE.at i o hot (fun d => a.tmps.getD d undef) w hB (Deps.of fun e he hx => hV e.on (by have := back_at hb ho e he hx; omega) (hdep e he hx))
        rw [← hL.fill, Nat.zero_add] at key
        refine wpOp_mono ?_ (wpOp_of_list ho key)
        rintro a' w' ⟨v, rfl, hv, hB', hbel⟩
        have hdi : i < dst.length := by omega
        have hd : dst.getD i 0 = dst[i] := by simp [List.getD, hdi]
        have hmem : dst.getD i 0 ∈ dst := by rw [hd]; exact List.getElem_mem hdi
        refine ih _ _ _ (by simpa using hs) hcount ⟨.inl ⟨fun t ht => by rw [getD_set_ne _ (by omega)]; exact h1 t ht, hB', hL.put hmem v, fun j hj hlj => ?_⟩, hdown⟩
        have hdj : j < dst.length := by omega
        have hdj' : dst.getD j 0 = dst[j] := by simp [List.getD, hdj]
        have hsj : dst.getD i 0 < a.tmps.size := by have := hsz _ hmem; have := hL.2.1; omega
        by_cases e : i = j
        · subst e
          have : (a.put (some (dst.getD i 0)) v).tmps.getD (dst.getD i 0) undef = v := by
            simp only [Act.put, Array.getD_eq_getD_getElem?]
            rw [Array.getElem?_setIfInBounds_self_of_lt hsj]; rfl
          rw [this]; exact hv
        · have hne : dst.getD i 0 ≠ dst.getD j 0 := by
            rw [hd, hdj']
            intro h
            exact e ((List.getElem_inj hnd).1 h)
          have : (a.put (some (dst.getD i 0)) v).tmps.getD (dst.getD j 0) undef = a.tmps.getD (dst.getD j 0) undef := by
            simp only [Act.put, Array.getD_eq_getD_getElem?]
            rw [Array.getElem?_setIfInBounds_ne hne]
          rw [this]
          rw [getD_set_ne _ e] at hlj
          exact hmono _ _ _ _ (hV j hj hlj) hbel
      · have hall := hahead (by omega)
        have hin' : i = n := by
          rcases Nat.lt_or_eq_of_le (Nat.le_of_not_lt hni) with h | h
          · have := hall n h; rw [h1 n (Nat.le_refl _)] at this; cases this
          · exact h.symm
        refine goTail n (Nat.le_refl _) hin' (fun t ht => ⟨fun h => ?_, fun h => hall t (by omega)⟩) (turn listed a w hB hL hV (fun t ht => hall t (by omega)))
        rcases Nat.lt_or_ge t n with h' | h'
        · exact h'
        · rw [h1 t h'] at h; cases h
    · have hki : ¬ i < k := fun h => by rw [(h3 i hil).2 h] at hlf; cases hlf
      have hik : i = k := by
        rcases Nat.lt_or_eq_of_le (Nat.le_of_not_lt hki) with h | h
        · have := (h3 k (by omega)).1 (hahead (by omega) k h); omega
        · exact h.symm
      exact goTail k h1 hik h3 h4
theorem wp_region_tail {P : Program} {id : Nat} {l : List Oper} {Q : Exit → Act → World → Prop} {a0 : Act} {w : World} (n : Nat) (dst : List Nat) (B : World → Prop) (V : Nat → Value → World → Prop)
    (hm : P.follows .mixedOrders = true) (hb : back l = true) (hf : full l n = true) (hn : n ≤ l.length) (hlen : dst.length = n) (hnd : dst.Nodup) (hsz : ∀ d ∈ dst, d < a0.tmps.size)
    (hmono : ∀ i v w w', V i v w → Below w.heap.size w w' → V i v w') (hB : B w.drew)
    (hE : Each P l.toArray Q a0 dst B V 0 (l.take n))
    (tail : ∀ ys w, B w → (∀ i, i < n → V i (ys (dst.getD i 0)) w) → wpList P l.toArray Q (l.drop n) (fill a0 dst ys) w) : (Code.region id l.toArray true).wp P Q a0 w := by
  refine wp_region_any hm ?_
  refine wpAny_tail hn hb hf hlen hnd hsz hmono hE tail _ _ _ _ (by simp) ?_ ⟨.inl ⟨fun i hi => ?_, hB, ⟨rfl, rfl, fun _ _ => rfl⟩, fun i hi hl => ?_⟩, fun j i hw hl => ?_⟩
  · simp
  · rw [Array.getD_eq_getD_getElem?, Array.getElem?_replicate]; split <;> rfl
  · exfalso
    rw [Array.getD_eq_getD_getElem?, Array.getElem?_replicate] at hl
    split at hl <;> simp at hl
  · exfalso
    rw [Array.getD_eq_getD_getElem?, Array.getElem?_replicate] at hl
    split at hl <;> simp at hl
/-- .. where each of the first leaves a value that hangs on no order -/
theorem wp_region_is_tail {P : Program} {id : Nat} {l : List Oper} {Q : Exit → Act → World → Prop} {a0 : Act} {w : World} (n : Nat) (dst : List Nat) (B : World → Prop) (tab : List Value)
    (hm : P.follows .mixedOrders = true) (hb : back l = true) (hf : full l n = true) (hn : n ≤ l.length) (hlen : dst.length = n) (hnd : dst.Nodup) (hsz : ∀ d ∈ dst, d < a0.tmps.size) (hB : B w.drew)
    (hE : Each P l.toArray Q a0 dst B (fun i v _ => v = tab.getD i undef) 0 (l.take n))
    (tail : ∀ ys w, B w → (∀ i, i < n → ys (dst.getD i 0) = tab.getD i undef) → wpList P l.toArray Q (l.drop n) (fill a0 dst ys) w) : (Code.region id l.toArray true).wp P Q a0 w :=
  wp_region_tail n dst B _ hm hb hf hn hlen hnd hsz (fun _ _ _ _ h _ => h) hB hE tail
end Go.Proofs.Ytmkdhehdfdkbjaa.Region
