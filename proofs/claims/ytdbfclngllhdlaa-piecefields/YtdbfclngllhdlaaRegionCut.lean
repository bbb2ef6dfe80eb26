/-
  A region that draws its order, whose first operations all stand ahead of each of the others: the first ones are walked once each, then the rest stands as a drawn row of its own.
-/
import Derived.Test.YtdbfclngllhdlaaRegionTail
set_option linter.unusedVariables false
set_option linter.unusedSimpArgs false
namespace Go.Proofs.Ytdbfclngllhdlaa.Region
open Go.RowKit

/-- each operation from n on waits for all of the first n -/
def fronted (l : List Oper) (n : Nat) : Bool := let M := masks l []; (List.range l.length).all fun i => decide (i < n) || (M.getD i 0 &&& (2 ^ n - 1)) == 2 ^ n - 1
theorem fronted_anc {l : List Oper} {n : Nat} (h : fronted l n = true) {i : Nat} (hi : i < l.length) (hn : n ≤ i) {j : Nat} (hj : j < n) : Anc l i j := by
  have := List.all_eq_true.1 h i (by simpa using hi)
  simp only [Bool.or_eq_true, decide_eq_true_eq, beq_iff_eq] at this
  rcases this with h | h
  · omega
  · refine masks_sound l l [] rfl (fun i j h => by simp at h) i j ?_
    have h2 := congrArg (fun x => x.testBit j) h
    simp only [Nat.testBit_and, Nat.testBit_two_pow_sub_one, decide_eq_true hj, Bool.and_true] at h2
    exact h2
structure InvC (a0 : Act) (dst : List Nat) (B : World → Prop) (V : Nat → Value → World → Prop) (l : List Oper) (n : Nat) (listed : Array Bool) (a : Act) (w : World) : Prop where
  rest : ∀ i, n ≤ i → listed.getD i false = false
  base : B w
  like : Like a0 dst a
  vals : ∀ i, i < n → listed.getD i false = true → V i (a.tmps.getD (dst.getD i 0) undef) w
  down : ∀ j i, waits l j i = true → listed.getD j false = true → listed.getD i false = true
theorem listed_is {listed m : Array Bool} {n : Nat} (hs : listed.size = m.size) (h1 : ∀ i, n ≤ i → listed.getD i false = false) (h2 : ∀ i, i < n → listed.getD i false = true) (h3 : ∀ i, n ≤ i → m.getD i false = false) (h4 : ∀ i, i < n → m.getD i false = true) : listed = m := by
  apply Array.ext hs
  intro i hi hj
  have e1 : listed[i] = listed.getD i false := by rw [Array.getD, dif_pos hi]; rfl
  have e2 : m[i] = m.getD i false := by rw [Array.getD, dif_pos hj]; rfl
  rw [e1, e2]
  rcases Nat.lt_or_ge i n with h | h
  · rw [h2 i h, h4 i h]
  · rw [h1 i h, h3 i h]
theorem wpAny_cut {P : Program} {l : List Oper} {Q : Exit → Act → World → Prop} {a0 : Act} {dst : List Nat} {B : World → Prop} {V : Nat → Value → World → Prop} {n k : Nat} {m : Array Bool}
    (hn : n ≤ l.length) (hb : back l = true) (hf : fronted l n = true) (hlen : dst.length = n) (hnd : dst.Nodup) (hsz : ∀ d ∈ dst, d < a0.tmps.size)
    (hmono : ∀ i v w w', V i v w → Below w.heap.size w w' → V i v w')
    (hE : Each P l.toArray Q a0 dst B V 0 (l.take n))
    (hms : m.size = l.length) (h3 : ∀ i, n ≤ i → m.getD i false = false) (h4 : ∀ i, i < n → m.getD i false = true) (hk : m.toList.count false = k)
    (tail : ∀ ys w, B w → (∀ i, i < n → V i (ys (dst.getD i 0)) w) → wpAny P .any l.toArray Q k m (fill a0 dst ys) w) :
    ∀ (fuel : Nat) (listed : Array Bool) (a : Act) (w : World), listed.size = l.toArray.size → listed.toList.count false = fuel → InvC a0 dst B V l n listed a w → wpAny P .any l.toArray Q fuel listed a w := by
  have turn : ∀ (fuel : Nat) (listed : Array Bool) (a : Act) (w : World), listed.size = l.toArray.size → listed.toList.count false = fuel → InvC a0 dst B V l n listed a w → (∀ i, i < n → listed.getD i false = true) → wpAny P .any l.toArray Q fuel listed a w := by
    intro fuel listed a w hs hc hI hall
    have hl : listed = m := listed_is (by rw [hs, hms]; simp) hI.rest hall h3 h4
    subst hl
    have := tail (fun d => a.tmps.getD d undef) w hI.base (fun i hi => hI.vals i hi (hall i hi))
    rw [← hI.like.fill] at this
    rw [← hc, hk]; exact this
  intro fuel
  induction fuel with
  | zero =>
    intro listed a w hs hc hI
    refine turn 0 listed a w hs hc hI fun i hi => ?_
    have h0 : false ∉ listed.toList := fun h => by have := List.count_pos_iff.2 h; omega
    have hi' : i < listed.size := by rw [hs]; simp; omega
    cases hv : listed[i] with
    | true => rw [Array.getD, dif_pos hi']; exact hv
    | false => exact absurd (by rw [← hv]; simp) h0
  | succ fuel ih =>
    intro listed a w hs hc hI
    by_cases hall : ∀ i, i < n → listed.getD i false = true
    · exact turn (fuel + 1) listed a w hs hc hI hall
    refine ⟨fun hr => ?_, fun i hi => ?_⟩
    · exact absurd (fun i hi => all_listed hb listed hs hr i i (Nat.le_refl _) (by simp; omega)) hall
    obtain ⟨o, ho, hin, hl, hdep⟩ := ready_dep hi
    have hi' : i < listed.size := by omega
    have hil : i < l.length := by simpa using hin
    have hol : l[i]? = some o := by simpa using ho
    have hlf : listed.getD i false = false := by rw [Array.getD, dif_pos hi'] at hl ⊢; exact hl
    have hcount : (listed.setIfInBounds i true).toList.count false = fuel := by
      have hf : listed[i] = false := by rw [Array.getD, dif_pos hi'] at hl; exact hl
      have : (listed.setIfInBounds i true).toList = listed.toList.set i true := by simp
      have hcp : 0 < List.count false listed.toList := List.count_pos_iff.2 (by rw [← hf]; simp)
      have hg : listed.toList[i]'(by simpa using hi') = false := by simpa using hf
      rw [this, List.count_set (by simpa using hi'), hg]
      simp only [BEq.rfl, if_true]
      have : ((true == false) = true) = False := by decide
      simp only [this, if_false]
      omega
    have hdown : ∀ j k, waits l j k = true → (listed.setIfInBounds i true).getD j false = true → (listed.setIfInBounds i true).getD k false = true := by
      intro j k hw hjl
      by_cases e : i = k
      · subst e; exact getD_set_self hi'
      · rw [getD_set_ne _ e]
        by_cases e2 : i = j
        · subst e2
          obtain ⟨o', ho', e', he', hx, hon⟩ := waits_edge hw
          rw [hol] at ho'; cases ho'
          rw [← hon]; exact hdep e' he' hx
        · rw [getD_set_ne _ e2] at hjl
          exact hI.down j k hw hjl
    have hni : i < n := by
      rcases Nat.lt_or_ge i n with h | h
      · exact h
      · refine absurd (fun j hj => ?_) hall
        have ha := fronted_anc hf hil h hj
        have : (listed.setIfInBounds i true).getD j false = true := ha.listed (d := fun t => (listed.setIfInBounds i true).getD t false) hdown (getD_set_self hi')
        rwa [getD_set_ne _ (by omega)] at this
    have hot : (l.take n)[i]? = some o := by rw [List.getElem?_take_of_lt hni]; exact hol
    have key := hE.at i o hot (fun d => a.tmps.getD d undef) w hI.base (Deps.of fun e he hx => hI.vals e.on (by have := back_at hb ho e he hx; omega) (hdep e he hx))
    rw [← hI.like.fill, Nat.zero_add] at key
    refine wpOp_mono ?_ (wpOp_of_list ho key)
    rintro a' w' ⟨v, rfl, hv, hB', hbel⟩
    have hdi : i < dst.length := by omega
    have hd : dst.getD i 0 = dst[i] := by simp [List.getD, hdi]
    have hmem : dst.getD i 0 ∈ dst := by rw [hd]; exact List.getElem_mem hdi
    refine ih _ _ _ (by simpa using hs) hcount ⟨fun t ht => by rw [getD_set_ne _ (by omega)]; exact hI.rest t ht, hB', hI.like.put hmem v, fun j hj hlj => ?_, hdown⟩
    have hdj : j < dst.length := by omega
    have hdj' : dst.getD j 0 = dst[j] := by simp [List.getD, hdj]
    have hsj : dst.getD i 0 < a.tmps.size := by have := hsz _ hmem; have := hI.like.2.1; omega
    by_cases e : i = j
    · subst e
      have : (a.put (some (dst.getD i 0)) v).tmps.getD (dst.getD i 0) undef = v := by
        simp only [Act.put, Array.getD_eq_getD_getElem?]
        rw [Array.getElem?_setIfInBounds_self_of_lt hsj]; rfl
      rw [this]; exact hv
    · have hne : dst.getD i 0 ≠ dst.getD j 0 := by
        rw [hd, hdj']
        intro h
        exact e ((List.getElem_inj hnd).1 h)
      have : (a.put (some (dst.getD i 0)) v).tmps.getD (dst.getD j 0) undef = a.tmps.getD (dst.getD j 0) undef := by
        simp only [Act.put, Array.getD_eq_getD_getElem?]
        rw [Array.getElem?_setIfInBounds_ne hne]
      rw [this]
      rw [getD_set_ne _ e] at hlj
      exact hmono _ _ _ _ (hI.vals j hj hlj) hbel
/-- the mask with the first n set -/
def cutMask (l : List Oper) (n : Nat) : Array Bool := ((List.replicate n true) ++ (List.replicate (l.length - n) false)).toArray
theorem wp_region_cut {P : Program} {id : Nat} {l : List Oper} {Q : Exit → Act → World → Prop} {a0 : Act} {w : World} (n k : Nat) (m : Array Bool) (dst : List Nat) (B : World → Prop) (V : Nat → Value → World → Prop)
    (hm : P.follows .mixedOrders = true) (hb : back l = true) (hf : fronted l n = true) (hk : l.length = n + k) (hmm : m = ((List.replicate n true) ++ (List.replicate k false)).toArray) (hlen : dst.length = n) (hnd : dst.Nodup) (hsz : ∀ d ∈ dst, d < a0.tmps.size)
    (hmono : ∀ i v w w', V i v w → Below w.heap.size w w' → V i v w') (hB : B w.drew)
    (hE : Each P l.toArray Q a0 dst B V 0 (l.take n))
    (tail : ∀ ys w, B w → (∀ i, i < n → V i (ys (dst.getD i 0)) w) → wpAny P .any l.toArray Q k m (fill a0 dst ys) w) : (Code.region id l.toArray true).wp P Q a0 w := by
  subst hmm
  refine wp_region_any hm ?_
  refine wpAny_cut (by omega) hb hf hlen hnd hsz hmono hE (by simp [hk]) ?_ ?_ (by simp [List.count_replicate]) tail _ _ _ _ (by simp) (by simp) ⟨fun i hi => ?_, hB, ⟨rfl, rfl, fun _ _ => rfl⟩, fun i hi hl => ?_, fun j i hw hl => ?_⟩
  · intro i hi
    rw [Array.getD_eq_getD_getElem?]
    simp only [List.getElem?_toArray]
    rw [List.getElem?_append_right (by simpa using hi), List.getElem?_replicate]
    split <;> rfl
  · intro i hi
    rw [Array.getD_eq_getD_getElem?]
    simp only [List.getElem?_toArray]
    rw [List.getElem?_append_left (by simpa using hi), List.getElem?_replicate, if_pos hi]; rfl
  · rw [Array.getD_eq_getD_getElem?, Array.getElem?_replicate]; split <;> rfl
  · exfalso
    rw [Array.getD_eq_getD_getElem?, Array.getElem?_replicate] at hl
    split at hl <;> simp at hl
  · exfalso
    rw [Array.getD_eq_getD_getElem?, Array.getElem?_replicate] at hl
    split at hl <;> simp at hl
theorem wp_region_is_cut {P : Program} {id : Nat} {l : List Oper} {Q : Exit → Act → World → Prop} {a0 : Act} {w : World} (n k : Nat) (m : Array Bool) (dst : List Nat) (B : World → Prop) (tab : List Value)
    (hm : P.follows .mixedOrders = true) (hb : back l = true) (hf : fronted l n = true) (hk : l.length = n + k) (hmm : m = ((List.replicate n true) ++ (List.replicate k false)).toArray) (hlen : dst.length = n) (hnd : dst.Nodup) (hsz : ∀ d ∈ dst, d < a0.tmps.size) (hB : B w.drew)
    (hE : Each P l.toArray Q a0 dst B (fun i v _ => v = tab.getD i undef) 0 (l.take n))
    (tail : ∀ ys w, B w → (∀ i, i < n → ys (dst.getD i 0) = tab.getD i undef) → wpAny P .any l.toArray Q k m (fill a0 dst ys) w) : (Code.region id l.toArray true).wp P Q a0 w :=
  wp_region_cut n k m dst B _ hm hb hf hk hmm hlen hnd hsz (fun _ _ _ _ h _ => h) hB hE tail
end Go.Proofs.Ytdbfclngllhdlaa.Region
