/-
  A region that draws its order, whose operations may write: each is walked once, with a fact for each slot that the operations done have filled; each operation says of each such fact that it keeps it.
-/
import Derived.Test.YtligapgjdpdihaaDoorRunRegion
set_option linter.unusedVariables false
set_option linter.unusedSimpArgs false
namespace Go.Proofs.YtligapgjdpdihaaDoor.Region
open Go.RowKit
def slotOf (dst : List (Option Nat)) (i : Nat) : Nat := (dst.getD i none).getD 0
/-- may operation i read what e names? not, where another one may have undone it -/
def reads (KL : List (Nat × Nat)) (l : List Oper) (i : Nat) (e : Edge) : Bool := Region.binds .any e && KL.all fun x => decide (x.2 ≠ e.on) || decide (x.1 = i) || waits l x.1 i
def Deps3 (dst : List (Option Nat)) (V : Nat → Value → World → Prop) (KL : List (Nat × Nat)) (l : List Oper) (i : Nat) (ys : Nat → Value) (w : World) : List Edge → Prop
  | [] => True
  | e :: r => (reads KL l i e = true → V e.on (ys (slotOf dst e.on)) w) ∧ Deps3 dst V KL l i ys w r
/-- KL: pairs of an operation and the one whose fact it may undo (no other one reads that) -/
def Keeps (V : Nat → Value → World → Prop) (KL : List (Nat × Nat)) (l : List Oper) (i : Nat) (w w' : World) : Prop := ∀ k u, k ≠ i → (i, k) ∉ KL → waits l k i = false → V k u w → V k u w'
def Owes3 (P : Program) (ops : Array Oper) (Q : Exit → Act → World → Prop) (a0 : Act) (dst : List (Option Nat)) (B : World → Prop) (V : Nat → Value → World → Prop) (KL : List (Nat × Nat)) (l : List Oper) (i : Nat) (o : Oper) : Prop :=
  ∀ ys w, B w → Deps3 dst V KL l i ys w o.after.toList →
    wpList P ops (Then Q fun a' w' => ∃ v, a' = (fill a0 (slots dst) ys).put (dst.getD i none) v ∧ V i v w' ∧ B w' ∧ Keeps V KL l i w w') [o] (fill a0 (slots dst) ys) w
def Each3 (P : Program) (ops : Array Oper) (Q : Exit → Act → World → Prop) (a0 : Act) (dst : List (Option Nat)) (B : World → Prop) (V : Nat → Value → World → Prop) (KL : List (Nat × Nat)) (l : List Oper) : Nat → List Oper → Prop
  | _, [] => True
  | i, o :: r => Owes3 P ops Q a0 dst B V KL l i o ∧ Each3 P ops Q a0 dst B V KL l (i + 1) r
def apart (dst : List (Option Nat)) : Bool := (List.range dst.length).all fun i => (List.range dst.length).all fun k => decide (i = k) || (dst.getD i none).isNone || decide (dst.getD i none ≠ dst.getD k none)
theorem apart_ne {dst : List (Option Nat)} (h : apart dst = true) {i k : Nat} (hi : i < dst.length) (hk : k < dst.length) (hne : i ≠ k) {s : Nat} (hs : dst.getD i none = some s) : dst.getD k none ≠ some s := by
  have h1 := List.all_eq_true.1 h i (by simpa using hi)
  have h2 := List.all_eq_true.1 h1 k (by simpa using hk)
  rw [hs] at h2
  simp [hne] at h2
  exact fun e => h2 e.symm
def J3 (n : Nat) (dst : List (Option Nat)) (B : World → Prop) (V : Nat → Value → World → Prop) (KL : List (Nat × Nat)) (d : Nat → Bool) (ys : Nat → Value) (w : World) : Prop := B w ∧ ∀ k, k < n → d k = true → (∀ x ∈ KL, x.2 = k → d x.1 = false) → V k (ys (slotOf dst k)) w
theorem deps3_of {n : Nat} {dst : List (Option Nat)} {B : World → Prop} {V : Nat → Value → World → Prop} {KL : List (Nat × Nat)} {d : Nat → Bool} {ys : Nat → Value} {w : World} (hJ : J3 n dst B V KL d ys w) {l : List Oper} {i : Nat} (hi : d i = false) (hno : ∀ j, waits l j i = true → d j = false) :
    ∀ {es : List Edge}, (∀ e ∈ es, Region.binds .any e = true → e.on < n) → Deps2 d es → Deps3 dst V KL l i ys w es
  | [], _, _ => trivial
  | e :: r, hn, h => ⟨fun hb => by
      unfold reads at hb
      rw [Bool.and_eq_true] at hb
      refine hJ.2 e.on (hn e (by simp) hb.1) (h.1 hb.1) fun x hx hxe => ?_
      have := List.all_eq_true.1 hb.2 x hx
      simp [hxe] at this
      rcases this with h1 | h1
      · rw [h1]; exact hi
      · exact hno _ h1, deps3_of hJ hi hno (fun x hx => hn x (by simp [hx])) h.2⟩
theorem Each3.at {P : Program} {ops : Array Oper} {Q : Exit → Act → World → Prop} {a0 : Act} {dst : List (Option Nat)} {B : World → Prop} {V : Nat → Value → World → Prop} {KL : List (Nat × Nat)} {l0 : List Oper} :
    ∀ {l : List Oper} {k : Nat}, Each3 P ops Q a0 dst B V KL l0 k l → ∀ j o, l[j]? = some o → Owes3 P ops Q a0 dst B V KL l0 (k + j) o
  | [], _, _, j, o, h => by simp at h
  | x :: r, k, hE, 0, o, h => by
    simp only [List.getElem?_cons_zero, Option.some.injEq] at h
    subst h; exact hE.1
  | x :: r, k, hE, j + 1, o, h => by
    simp only [List.getElem?_cons_succ] at h
    have := Each3.at (l := r) (k := k + 1) hE.2 j o h
    rw [show k + 1 + j = k + (j + 1) by omega] at this; exact this
theorem j3_next {n : Nat} {dst : List (Option Nat)} {B : World → Prop} {V : Nat → Value → World → Prop} {KL : List (Nat × Nat)} {d : Nat → Bool} {ys : Nat → Value} {w w' : World} {k : Nat} {v : Value} (hlen : dst.length = n) (hap : apart dst = true) (hk : k < n)
    (hnone : ∀ i, i < dst.length → dst.getD i none = none → ∀ v v' w, V i v w → V i v' w) (hJ : J3 n dst B V KL d ys w) (hv : V k v w') (hB : B w') {l : List Oper} (hno : ∀ j, waits l j k = true → d j = false) (hkeep : Keeps V KL l k w w') : J3 n dst B V KL (upd d k) (put ys (dst.getD k none) v) w' := by
  refine ⟨hB, fun j hj hdj hal => ?_⟩
  by_cases e : j = k
  · subst e
    cases hs : dst.getD j none with
    | none => exact hnone j (by omega) hs v _ w' hv
    | some s =>
      have : put ys (some s) v (slotOf dst j) = v := by unfold put slotOf; rw [hs]; simp
      rw [this]; exact hv
  · have hdj' : d j = true := by unfold upd at hdj; rw [if_neg e] at hdj; exact hdj
    have hnk : (k, j) ∉ KL := fun hm => by
      have := hal (k, j) hm rfl
      unfold upd at this
      simp at this
    have hal' : ∀ x ∈ KL, x.2 = j → d x.1 = false := fun x hx hxj => by
      have := hal x hx hxj
      unfold upd at this
      split at this
      · cases this
      · exact this
    have h1 := hkeep j _ e hnk (by cases hw : waits l j k with | false => rfl | true => rw [hno j hw] at hdj'; cases hdj') (hJ.2 j hj hdj' hal')
    cases hs : dst.getD j none with
    | none => exact hnone j (by omega) hs _ _ w' h1
    | some s =>
      have hne := apart_ne hap (by omega) (by omega) e hs
      have : put ys (dst.getD k none) v (slotOf dst j) = ys (slotOf dst j) := by
        unfold slotOf
        rw [hs]
        cases hk : dst.getD k none with
        | none => rfl
        | some t =>
          show (if s = t then v else ys s) = ys s
          rw [if_neg]
          intro e2
          exact hne (by rw [hk, e2])
      rw [this]; exact h1
theorem wpAny_keep {P : Program} {l : List Oper} {Q : Exit → Act → World → Prop} {a0 : Act} {dst : List (Option Nat)} {B : World → Prop} {V : Nat → Value → World → Prop} {KL : List (Nat × Nat)}
    (hsz : ∀ d ∈ slots dst, d < a0.tmps.size) (hb : back l = true) (hlen : dst.length = l.length) (hap : apart dst = true) (hnone : ∀ i, i < dst.length → dst.getD i none = none → ∀ v v' w, V i v w → V i v' w) (hE : Each3 P l.toArray Q a0 dst B V KL l 0 l)
    (done : ∀ d ys w, J3 l.length dst B V KL d ys w → (∀ i, i < l.length → d i = true) → Q .normal (fill a0 (slots dst) ys) w) :
    ∀ (fuel : Nat) (listed : Array Bool) (a : Act) (w : World), listed.size = l.toArray.size → listed.toList.count false ≤ fuel → Inv2 a0 dst (J3 l.length dst B V KL) l listed a w → wpAny P .any l.toArray Q fuel listed a w := by
  have fin : ∀ (listed : Array Bool) (a : Act) (w : World), listed.size = l.toArray.size → Inv2 a0 dst (J3 l.length dst B V KL) l listed a w → Region.ready .any l.toArray listed = [] → Q .normal a w := by
    intro listed a w hs hI hr
    have := done _ (fun d => a.tmps.getD d undef) w hI.j (fun i hi => all_listed hb listed hs hr i i (Nat.le_refl _) (by simpa using hi))
    rw [← hI.like.fill] at this; exact this
  intro fuel
  induction fuel with
  | zero =>
    intro listed a w hs hc hI
    have hr : Region.ready .any l.toArray listed = [] := by
      cases hr : Region.ready .any l.toArray listed with
      | nil => rfl
      | cons i r =>
        obtain ⟨o, ho, hi, hl, _⟩ := ready_dep (ops := l.toArray) (listed := listed) (i := i) (by rw [hr]; simp)
        have : false ∈ listed.toList := by
          have hi' : i < listed.size := by omega
          rw [Array.getD, dif_pos hi'] at hl
          have : listed[i] = false := hl
          rw [← this]; simp
        have := List.count_pos_iff.2 this
        omega
    exact ⟨hr, fin listed a w hs hI hr⟩
  | succ fuel ih =>
    intro listed a w hs hc hI
    refine ⟨fin listed a w hs hI, fun i hi => ?_⟩
    obtain ⟨o, ho, hin, hl, hdep⟩ := ready_dep hi
    have hi' : i < listed.size := by omega
    have hol : l[i]? = some o := by simpa using ho
    have hlf : listed.getD i false = false := by rw [Array.getD, dif_pos hi'] at hl ⊢; exact hl
    have hJ0 := hI.j
    have hnow : ∀ j, waits l j i = true → listed.getD j false = false := fun j hj => by
      cases hjl : listed.getD j false with
      | false => rfl
      | true => rw [hI.down j i hj hjl] at hlf; exact absurd hlf (by simp)
    have key := hE.at i o hol (fun d => a.tmps.getD d undef) w hJ0.1 (by rw [Nat.zero_add]; exact deps3_of hJ0 hlf hnow (fun e he hx => by have h1 := back_at hb ho e he hx; have h2 : i < l.length := (by simpa using hin); omega) (Deps2.of fun e he hx => hdep e he hx))
    rw [← hI.like.fill, Nat.zero_add] at key
    refine wpOp_mono ?_ (wpOp_of_list ho key)
    rintro a' w' ⟨v, rfl, hv, hBv, hkeep⟩
    have hJ := j3_next hlen hap (show i < l.length by simpa using hin) hnone hJ0 hv hBv hnow hkeep
    have hupd : (fun j => (listed.setIfInBounds i true).getD j false) = upd (fun j => listed.getD j false) i := by
      funext j
      unfold upd
      by_cases e : j = i
      · subst e; rw [if_pos rfl]; exact getD_set_self hi'
      · rw [if_neg e, getD_set_ne _ (Ne.symm e)]
    have hput : (fun t => (a.put (dst.getD i none) v).tmps.getD t undef) = put (fun t => a.tmps.getD t undef) (dst.getD i none) v := by
      cases hdi : dst.getD i none with
      | none => rfl
      | some s =>
        have hsj : s < a.tmps.size := by have := hsz _ (slot_mem hdi); have := hI.like.2.1; omega
        funext t
        simp only [put, Act.put, Array.getD_eq_getD_getElem?]
        by_cases e : t = s
        · subst e; rw [if_pos rfl, Array.getElem?_setIfInBounds_self_of_lt hsj]; rfl
        · rw [if_neg e, Array.getElem?_setIfInBounds_ne (Ne.symm e)]
    refine ih _ _ _ (by simpa using hs) ?_ ⟨by rw [hupd, hput]; exact hJ, ?_, fun j k hw hjl => ?_⟩
    · have hf : listed[i] = false := by rw [Array.getD, dif_pos hi'] at hl; exact hl
      have : (listed.setIfInBounds i true).toList = listed.toList.set i true := by simp
      have hcp : 0 < List.count false listed.toList := List.count_pos_iff.2 (by rw [← hf]; simp)
      have hg : listed.toList[i]'(by simpa using hi') = false := by simpa using hf
      rw [this, List.count_set (by simpa using hi'), hg]
      simp only [BEq.rfl, if_true]
      have : ((true == false) = true) = False := by decide
      simp only [this, if_false]
      omega
    · cases hdi : dst.getD i none with
      | none => exact hI.like
      | some s => exact hI.like.put (slot_mem hdi) v
    · by_cases e : i = k
      · subst e; exact getD_set_self hi'
      · rw [getD_set_ne _ e]
        by_cases e2 : i = j
        · subst e2
          obtain ⟨o', ho', e', he', hx, hon⟩ := waits_edge hw
          rw [hol] at ho'; cases ho'
          rw [← hon]; exact hdep e' he' hx
        · rw [getD_set_ne _ e2] at hjl
          exact hI.down j k hw hjl
theorem wp_region_keep {P : Program} {id : Nat} {l : List Oper} {Q : Exit → Act → World → Prop} {a0 : Act} {w : World} (dst : List (Option Nat)) (B : World → Prop) (V : Nat → Value → World → Prop) (KL : List (Nat × Nat))
    (hm : P.follows .mixedOrders = true) (hb : back l = true) (hlen : dst.length = l.length) (hap : apart dst = true) (hsz : ∀ d ∈ slots dst, d < a0.tmps.size)
    (hnone : ∀ i, i < dst.length → dst.getD i none = none → ∀ v v' w, V i v w → V i v' w) (hB : B w.drew) (hE : Each3 P l.toArray Q a0 dst B V KL l 0 l)
    (done : ∀ ys w, B w → (∀ i, i < l.length → (∀ x ∈ KL, x.2 ≠ i) → V i (ys (slotOf dst i)) w) → Q .normal (fill a0 (slots dst) ys) w) : (Code.region id l.toArray true).wp P Q a0 w := by
  refine wp_region_any hm ?_
  refine wpAny_keep (B := B) (V := V) (KL := KL) hsz hb hlen hap hnone (by simpa using hE) (fun d ys w hJ hall => done ys w hJ.1 (fun i hi hv => hJ.2 i hi (hall i hi) (fun x hx he => absurd he (hv x hx)))) _ _ _ _ (by simp) ?_ ⟨?_, ⟨rfl, rfl, fun _ _ => rfl⟩, fun j i hw hl => ?_⟩
  · simp
  · refine ⟨hB, fun k hk hd _ => ?_⟩
    exfalso
    have hd : (Array.replicate l.toArray.size false).getD k false = true := hd
    rw [Array.getD_eq_getD_getElem?, Array.getElem?_replicate] at hd
    split at hd <;> simp at hd
  · exfalso
    rw [Array.getD_eq_getD_getElem?, Array.getElem?_replicate] at hl
    split at hl <;> simp at hl
end Go.Proofs.YtligapgjdpdihaaDoor.Region
