/-
  A region that draws its order, walked operation by operation, each once, with what is known at each point hanging on which operations are done: for regions whose operations may also write.
-/
import Derived.Test.YtmkdhehdfdkbjaaRegion
set_option linter.unusedVariables false
set_option linter.unusedSimpArgs false
namespace Go.Proofs.Ytmkdhehdfdkbjaa.Region
open Go.RowKit

/-- the slots that are written -/
def slots (dst : List (Option Nat)) : List Nat := dst.filterMap id
/-- the operations that wait for one -/
def waits (l : List Oper) (j i : Nat) : Bool := match l[j]? with
  | some o => o.after.any fun e => Region.binds .any e && decide (e.on = i)
  | none => false
/-- the operations ahead are done -/
def Deps2 (d : Nat → Bool) : List Edge → Prop
  | [] => True
  | e :: r => (Region.binds .any e = true → d e.on = true) ∧ Deps2 d r
def upd (d : Nat → Bool) (i : Nat) : Nat → Bool := fun j => if j = i then true else d j
def put (ys : Nat → Value) (s : Option Nat) (v : Value) : Nat → Value := match s with
  | some s => fun t => if t = s then v else ys t
  | none => ys
/-- what an operation owes -/
def Owes (P : Program) (ops : Array Oper) (Q : Exit → Act → World → Prop) (a0 : Act) (dst : List (Option Nat)) (J : (Nat → Bool) → (Nat → Value) → World → Prop) (l : List Oper) (i : Nat) (o : Oper) : Prop :=
  ∀ d ys w, J d ys w → d i = false → (∀ j, waits l j i = true → d j = false) → Deps2 d o.after.toList →
    wpList P ops (Then Q fun a' w' => ∃ v, a' = (fill a0 (slots dst) ys).put (dst.getD i none) v ∧ J (upd d i) (put ys (dst.getD i none) v) w') [o] (fill a0 (slots dst) ys) w
def Each2 (P : Program) (ops : Array Oper) (Q : Exit → Act → World → Prop) (a0 : Act) (dst : List (Option Nat)) (J : (Nat → Bool) → (Nat → Value) → World → Prop) (l0 : List Oper) : Nat → List Oper → Prop
  | _, [] => True
  | i, o :: r => Owes P ops Q a0 dst J l0 i o ∧ Each2 P ops Q a0 dst J l0 (i + 1) r
theorem Each2.at {P : Program} {ops : Array Oper} {Q : Exit → Act → World → Prop} {a0 : Act} {dst : List (Option Nat)} {J : (Nat → Bool) → (Nat → Value) → World → Prop} {l0 : List Oper} :
    ∀ {l : List Oper} {k : Nat}, Each2 P ops Q a0 dst J l0 k l → ∀ j o, l[j]? = some o → Owes P ops Q a0 dst J l0 (k + j) o
  | [], _, _, j, o, h => by simp at h
  | x :: r, k, hE, 0, o, h => by
    simp only [List.getElem?_cons_zero, Option.some.injEq] at h
    subst h; exact hE.1
  | x :: r, k, hE, j + 1, o, h => by
    simp only [List.getElem?_cons_succ] at h
    have := Each2.at (l := r) (k := k + 1) hE.2 j o h
    rw [show k + 1 + j = k + (j + 1) by omega] at this; exact this
theorem Deps2.of {d : Nat → Bool} : ∀ {es : List Edge}, (∀ e ∈ es, Region.binds .any e = true → d e.on = true) → Deps2 d es
  | [], _ => trivial
  | e :: r, h => ⟨h e (by simp), Deps2.of fun x hx => h x (by simp [hx])⟩

/-- no slot is written twice -/
def once (dst : List (Option Nat)) : Bool := decide (slots dst).Nodup
theorem slot_mem {dst : List (Option Nat)} {i d : Nat} (h : dst.getD i none = some d) : d ∈ slots dst := by
  unfold slots
  rw [List.mem_filterMap]
  refine ⟨some d, ?_, rfl⟩
  rw [List.getD] at h
  cases hi : dst[i]? with
  | none => simp [hi] at h
  | some x => simp [hi] at h; subst h; exact List.mem_of_getElem? hi
/-- what is known behind some of the operations -/
structure Inv2 (a0 : Act) (dst : List (Option Nat)) (J : (Nat → Bool) → (Nat → Value) → World → Prop) (l : List Oper) (listed : Array Bool) (a : Act) (w : World) : Prop where
  j : J (fun i => listed.getD i false) (fun d => a.tmps.getD d undef) w
  like : Like a0 (slots dst) a
  down : ∀ j i, waits l j i = true → listed.getD j false = true → listed.getD i false = true
theorem waits_of {l : List Oper} {i : Nat} {o : Oper} (ho : l[i]? = some o) {e : Edge} (he : e ∈ o.after.toList) (hb : Region.binds .any e = true) : waits l i e.on = true := by
  unfold waits
  rw [ho]
  simp only [Array.any_eq_true']
  exact ⟨e, by simpa using he, by simp [hb]⟩
theorem waits_edge {l : List Oper} {j i : Nat} (h : waits l j i = true) : ∃ o, l[j]? = some o ∧ ∃ e ∈ o.after.toList, Region.binds .any e = true ∧ e.on = i := by
  unfold waits at h
  cases ho : l[j]? with
  | none => simp [ho] at h
  | some o =>
    rw [ho] at h
    simp only [Array.any_eq_true'] at h
    obtain ⟨e, he, hb⟩ := h
    simp at hb
    exact ⟨o, rfl, e, by simpa using he, hb⟩
theorem put_none (a : Act) (v : Value) : a.put none v = a := rfl
theorem getD_set_self {listed : Array Bool} {i : Nat} (h : i < listed.size) : (listed.setIfInBounds i true).getD i false = true := by
  rw [Array.getD_eq_getD_getElem?, Array.getElem?_setIfInBounds_self_of_lt h]; rfl
theorem wpAny_inv2 {P : Program} {l : List Oper} {Q : Exit → Act → World → Prop} {a0 : Act} {dst : List (Option Nat)} {J : (Nat → Bool) → (Nat → Value) → World → Prop}
    (hsz : ∀ d ∈ slots dst, d < a0.tmps.size) (hb : back l = true) (hE : Each2 P l.toArray Q a0 dst J l 0 l)
    (done : ∀ d ys w, J d ys w → (∀ i, i < l.length → d i = true) → Q .normal (fill a0 (slots dst) ys) w) :
    ∀ (fuel : Nat) (listed : Array Bool) (a : Act) (w : World), listed.size = l.toArray.size → listed.toList.count false ≤ fuel → Inv2 a0 dst J l listed a w → wpAny P .any l.toArray Q fuel listed a w := by
  have fin : ∀ (listed : Array Bool) (a : Act) (w : World), listed.size = l.toArray.size → Inv2 a0 dst J l listed a w → Region.ready .any l.toArray listed = [] → Q .normal a w := by
    intro listed a w hs hI hr
    have := done _ (fun d => a.tmps.getD d undef) w hI.j (fun i hi => all_listed hb listed hs hr i i (Nat.le_refl _) (by simpa using hi))
    rw [← hI.like.fill] at this; exact this
  intro fuel
  induction fuel with
  | zero =>
    intro listed a w hs hc hI
    have hr : Region.ready .any l.toArray listed = [] := by
      cases hr : Region.ready .any l.toArray listed with
      | nil => rfl
      | cons i r =>
        obtain ⟨o, ho, hi, hl, _⟩ := ready_dep (ops := l.toArray) (listed := listed) (i := i) (by rw [hr]; simp)
        have : false ∈ listed.toList := by
          have hi' : i < listed.size := by omega
          rw [Array.getD, dif_pos hi'] at hl
          have : listed[i] = false := hl
          rw [← this]; simp
        have := List.count_pos_iff.2 this
        omega
    exact ⟨hr, fin listed a w hs hI hr⟩
  | succ fuel ih =>
    intro listed a w hs hc hI
    refine ⟨fin listed a w hs hI, fun i hi => ?_⟩
    obtain ⟨o, ho, hin, hl, hdep⟩ := ready_dep hi
    have hi' : i < listed.size := by omega
    have hol : l[i]? = some o := by simpa using ho
    have hlf : listed.getD i false = false := by rw [Array.getD, dif_pos hi'] at hl ⊢; exact hl
    have key := hE.at i o hol (fun i => listed.getD i false) (fun d => a.tmps.getD d undef) w hI.j (by rw [Nat.zero_add]; exact hlf)
      (fun j hj => by
        rw [Nat.zero_add] at hj
        cases hjl : listed.getD j false with
        | false => rfl
        | true => rw [hI.down j i hj hjl] at hlf; exact absurd hlf (by simp))
      (Deps2.of fun e he hx => hdep e he hx)
    rw [← hI.like.fill, Nat.zero_add] at key
    refine wpOp_mono ?_ (wpOp_of_list ho key)
    rintro a' w' ⟨v, rfl, hJ⟩
    have hupd : (fun j => (listed.setIfInBounds i true).getD j false) = upd (fun j => listed.getD j false) i := by
      funext j
      unfold upd
      by_cases e : j = i
      · subst e; rw [if_pos rfl]; exact getD_set_self hi'
      · rw [if_neg e, getD_set_ne _ (Ne.symm e)]
    have hput : (fun t => (a.put (dst.getD i none) v).tmps.getD t undef) = put (fun t => a.tmps.getD t undef) (dst.getD i none) v := by
      cases hdi : dst.getD i none with
      | none => rfl
      | some s =>
        have hsj : s < a.tmps.size := by have := hsz _ (slot_mem hdi); have := hI.like.2.1; omega
        funext t
        simp only [put, Act.put, Array.getD_eq_getD_getElem?]
        by_cases e : t = s
        · subst e; rw [if_pos rfl, Array.getElem?_setIfInBounds_self_of_lt hsj]; rfl
        · rw [if_neg e, Array.getElem?_setIfInBounds_ne (Ne.symm e)]
    refine ih _ _ _ (by simpa using hs) ?_ ⟨by rw [hupd, hput]; exact hJ, ?_, fun j k hw hjl => ?_⟩
    · have hf : listed[i] = false := by rw [Array.getD, dif_pos hi'] at hl; exact hl
      have : (listed.setIfInBounds i true).toList = listed.toList.set i true := by simp
      have hcp : 0 < List.count false listed.toList := List.count_pos_iff.2 (by rw [← hf]; simp)
      have hg : listed.toList[i]'(by simpa using hi') = false := by simpa using hf
      rw [this, List.count_set (by simpa using hi'), hg]
      simp only [BEq.rfl, if_true]
      have : ((true == false) = true) = False := by decide
      simp only [this, if_false]
      omega
    · cases hdi : dst.getD i none with
      | none => exact hI.like
      | some s => exact hI.like.put (slot_mem hdi) v
    · by_cases e : i = k
      · subst e; exact getD_set_self hi'
      · rw [getD_set_ne _ e]
        by_cases e2 : i = j
        · subst e2
          obtain ⟨o', ho', e', he', hx, hon⟩ := waits_edge hw
          rw [hol] at ho'; cases ho'
          rw [← hon]; exact hdep e' he' hx
        · rw [getD_set_ne _ e2] at hjl
          exact hI.down j k hw hjl
theorem wp_region_each2 {P : Program} {id : Nat} {l : List Oper} {Q : Exit → Act → World → Prop} {a0 : Act} {w : World} (dst : List (Option Nat)) (J : (Nat → Bool) → (Nat → Value) → World → Prop)
    (hm : P.follows .mixedOrders = true) (hb : back l = true) (hsz : ∀ d ∈ slots dst, d < a0.tmps.size)
    (hJ : ∀ ys, J (fun _ => false) ys w.drew) (hE : Each2 P l.toArray Q a0 dst J l 0 l)
    (done : ∀ d ys w, J d ys w → (∀ i, i < l.length → d i = true) → Q .normal (fill a0 (slots dst) ys) w) : (Code.region id l.toArray true).wp P Q a0 w := by
  refine wp_region_any hm ?_
  refine wpAny_inv2 hsz hb (by simpa using hE) done _ _ _ _ (by simp) ?_ ⟨?_, ⟨rfl, rfl, fun _ _ => rfl⟩, fun j i hw hl => ?_⟩
  · simp
  · have : (fun i => (Array.replicate l.toArray.size false).getD i false) = fun _ => false := by
      funext i
      rw [Array.getD_eq_getD_getElem?, Array.getElem?_replicate]
      split <;> rfl
    rw [this]; exact hJ _
  · exfalso
    rw [Array.getD_eq_getD_getElem?, Array.getElem?_replicate] at hl
    split at hl <;> simp at hl
end Go.Proofs.Ytmkdhehdfdkbjaa.Region
