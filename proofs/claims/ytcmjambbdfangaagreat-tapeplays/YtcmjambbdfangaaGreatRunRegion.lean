/-
  Joined texts: Region, Region2, RegionTail, RegionIs, Region3, RegionCut.
-/
import Derived.WalkKit
import Derived.Handy
import Derived.Orders
/-
  A region that draws its order, walked operation by operation, each once: what each operation leaves in its slot is a property that lasts while memory only grows. For regions whose operations read, make memory or call, and write nothing that was there.
-/
set_option linter.unusedVariables false
set_option linter.unusedSimpArgs false
namespace Go.Proofs.YtcmjambbdfangaaGreat.Region
open Go.RowKit

/-- the frame with other values in some slots -/
def fill (a : Act) (ds : List Nat) (ys : Nat → Value) : Act := ds.foldl (fun a d => a.put (some d) (ys d)) a
/-- a post that is K where the code goes on -/
def Then (Q : Exit → Act → World → Prop) (K : Act → World → Prop) : Exit → Act → World → Prop
  | .normal, a, w => K a w
  | e, a, w => Q e a w
/-- what the operations ahead have left -/
def Deps (V : Nat → Value → World → Prop) (dst : List Nat) (ys : Nat → Value) (w : World) : List Edge → Prop
  | [] => True
  | e :: r => (Region.binds .any e = true → V e.on (ys (dst.getD e.on 0)) w) ∧ Deps V dst ys w r
/-- each operation, from whatever the ones ahead of it have left -/
def Each (P : Program) (ops : Array Oper) (Q : Exit → Act → World → Prop) (a0 : Act) (dst : List Nat) (B : World → Prop) (V : Nat → Value → World → Prop) : Nat → List Oper → Prop
  | _, [] => True
  | i, o :: r => (∀ ys w, B w → Deps V dst ys w o.after.toList →
      wpList P ops (Then Q fun a' w' => ∃ v, a' = (fill a0 dst ys).put (some (dst.getD i 0)) v ∧ V i v w' ∧ B w' ∧ Below w.heap.size w w') [o] (fill a0 dst ys) w) ∧ Each P ops Q a0 dst B V (i + 1) r

theorem Each.at {P : Program} {ops : Array Oper} {Q : Exit → Act → World → Prop} {a0 : Act} {dst : List Nat} {B : World → Prop} {V : Nat → Value → World → Prop} :
    ∀ {l : List Oper} {k : Nat}, Each P ops Q a0 dst B V k l → ∀ j o, l[j]? = some o → ∀ ys w, B w → Deps V dst ys w o.after.toList →
      wpList P ops (Then Q fun a' w' => ∃ v, a' = (fill a0 dst ys).put (some (dst.getD (k + j) 0)) v ∧ V (k + j) v w' ∧ B w' ∧ Below w.heap.size w w') [o] (fill a0 dst ys) w
  | [], _, _, j, o, h => by simp at h
  | x :: r, k, hE, 0, o, h => by
    simp only [List.getElem?_cons_zero, Option.some.injEq] at h
    subst h; exact hE.1
  | x :: r, k, hE, j + 1, o, h => by
    simp only [List.getElem?_cons_succ] at h
    have := Each.at (l := r) (k := k + 1) hE.2 j o h
    rw [show k + 1 + j = k + (j + 1) by omega] at this; exact this

theorem Deps.of {V : Nat → Value → World → Prop} {dst : List Nat} {ys : Nat → Value} {w : World} : ∀ {es : List Edge}, (∀ e ∈ es, Region.binds .any e = true → V e.on (ys (dst.getD e.on 0)) w) → Deps V dst ys w es
  | [], _ => trivial
  | e :: r, h => ⟨h e (by simp), Deps.of fun x hx => h x (by simp [hx])⟩

/-- the frame is the first one but for the listed slots -/
def Like (a0 : Act) (dst : List Nat) (a : Act) : Prop := a.defers = a0.defers ∧ a.tmps.size = a0.tmps.size ∧ ∀ s, s ∉ dst → a.tmps[s]? = a0.tmps[s]?

theorem fill_defers (a : Act) (ys : Nat → Value) : ∀ ds, (fill a ds ys).defers = a.defers := by
  intro ds
  induction ds generalizing a with
  | nil => rfl
  | cons d r ih => show (fill (a.put (some d) (ys d)) r ys).defers = _; rw [ih]; rfl
theorem fill_size (a : Act) (ys : Nat → Value) : ∀ ds, (fill a ds ys).tmps.size = a.tmps.size := by
  intro ds
  induction ds generalizing a with
  | nil => rfl
  | cons d r ih => show (fill (a.put (some d) (ys d)) r ys).tmps.size = _; rw [ih]; simp [Act.put]
theorem fill_get (a : Act) (ys : Nat → Value) (s : Nat) : ∀ ds, (fill a ds ys).tmps[s]? = if s ∈ ds ∧ s < a.tmps.size then some (ys s) else a.tmps[s]? := by
  intro ds
  induction ds generalizing a with
  | nil => simp [fill]
  | cons d r ih =>
    show (fill (a.put (some d) (ys d)) r ys).tmps[s]? = _
    rw [ih]
    simp only [Act.put, Array.size_setIfInBounds, List.mem_cons]
    by_cases h1 : s ∈ r ∧ s < a.tmps.size
    · rw [if_pos h1, if_pos ⟨.inr h1.1, h1.2⟩]
    · rw [if_neg h1]
      by_cases h2 : s = d
      · subst h2
        by_cases h3 : s < a.tmps.size
        · rw [if_pos ⟨.inl rfl, h3⟩]; simp [h3]
        · rw [if_neg (by simp [h3])]; simp [h3]
      · rw [if_neg (by rintro ⟨h | h, h'⟩; exact h2 h; exact h1 ⟨h, h'⟩)]
        simp [Ne.symm h2]
theorem Like.fill {a0 a : Act} {dst : List Nat} (h : Like a0 dst a) : a = fill a0 dst (fun d => a.tmps.getD d undef) := by
  obtain ⟨h1, h2, h3⟩ := h
  have e : a.tmps = (Region.fill a0 dst (fun d => a.tmps.getD d undef)).tmps := by
    apply Array.ext_getElem?
    intro s
    rw [fill_get]
    by_cases hs : s ∈ dst ∧ s < a0.tmps.size
    · rw [if_pos hs]
      have : s < a.tmps.size := by omega
      simp [this]
    · rw [if_neg hs]
      by_cases hd : s ∈ dst
      · have : ¬ s < a0.tmps.size := fun x => hs ⟨hd, x⟩
        rw [Array.getElem?_eq_none (by omega), Array.getElem?_eq_none (by omega)]
      · exact h3 s hd
  have e2 : a.defers = (Region.fill a0 dst (fun d => a.tmps.getD d undef)).defers := by rw [fill_defers]; exact h1
  cases a; cases hb : Region.fill a0 dst _
  simp only [hb] at e e2
  subst e e2; rfl
theorem Like.put {a0 a : Act} {dst : List Nat} (h : Like a0 dst a) {d : Nat} (hd : d ∈ dst) (v : Value) : Like a0 dst (a.put (some d) v) := by
  obtain ⟨h1, h2, h3⟩ := h
  refine ⟨h1, by simp [Act.put, h2], fun s hs => ?_⟩
  have : d ≠ s := fun e => hs (e ▸ hd)
  simp only [Act.put]
  rw [Array.getElem?_setIfInBounds_ne this]; exact h3 s hs

theorem wpOp_of_list {P : Program} {ops : Array Oper} {Q : Exit → Act → World → Prop} {i : Nat} {o : Oper} {K : Act → World → Prop} {a : Act} {w : World} (hi : ops[i]? = some o) (h : wpList P ops (Then Q K) [o] a w) : wpOp P ops Q i K a w := by
  unfold wpOp
  simp only [hi]
  unfold wpList at h
  have hl : LetsOut (Then Q K) → LetsOut Q := fun ⟨a, w, h⟩ => ⟨a, w, h⟩
  split
  · rename_i hw
    rw [if_pos hw] at h
    rcases h with h | ⟨h1, h2⟩
    · left
      unfold Oper.wp at h ⊢
      generalize (execOp a.eval o).run P w = r at h ⊢
      cases r with
      | ok n w' =>
        cases n <;> simp only [Oper.upon] at h ⊢ <;>
          first
            | exact h
            | exact Calls.mono h (fun e w'' he => by cases e <;> first | exact he | exact hl he)
            | exact Rows.mono h (fun _ _ he => he)
      | halt x w' => cases x <;> simp only [Oper.upon] at h ⊢ <;> exact h
    · exact .inr ⟨h1, hl h2⟩
  · rename_i hw
    rw [if_neg hw] at h
    exact h

/-- what is known behind some of the operations -/
def Inv (a0 : Act) (dst : List Nat) (B : World → Prop) (V : Nat → Value → World → Prop) (n : Nat) (listed : Array Bool) (a : Act) (w : World) : Prop :=
  B w ∧ Like a0 dst a ∧ ∀ i, i < n → listed.getD i false = true → V i (a.tmps.getD (dst.getD i 0) undef) w

theorem ready_dep {ops : Array Oper} {listed : Array Bool} {i : Nat} (h : i ∈ Region.ready .any ops listed) : ∃ o, ops[i]? = some o ∧ i < ops.size ∧ listed.getD i true = false ∧ ∀ e ∈ o.after.toList, Region.binds .any e = true → listed.getD e.on false = true := by
  unfold Region.ready at h
  rw [List.mem_filter] at h
  obtain ⟨h1, h2⟩ := h
  have hi : i < ops.size := by simpa using h1
  simp only [Array.getElem?_eq_getElem hi, Option.map_some, Option.getD_some, Bool.and_eq_true, Bool.not_eq_true'] at h2
  refine ⟨ops[i], Array.getElem?_eq_getElem hi, hi, h2.1, fun e he hb => ?_⟩
  have := h2.2
  rw [Array.all_eq_true'] at this
  have := this e (by simpa using he)
  simpa [hb] using this

theorem wpAny_inv {P : Program} {ops : Array Oper} {Q : Exit → Act → World → Prop} {a0 : Act} {dst : List Nat} {B : World → Prop} {V : Nat → Value → World → Prop}
    (hlen : dst.length = ops.size) (hnd : dst.Nodup) (hsz : ∀ d ∈ dst, d < a0.tmps.size)
    (hon : ∀ (i : Nat) (o : Oper), ops[i]? = some o → ∀ e ∈ o.after.toList, Region.binds .any e = true → e.on < ops.size)
    (hmono : ∀ i v w w', V i v w → Below w.heap.size w w' → V i v w')
    (hE : Each P ops Q a0 dst B V 0 ops.toList)
    (done : ∀ ys w, B w → (∀ i, i < ops.size → V i (ys (dst.getD i 0)) w) → Q .normal (fill a0 dst ys) w)
    (hend : ∀ listed : Array Bool, listed.size = ops.size → Region.ready .any ops listed = [] → ∀ i, i < ops.size → listed.getD i false = true) :
    ∀ (fuel : Nat) (listed : Array Bool) (a : Act) (w : World), listed.size = ops.size → listed.toList.count false ≤ fuel → Inv a0 dst B V ops.size listed a w → wpAny P .any ops Q fuel listed a w := by
  have fin : ∀ (listed : Array Bool) (a : Act) (w : World), listed.size = ops.size → Inv a0 dst B V ops.size listed a w → Region.ready .any ops listed = [] → Q .normal a w := by
    intro listed a w hs hI hr
    obtain ⟨hB, hL, hV⟩ := hI
    have := done (fun d => a.tmps.getD d undef) w hB (fun i hi => hV i hi (hend listed hs hr i hi))
    rw [← hL.fill] at this; exact this
  intro fuel
  induction fuel with
  | zero =>
    intro listed a w hs hc hI
    have hr : Region.ready .any ops listed = [] := by
      cases hr : Region.ready .any ops listed with
      | nil => rfl
      | cons i r =>
        obtain ⟨o, ho, hi, hl, _⟩ := ready_dep (ops := ops) (listed := listed) (i := i) (by rw [hr]; simp)
        have : false ∈ listed.toList := by
          have hi' : i < listed.size := by omega
          rw [Array.getD, dif_pos hi'] at hl
          have : listed[i] = false := hl
          rw [← this]; simp
        have := List.count_pos_iff.2 this
        omega
    exact ⟨hr, fin listed a w hs hI hr⟩
  | succ fuel ih =>
    intro listed a w hs hc hI
    refine ⟨fin listed a w hs hI, fun i hi => ?_⟩
    obtain ⟨o, ho, hin, hl, hdep⟩ := ready_dep hi
    obtain ⟨hB, hL, hV⟩ := hI
    have hi' : i < listed.size := by omega
    have key := hE.at i o (by simpa using ho) (fun d => a.tmps.getD d undef) w hB (Deps.of fun e he hb => hV e.on (hon i o ho e he hb) (hdep e he hb))
    rw [← hL.fill, Nat.zero_add] at key
    refine wpOp_mono ?_ (wpOp_of_list ho key)
    rintro a' w' ⟨v, rfl, hv, hB', hbel⟩
    have hdi : i < dst.length := by omega
    have hd : dst.getD i 0 = dst[i] := by simp [List.getD, hdi]
    have hmem : dst.getD i 0 ∈ dst := by rw [hd]; exact List.getElem_mem hdi
    refine ih _ _ _ (by simpa using hs) ?_ ⟨hB', hL.put hmem v, fun j hj hlj => ?_⟩
    · have hf : listed[i] = false := by rw [Array.getD, dif_pos hi'] at hl; exact hl
      have : (listed.setIfInBounds i true).toList = listed.toList.set i true := by simp
      have hcp : 0 < List.count false listed.toList := List.count_pos_iff.2 (by rw [← hf]; simp)
      have hg : listed.toList[i]'(by simpa using hi') = false := by simpa using hf
      rw [this, List.count_set (by simpa using hi'), hg]
      simp only [BEq.rfl, if_true]
      have : ((true == false) = true) = False := by decide
      simp only [this, if_false]
      omega
    · have hdj : j < dst.length := by omega
      have hdj' : dst.getD j 0 = dst[j] := by simp [List.getD, hdj]
      have hsj : dst.getD i 0 < a.tmps.size := by have := hsz _ hmem; have := hL.2.1; omega
      by_cases e : i = j
      · subst e
        have : (a.put (some (dst.getD i 0)) v).tmps.getD (dst.getD i 0) undef = v := by
          simp only [Act.put, Array.getD_eq_getD_getElem?]
          rw [Array.getElem?_setIfInBounds_self_of_lt hsj]; rfl
        rw [this]; exact hv
      · have hne : dst.getD i 0 ≠ dst.getD j 0 := by
          rw [hd, hdj']
          intro h
          exact e ((List.getElem_inj hnd).1 h)
        have : (a.put (some (dst.getD i 0)) v).tmps.getD (dst.getD j 0) undef = a.tmps.getD (dst.getD j 0) undef := by
          simp only [Act.put, Array.getD_eq_getD_getElem?]
          rw [Array.getElem?_setIfInBounds_ne hne]
        rw [this]
        have hlj' : listed.getD j false = true := by rw [getD_set_ne _ e] at hlj; exact hlj
        exact hmono _ _ _ _ (hV j hj hlj') hbel

/-- every edge that binds leads back -/
def back (l : List Oper) : Bool := (List.range l.length).all fun i => match l[i]? with | some o => o.after.all (fun e => !Region.binds .any e || decide (e.on < i)) | none => true
theorem back_at {l : List Oper} (h : back l = true) {i : Nat} {o : Oper} (hi : l.toArray[i]? = some o) : ∀ e ∈ o.after.toList, Region.binds .any e = true → e.on < i := by
  intro e he hb
  have hi2 : l[i]? = some o := by simpa using hi
  have hlt : i < l.length := (List.getElem?_eq_some_iff.1 hi2).1
  have := List.all_eq_true.1 h i (by simpa using hlt)
  rw [hi2] at this
  simp only [Array.all_eq_true'] at this
  have := this e (by simpa using he)
  simpa [hb] using this
theorem all_listed {l : List Oper} (h : back l = true) (listed : Array Bool) (hs : listed.size = l.toArray.size) (hr : Region.ready .any l.toArray listed = []) : ∀ n i, i ≤ n → i < l.toArray.size → listed.getD i false = true := by
  intro n
  induction n using Nat.strongRecOn with
  | _ n ih =>
    intro i hin hi
    cases hl : listed.getD i false with
    | true => rfl
    | false =>
      exfalso
      have hi' : i < listed.size := by omega
      have hl' : listed.getD i true = false := by rw [Array.getD, dif_pos hi'] at hl ⊢; exact hl
      have : i ∈ Region.ready .any l.toArray listed := by
        unfold Region.ready
        rw [List.mem_filter]
        refine ⟨by simpa using hi, ?_⟩
        simp only [hl', Array.getElem?_eq_getElem hi, Option.map_some, Option.getD_some, Bool.not_false, Bool.true_and]
        rw [Array.all_eq_true']
        intro e he
        cases hb : Region.binds .any e with
        | false => rfl
        | true =>
          have hlt := back_at h (Array.getElem?_eq_getElem hi) e (by simpa using he) hb
          simp [ih e.on (by omega) e.on (Nat.le_refl _) (by omega)]
      rw [hr] at this
      simp at this

theorem wp_region_each {P : Program} {id : Nat} {l : List Oper} {Q : Exit → Act → World → Prop} {a0 : Act} {w : World} (dst : List Nat) (B : World → Prop) (V : Nat → Value → World → Prop)
    (hm : P.follows .mixedOrders = true) (hb : back l = true) (hlen : dst.length = l.length) (hnd : dst.Nodup) (hsz : ∀ d ∈ dst, d < a0.tmps.size)
    (hmono : ∀ i v w w', V i v w → Below w.heap.size w w' → V i v w') (hB : B w.drew)
    (hE : Each P l.toArray Q a0 dst B V 0 l)
    (done : ∀ ys w, B w → (∀ i, i < l.length → V i (ys (dst.getD i 0)) w) → Q .normal (fill a0 dst ys) w) : (Code.region id l.toArray true).wp P Q a0 w := by
  refine wp_region_any hm ?_
  refine wpAny_inv (by simpa using hlen) hnd hsz (fun i o ho e he hx => ?_) hmono (by simpa using hE) (fun ys w hB hV => done ys w hB (by simpa using hV)) (fun listed hs hr i hi => all_listed hb listed hs hr i i (Nat.le_refl _) hi) _ _ _ _ (by simp) ?_ ⟨hB, ⟨rfl, rfl, fun _ _ => rfl⟩, fun i hi hl => ?_⟩
  · have := back_at hb ho e he hx
    have hlt : i < l.toArray.size := (Array.getElem?_eq_some_iff.1 ho).1
    omega
  · simp
  · exfalso
    simp at hi
    simp [hi] at hl
end Go.Proofs.YtcmjambbdfangaaGreat.Region
/-
  A region that draws its order, walked operation by operation, each once, with what is known at each point hanging on which operations are done: for regions whose operations may also write.
-/
set_option linter.unusedVariables false
set_option linter.unusedSimpArgs false
namespace Go.Proofs.YtcmjambbdfangaaGreat.Region
open Go.RowKit

/-- the slots that are written -/
def slots (dst : List (Option Nat)) : List Nat := dst.filterMap id
/-- the operations that wait for one -/
def waits (l : List Oper) (j i : Nat) : Bool := match l[j]? with
  | some o => o.after.any fun e => Region.binds .any e && decide (e.on = i)
  | none => false
/-- the operations ahead are done -/
def Deps2 (d : Nat → Bool) : List Edge → Prop
  | [] => True
  | e :: r => (Region.binds .any e = true → d e.on = true) ∧ Deps2 d r
def upd (d : Nat → Bool) (i : Nat) : Nat → Bool := fun j => if j = i then true else d j
def put (ys : Nat → Value) (s : Option Nat) (v : Value) : Nat → Value := match s with
  | some s => fun t => if t = s then v else ys t
  | none => ys
/-- what an operation owes -/
def Owes (P : Program) (ops : Array Oper) (Q : Exit → Act → World → Prop) (a0 : Act) (dst : List (Option Nat)) (J : (Nat → Bool) → (Nat → Value) → World → Prop) (l : List Oper) (i : Nat) (o : Oper) : Prop :=
  ∀ d ys w, J d ys w → d i = false → (∀ j, waits l j i = true → d j = false) → Deps2 d o.after.toList →
    wpList P ops (Then Q fun a' w' => ∃ v, a' = (fill a0 (slots dst) ys).put (dst.getD i none) v ∧ J (upd d i) (put ys (dst.getD i none) v) w') [o] (fill a0 (slots dst) ys) w
def Each2 (P : Program) (ops : Array Oper) (Q : Exit → Act → World → Prop) (a0 : Act) (dst : List (Option Nat)) (J : (Nat → Bool) → (Nat → Value) → World → Prop) (l0 : List Oper) : Nat → List Oper → Prop
  | _, [] => True
  | i, o :: r => Owes P ops Q a0 dst J l0 i o ∧ Each2 P ops Q a0 dst J l0 (i + 1) r
theorem Each2.at {P : Program} {ops : Array Oper} {Q : Exit → Act → World → Prop} {a0 : Act} {dst : List (Option Nat)} {J : (Nat → Bool) → (Nat → Value) → World → Prop} {l0 : List Oper} :
    ∀ {l : List Oper} {k : Nat}, Each2 P ops Q a0 dst J l0 k l → ∀ j o, l[j]? = some o → Owes P ops Q a0 dst J l0 (k + j) o
  | [], _, _, j, o, h => by simp at h
  | x :: r, k, hE, 0, o, h => by
    simp only [List.getElem?_cons_zero, Option.some.injEq] at h
    subst h; exact hE.1
  | x :: r, k, hE, j + 1, o, h => by
    simp only [List.getElem?_cons_succ] at h
    have := Each2.at (l := r) (k := k + 1) hE.2 j o h
    rw [show k + 1 + j = k + (j + 1) by omega] at this; exact this
theorem Deps2.of {d : Nat → Bool} : ∀ {es : List Edge}, (∀ e ∈ es, Region.binds .any e = true → d e.on = true) → Deps2 d es
  | [], _ => trivial
  | e :: r, h => ⟨h e (by simp), Deps2.of fun x hx => h x (by simp [hx])⟩

/-- no slot is written twice -/
def once (dst : List (Option Nat)) : Bool := decide (slots dst).Nodup
theorem slot_mem {dst : List (Option Nat)} {i d : Nat} (h : dst.getD i none = some d) : d ∈ slots dst := by
  unfold slots
  rw [List.mem_filterMap]
  refine ⟨some d, ?_, rfl⟩
  rw [List.getD] at h
  cases hi : dst[i]? with
  | none => simp [hi] at h
  | some x => simp [hi] at h; subst h; exact List.mem_of_getElem? hi
/-- what is known behind some of the operations -/
structure Inv2 (a0 : Act) (dst : List (Option Nat)) (J : (Nat → Bool) → (Nat → Value) → World → Prop) (l : List Oper) (listed : Array Bool) (a : Act) (w : World) : Prop where
  j : J (fun i => listed.getD i false) (fun d => a.tmps.getD d undef) w
  like : Like a0 (slots dst) a
  down : ∀ j i, waits l j i = true → listed.getD j false = true → listed.getD i false = true
theorem waits_of {l : List Oper} {i : Nat} {o : Oper} (ho : l[i]? = some o) {e : Edge} (he : e ∈ o.after.toList) (hb : Region.binds .any e = true) : waits l i e.on = true := by
  unfold waits
  rw [ho]
  simp only [Array.any_eq_true']
  exact ⟨e, by simpa using he, by simp [hb]⟩
theorem waits_edge {l : List Oper} {j i : Nat} (h : waits l j i = true) : ∃ o, l[j]? = some o ∧ ∃ e ∈ o.after.toList, Region.binds .any e = true ∧ e.on = i := by
  unfold waits at h
  cases ho : l[j]? with
  | none => simp [ho] at h
  | some o =>
    rw [ho] at h
    simp only [Array.any_eq_true'] at h
    obtain ⟨e, he, hb⟩ := h
    simp at hb
    exact ⟨o, rfl, e, by simpa using he, hb⟩
theorem put_none (a : Act) (v : Value) : a.put none v = a := rfl
theorem getD_set_self {listed : Array Bool} {i : Nat} (h : i < listed.size) : (listed.setIfInBounds i true).getD i false = true := by
  rw [Array.getD_eq_getD_getElem?, Array.getElem?_setIfInBounds_self_of_lt h]; rfl
theorem wpAny_inv2 {P : Program} {l : List Oper} {Q : Exit → Act → World → Prop} {a0 : Act} {dst : List (Option Nat)} {J : (Nat → Bool) → (Nat → Value) → World → Prop}
    (hsz : ∀ d ∈ slots dst, d < a0.tmps.size) (hb : back l = true) (hE : Each2 P l.toArray Q a0 dst J l 0 l)
    (done : ∀ d ys w, J d ys w → (∀ i, i < l.length → d i = true) → Q .normal (fill a0 (slots dst) ys) w) :
    ∀ (fuel : Nat) (listed : Array Bool) (a : Act) (w : World), listed.size = l.toArray.size → listed.toList.count false ≤ fuel → Inv2 a0 dst J l listed a w → wpAny P .any l.toArray Q fuel listed a w := by
  have fin : ∀ (listed : Array Bool) (a : Act) (w : World), listed.size = l.toArray.size → Inv2 a0 dst J l listed a w → Region.ready .any l.toArray listed = [] → Q .normal a w := by
    intro listed a w hs hI hr
    have := done _ (fun d => a.tmps.getD d undef) w hI.j (fun i hi => all_listed hb listed hs hr i i (Nat.le_refl _) (by simpa using hi))
    rw [← hI.like.fill] at this; exact this
  intro fuel
  induction fuel with
  | zero =>
    intro listed a w hs hc hI
    have hr : Region.ready .any l.toArray listed = [] := by
      cases hr : Region.ready .any l.toArray listed with
      | nil => rfl
      | cons i r =>
        obtain ⟨o, ho, hi, hl, _⟩ := ready_dep (ops := l.toArray) (listed := listed) (i := i) (by rw [hr]; simp)
        have : false ∈ listed.toList := by
          have hi' : i < listed.size := by omega
          rw [Array.getD, dif_pos hi'] at hl
          have : listed[i] = false := hl
          rw [← this]; simp
        have := List.count_pos_iff.2 this
        omega
    exact ⟨hr, fin listed a w hs hI hr⟩
  | succ fuel ih =>
    intro listed a w hs hc hI
    refine ⟨fin listed a w hs hI, fun i hi => ?_⟩
    obtain ⟨o, ho, hin, hl, hdep⟩ := ready_dep hi
    have hi' : i < listed.size := by omega
    have hol : l[i]? = some o := by simpa using ho
    have hlf : listed.getD i false = false := by rw [Array.getD, dif_pos hi'] at hl ⊢; exact hl
    have key := hE.at i o hol (fun i => listed.getD i false) (fun d => a.tmps.getD d undef) w hI.j (by rw [Nat.zero_add]; exact hlf)
      (fun j hj => by
        rw [Nat.zero_add] at hj
        cases hjl : listed.getD j false with
        | false => rfl
        | true => rw [hI.down j i hj hjl] at hlf; exact absurd hlf (by simp))
      (Deps2.of fun e he hx => hdep e he hx)
    rw [← hI.like.fill, Nat.zero_add] at key
    refine wpOp_mono ?_ (wpOp_of_list ho key)
    rintro a' w' ⟨v, rfl, hJ⟩
    have hupd : (fun j => (listed.setIfInBounds i true).getD j false) = upd (fun j => listed.getD j false) i := by
      funext j
      unfold upd
      by_cases e : j = i
      · subst e; rw [if_pos rfl]; exact getD_set_self hi'
      · rw [if_neg e, getD_set_ne _ (Ne.symm e)]
    have hput : (fun t => (a.put (dst.getD i none) v).tmps.getD t undef) = put (fun t => a.tmps.getD t undef) (dst.getD i none) v := by
      cases hdi : dst.getD i none with
      | none => rfl
      | some s =>
        have hsj : s < a.tmps.size := by have := hsz _ (slot_mem hdi); have := hI.like.2.1; omega
        funext t
        simp only [put, Act.put, Array.getD_eq_getD_getElem?]
        by_cases e : t = s
        · subst e; rw [if_pos rfl, Array.getElem?_setIfInBounds_self_of_lt hsj]; rfl
        · rw [if_neg e, Array.getElem?_setIfInBounds_ne (Ne.symm e)]
    refine ih _ _ _ (by simpa using hs) ?_ ⟨by rw [hupd, hput]; exact hJ, ?_, fun j k hw hjl => ?_⟩
    · have hf : listed[i] = false := by rw [Array.getD, dif_pos hi'] at hl; exact hl
      have : (listed.setIfInBounds i true).toList = listed.toList.set i true := by simp
      have hcp : 0 < List.count false listed.toList := List.count_pos_iff.2 (by rw [← hf]; simp)
      have hg : listed.toList[i]'(by simpa using hi') = false := by simpa using hf
      rw [this, List.count_set (by simpa using hi'), hg]
      simp only [BEq.rfl, if_true]
      have : ((true == false) = true) = False := by decide
      simp only [this, if_false]
      omega
    · cases hdi : dst.getD i none with
      | none => exact hI.like
      | some s => exact hI.like.put (slot_mem hdi) v
    · by_cases e : i = k
      · subst e; exact getD_set_self hi'
      · rw [getD_set_ne _ e]
        by_cases e2 : i = j
        · subst e2
          obtain ⟨o', ho', e', he', hx, hon⟩ := waits_edge hw
          rw [hol] at ho'; cases ho'
          rw [← hon]; exact hdep e' he' hx
        · rw [getD_set_ne _ e2] at hjl
          exact hI.down j k hw hjl
theorem wp_region_each2 {P : Program} {id : Nat} {l : List Oper} {Q : Exit → Act → World → Prop} {a0 : Act} {w : World} (dst : List (Option Nat)) (J : (Nat → Bool) → (Nat → Value) → World → Prop)
    (hm : P.follows .mixedOrders = true) (hb : back l = true) (hsz : ∀ d ∈ slots dst, d < a0.tmps.size)
    (hJ : ∀ ys, J (fun _ => false) ys w.drew) (hE : Each2 P l.toArray Q a0 dst J l 0 l)
    (done : ∀ d ys w, J d ys w → (∀ i, i < l.length → d i = true) → Q .normal (fill a0 (slots dst) ys) w) : (Code.region id l.toArray true).wp P Q a0 w := by
  refine wp_region_any hm ?_
  refine wpAny_inv2 hsz hb (by simpa using hE) done _ _ _ _ (by simp) ?_ ⟨?_, ⟨rfl, rfl, fun _ _ => rfl⟩, fun j i hw hl => ?_⟩
  · simp
  · have : (fun i => (Array.replicate l.toArray.size false).getD i false) = fun _ => false := by
      funext i
      rw [Array.getD_eq_getD_getElem?, Array.getElem?_replicate]
      split <;> rfl
    rw [this]; exact hJ _
  · exfalso
    rw [Array.getD_eq_getD_getElem?, Array.getElem?_replicate] at hl
    split at hl <;> simp at hl
end Go.Proofs.YtcmjambbdfangaaGreat.Region
/-
  A region that draws its order, of which the last operations wait for all that stand ahead of them: the ones ahead are walked once each, the last ones in the order of the text.
-/
set_option linter.unusedVariables false
set_option linter.unusedSimpArgs false
namespace Go.Proofs.YtcmjambbdfangaaGreat.Region
open Go.RowKit

/-- an operation waits for another one, by way of others -/
inductive Anc (l : List Oper) : Nat → Nat → Prop
  | one {i j : Nat} : waits l i j = true → Anc l i j
  | more {i k j : Nat} : waits l i k = true → Anc l k j → Anc l i j
theorem Anc.listed {l : List Oper} {d : Nat → Bool} (hd : ∀ j i, waits l j i = true → d j = true → d i = true) {i j : Nat} (h : Anc l i j) : d i = true → d j = true := by
  induction h with
  | one h => exact hd _ _ h
  | more h _ ih => exact fun hi => ih (hd _ _ h hi)
/-- for whom an operation waits, as binary digits -/
def maskF (acc : List Nat) (m : Nat) (e : Edge) : Nat := if Region.binds .any e then m ||| (1 <<< e.on ||| acc.getD e.on 0) else m
def maskOf (acc : List Nat) (o : Oper) : Nat := o.after.toList.foldl (maskF acc) 0
def masks : List Oper → List Nat → List Nat
  | [], acc => acc
  | o :: r, acc => masks r (acc ++ [maskOf acc o])
/-- from n on each operation waits for all ahead of it -/
def full (l : List Oper) (n : Nat) : Bool := let M := masks l []; (List.range l.length).all fun i => decide (i < n) || M.getD i 0 == 2 ^ i - 1
theorem mask_fold (acc : List Nat) (j : Nat) : ∀ (es : List Edge) (m : Nat), (es.foldl (maskF acc) m).testBit j = true → m.testBit j = true ∨ ∃ e ∈ es, Region.binds .any e = true ∧ (e.on = j ∨ (acc.getD e.on 0).testBit j = true)
  | [], m, h => .inl h
  | e :: r, m, h => by
    rcases mask_fold acc j r _ h with h | ⟨e', he, hb, hj⟩
    · unfold maskF at h
      split at h
      · rename_i hb
        rw [Nat.testBit_or, Nat.testBit_or, Nat.one_shiftLeft, Nat.testBit_two_pow] at h
        simp only [Bool.or_eq_true, decide_eq_true_eq] at h
        rcases h with h | h | h
        · exact .inl h
        · exact .inr ⟨e, by simp, hb, .inl h⟩
        · exact .inr ⟨e, by simp, hb, .inr h⟩
      · exact .inl h
    · exact .inr ⟨e', by simp [he], hb, hj⟩
def Sound (l : List Oper) (acc : List Nat) : Prop := ∀ i j, (acc.getD i 0).testBit j = true → Anc l i j
theorem masks_sound (l : List Oper) : ∀ (r : List Oper) (acc : List Nat), l.drop acc.length = r → Sound l acc → Sound l (masks r acc)
  | [], acc, _, h => h
  | o :: r, acc, hr, h => by
    have ho : l[acc.length]? = some o := by
      have := congrArg (·[0]?) hr
      simpa using this
    refine masks_sound l r _ ?_ ?_
    · rw [List.length_append, List.length_singleton, ← List.drop_drop, hr]; rfl
    · intro i j hj
      by_cases hi : i < acc.length
      · refine h i j ?_
        rw [List.getD, List.getElem?_append_left hi] at hj
        exact hj
      · by_cases hi2 : i = acc.length
        · subst hi2
          rw [List.getD, List.getElem?_append_right (Nat.le_refl _), Nat.sub_self] at hj
          rcases mask_fold acc j _ _ hj with h0 | ⟨e, he, hb, hj⟩
          · simp at h0
          · have hw := waits_of ho he hb
            rcases hj with rfl | hj
            · exact .one hw
            · exact .more hw (h _ _ hj)
        · rw [List.getD, List.getElem?_eq_none (by simp; omega)] at hj
          simp at hj
theorem full_anc {l : List Oper} {n : Nat} (h : full l n = true) {i : Nat} (hi : i < l.length) (hn : n ≤ i) {j : Nat} (hj : j < i) : Anc l i j := by
  have := List.all_eq_true.1 h i (by simpa using hi)
  simp only [Bool.or_eq_true, decide_eq_true_eq, beq_iff_eq] at this
  rcases this with h | h
  · omega
  · refine masks_sound l l [] rfl (fun i j h => by simp at h) i j ?_
    rw [h, Nat.testBit_two_pow_sub_one]; simpa using hj
/-- the last operations are all behind one that stands ahead of them in the text -/
theorem list_step {P : Program} {ops : Array Oper} {Q : Exit → Act → World → Prop} {o : Oper} {rest : List Oper} {a : Act} {w : World} (h : wpList P ops Q (o :: rest) a w) :
    wpList P ops (Then Q fun a' w' => wpList P ops Q rest a' w') [o] a w := by
  unfold wpList at h ⊢
  have hl : LetsOut Q → LetsOut (Then Q fun a' w' => wpList P ops Q rest a' w') := fun ⟨a, w, h⟩ => ⟨a, w, h⟩
  split
  · rename_i hw
    rw [if_pos hw] at h
    rcases h with h | ⟨h1, h2⟩
    · left
      unfold Oper.wp at h ⊢
      generalize (execOp a.eval o).run P w = r at h ⊢
      cases r with
      | ok n w' =>
        cases n <;> simp only [Oper.upon] at h ⊢ <;>
          first
            | exact h
            | exact Calls.mono h (fun e w'' he => by cases e <;> first | exact he | exact hl he)
            | exact Rows.mono h (fun _ _ he => he)
      | halt x w' => cases x <;> simp only [Oper.upon] at h ⊢ <;> exact h
    · exact .inr ⟨h1, hl h2⟩
  · rename_i hw
    rw [if_neg hw] at h
    exact h
/-- what is known behind some of the operations -/
structure InvT (P : Program) (Q : Exit → Act → World → Prop) (a0 : Act) (dst : List Nat) (B : World → Prop) (V : Nat → Value → World → Prop) (l : List Oper) (n : Nat) (listed : Array Bool) (a : Act) (w : World) : Prop where
  at_ : ((∀ i, n ≤ i → listed.getD i false = false) ∧ B w ∧ Like a0 dst a ∧ ∀ i, i < n → listed.getD i false = true → V i (a.tmps.getD (dst.getD i 0) undef) w) ∨
    ∃ k, n ≤ k ∧ k ≤ l.length ∧ (∀ i, i < l.length → (listed.getD i false = true ↔ i < k)) ∧ wpList P l.toArray Q (l.drop k) a w
  down : ∀ j i, waits l j i = true → listed.getD j false = true → listed.getD i false = true
/-- each of the first n operations, from whatever the ones ahead of it have left -/
def EachN (P : Program) (ops : Array Oper) (Q : Exit → Act → World → Prop) (a0 : Act) (dst : List Nat) (B : World → Prop) (V : Nat → Value → World → Prop) (n : Nat) : List Oper → Prop := fun l => Each P ops Q a0 dst B V 0 (l.take n)
theorem wpAny_tail {P : Program} {l : List Oper} {Q : Exit → Act → World → Prop} {a0 : Act} {dst : List Nat} {B : World → Prop} {V : Nat → Value → World → Prop} {n : Nat}
    (hn : n ≤ l.length) (hb : back l = true) (hf : full l n = true) (hlen : dst.length = n) (hnd : dst.Nodup) (hsz : ∀ d ∈ dst, d < a0.tmps.size)
    (hmono : ∀ i v w w', V i v w → Below w.heap.size w w' → V i v w')
    (hE : Each P l.toArray Q a0 dst B V 0 (l.take n))
    (tail : ∀ ys w, B w → (∀ i, i < n → V i (ys (dst.getD i 0)) w) → wpList P l.toArray Q (l.drop n) (fill a0 dst ys) w) :
    ∀ (fuel : Nat) (listed : Array Bool) (a : Act) (w : World), listed.size = l.toArray.size → listed.toList.count false ≤ fuel → InvT P Q a0 dst B V l n listed a w → wpAny P .any l.toArray Q fuel listed a w := by
  have turn : ∀ (listed : Array Bool) (a : Act) (w : World), B w → Like a0 dst a → (∀ i, i < n → listed.getD i false = true → V i (a.tmps.getD (dst.getD i 0) undef) w) → (∀ i, i < n → listed.getD i false = true) → wpList P l.toArray Q (l.drop n) a w := by
    intro listed a w hB hL hV hall
    have := tail (fun d => a.tmps.getD d undef) w hB (fun i hi => hV i hi (hall i hi))
    rw [← hL.fill] at this; exact this
  have fin : ∀ (listed : Array Bool) (a : Act) (w : World), listed.size = l.toArray.size → InvT P Q a0 dst B V l n listed a w → Region.ready .any l.toArray listed = [] → Q .normal a w := by
    intro listed a w hs hI hr
    have hall : ∀ i, i < l.length → listed.getD i false = true := fun i hi => all_listed hb listed hs hr i i (Nat.le_refl _) (by simpa using hi)
    have last : ∀ a w, wpList P l.toArray Q (l.drop l.length) a w → Q .normal a w := by
      intro a w h
      rw [List.drop_length] at h
      exact h
    rcases hI.at_ with ⟨h1, hB, hL, hV⟩ | ⟨k, h1, h2, h3, h4⟩
    · have : n = l.length := by
        rcases Nat.lt_or_eq_of_le hn with h | h
        · have := h1 n (Nat.le_refl _); rw [hall n h] at this; cases this
        · exact h
      have ht := turn listed a w hB hL hV (fun i hi => hall i (by omega))
      rw [this] at ht
      exact last a w ht
    · have : k = l.length := by
        rcases Nat.lt_or_eq_of_le h2 with h | h
        · have := (h3 k h).1 (hall k h); omega
        · exact h
      rw [this] at h4
      exact last a w h4
  intro fuel
  induction fuel with
  | zero =>
    intro listed a w hs hc hI
    have hr : Region.ready .any l.toArray listed = [] := by
      cases hr : Region.ready .any l.toArray listed with
      | nil => rfl
      | cons i r =>
        obtain ⟨o, ho, hi, hl, _⟩ := ready_dep (ops := l.toArray) (listed := listed) (i := i) (by rw [hr]; simp)
        have : false ∈ listed.toList := by
          have hi' : i < listed.size := by omega
          rw [Array.getD, dif_pos hi'] at hl
          have : listed[i] = false := hl
          rw [← this]; simp
        have := List.count_pos_iff.2 this
        omega
    exact ⟨hr, fin listed a w hs hI hr⟩
  | succ fuel ih =>
    intro listed a w hs hc hI
    refine ⟨fin listed a w hs hI, fun i hi => ?_⟩
    obtain ⟨o, ho, hin, hl, hdep⟩ := ready_dep hi
    have hi' : i < listed.size := by omega
    have hil : i < l.length := by simpa using hin
    have hol : l[i]? = some o := by simpa using ho
    have hlf : listed.getD i false = false := by rw [Array.getD, dif_pos hi'] at hl ⊢; exact hl
    have hcount : (listed.setIfInBounds i true).toList.count false ≤ fuel := by
      have hf : listed[i] = false := by rw [Array.getD, dif_pos hi'] at hl; exact hl
      have : (listed.setIfInBounds i true).toList = listed.toList.set i true := by simp
      have hcp : 0 < List.count false listed.toList := List.count_pos_iff.2 (by rw [← hf]; simp)
      have hg : listed.toList[i]'(by simpa using hi') = false := by simpa using hf
      rw [this, List.count_set (by simpa using hi'), hg]
      simp only [BEq.rfl, if_true]
      have : ((true == false) = true) = False := by decide
      simp only [this, if_false]
      omega
    have hdown : ∀ j k, waits l j k = true → (listed.setIfInBounds i true).getD j false = true → (listed.setIfInBounds i true).getD k false = true := by
      intro j k hw hjl
      by_cases e : i = k
      · subst e; exact getD_set_self hi'
      · rw [getD_set_ne _ e]
        by_cases e2 : i = j
        · subst e2
          obtain ⟨o', ho', e', he', hx, hon⟩ := waits_edge hw
          rw [hol] at ho'; cases ho'
          rw [← hon]; exact hdep e' he' hx
        · rw [getD_set_ne _ e2] at hjl
          exact hI.down j k hw hjl
    -- all that stand ahead of an operation of the tail are done
    have hahead : n ≤ i → ∀ j, j < i → listed.getD j false = true := by
      intro hni j hj
      have ha := full_anc hf hil hni hj
      have : (listed.setIfInBounds i true).getD j false = true := ha.listed (d := fun t => (listed.setIfInBounds i true).getD t false) hdown (getD_set_self hi')
      rwa [getD_set_ne _ (by omega)] at this
    have goTail : ∀ k, n ≤ k → i = k → (∀ t, t < l.length → (listed.getD t false = true ↔ t < k)) → wpList P l.toArray Q (l.drop k) a w → wpOp P l.toArray Q i (wpAny P .any l.toArray Q fuel (listed.setIfInBounds i true)) a w := by
      intro k hk hik hlist hwp
      subst hik
      rw [List.drop_eq_getElem_cons hil] at hwp
      have hoe : l[i] = o := by rw [List.getElem?_eq_getElem hil] at hol; exact Option.some.inj hol
      rw [hoe] at hwp
      refine wpOp_mono ?_ (wpOp_of_list ho (list_step hwp))
      intro a' w' hwp'
      refine ih _ _ _ (by simpa using hs) hcount ⟨.inr ⟨i + 1, by omega, hil, fun t ht => ?_, hwp'⟩, hdown⟩
      by_cases e : i = t
      · subst e; rw [getD_set_self hi']; simp
      · rw [getD_set_ne _ e, hlist t ht]; omega
    rcases hI.at_ with ⟨h1, hB, hL, hV⟩ | ⟨k, h1, h2, h3, h4⟩
    · by_cases hni : i < n
      · have hot : (l.take n)[i]? = some o := by rw [List.getElem?_take_of_lt hni]; exact hol
        have key := hE.at i o hot (fun d => a.tmps.getD d undef) w hB (Deps.of fun e he hx => hV e.on (by have := back_at hb ho e he hx; omega) (hdep e he hx))
        rw [← hL.fill, Nat.zero_add] at key
        refine wpOp_mono ?_ (wpOp_of_list ho key)
        rintro a' w' ⟨v, rfl, hv, hB', hbel⟩
        have hdi : i < dst.length := by omega
        have hd : dst.getD i 0 = dst[i] := by simp [List.getD, hdi]
        have hmem : dst.getD i 0 ∈ dst := by rw [hd]; exact List.getElem_mem hdi
        refine ih _ _ _ (by simpa using hs) hcount ⟨.inl ⟨fun t ht => by rw [getD_set_ne _ (by omega)]; exact h1 t ht, hB', hL.put hmem v, fun j hj hlj => ?_⟩, hdown⟩
        have hdj : j < dst.length := by omega
        have hdj' : dst.getD j 0 = dst[j] := by simp [List.getD, hdj]
        have hsj : dst.getD i 0 < a.tmps.size := by have := hsz _ hmem; have := hL.2.1; omega
        by_cases e : i = j
        · subst e
          have : (a.put (some (dst.getD i 0)) v).tmps.getD (dst.getD i 0) undef = v := by
            simp only [Act.put, Array.getD_eq_getD_getElem?]
            rw [Array.getElem?_setIfInBounds_self_of_lt hsj]; rfl
          rw [this]; exact hv
        · have hne : dst.getD i 0 ≠ dst.getD j 0 := by
            rw [hd, hdj']
            intro h
            exact e ((List.getElem_inj hnd).1 h)
          have : (a.put (some (dst.getD i 0)) v).tmps.getD (dst.getD j 0) undef = a.tmps.getD (dst.getD j 0) undef := by
            simp only [Act.put, Array.getD_eq_getD_getElem?]
            rw [Array.getElem?_setIfInBounds_ne hne]
          rw [this]
          rw [getD_set_ne _ e] at hlj
          exact hmono _ _ _ _ (hV j hj hlj) hbel
      · have hall := hahead (by omega)
        have hin' : i = n := by
          rcases Nat.lt_or_eq_of_le (Nat.le_of_not_lt hni) with h | h
          · have := hall n h; rw [h1 n (Nat.le_refl _)] at this; cases this
          · exact h.symm
        refine goTail n (Nat.le_refl _) hin' (fun t ht => ⟨fun h => ?_, fun h => hall t (by omega)⟩) (turn listed a w hB hL hV (fun t ht => hall t (by omega)))
        rcases Nat.lt_or_ge t n with h' | h'
        · exact h'
        · rw [h1 t h'] at h; cases h
    · have hki : ¬ i < k := fun h => by rw [(h3 i hil).2 h] at hlf; cases hlf
      have hik : i = k := by
        rcases Nat.lt_or_eq_of_le (Nat.le_of_not_lt hki) with h | h
        · have := (h3 k (by omega)).1 (hahead (by omega) k h); omega
        · exact h.symm
      exact goTail k h1 hik h3 h4
theorem wp_region_tail {P : Program} {id : Nat} {l : List Oper} {Q : Exit → Act → World → Prop} {a0 : Act} {w : World} (n : Nat) (dst : List Nat) (B : World → Prop) (V : Nat → Value → World → Prop)
    (hm : P.follows .mixedOrders = true) (hb : back l = true) (hf : full l n = true) (hn : n ≤ l.length) (hlen : dst.length = n) (hnd : dst.Nodup) (hsz : ∀ d ∈ dst, d < a0.tmps.size)
    (hmono : ∀ i v w w', V i v w → Below w.heap.size w w' → V i v w') (hB : B w.drew)
    (hE : Each P l.toArray Q a0 dst B V 0 (l.take n))
    (tail : ∀ ys w, B w → (∀ i, i < n → V i (ys (dst.getD i 0)) w) → wpList P l.toArray Q (l.drop n) (fill a0 dst ys) w) : (Code.region id l.toArray true).wp P Q a0 w := by
  refine wp_region_any hm ?_
  refine wpAny_tail hn hb hf hlen hnd hsz hmono hE tail _ _ _ _ (by simp) ?_ ⟨.inl ⟨fun i hi => ?_, hB, ⟨rfl, rfl, fun _ _ => rfl⟩, fun i hi hl => ?_⟩, fun j i hw hl => ?_⟩
  · simp
  · rw [Array.getD_eq_getD_getElem?, Array.getElem?_replicate]; split <;> rfl
  · exfalso
    rw [Array.getD_eq_getD_getElem?, Array.getElem?_replicate] at hl
    split at hl <;> simp at hl
  · exfalso
    rw [Array.getD_eq_getD_getElem?, Array.getElem?_replicate] at hl
    split at hl <;> simp at hl
/-- .. where each of the first leaves a value that hangs on no order -/
theorem wp_region_is_tail {P : Program} {id : Nat} {l : List Oper} {Q : Exit → Act → World → Prop} {a0 : Act} {w : World} (n : Nat) (dst : List Nat) (B : World → Prop) (tab : List Value)
    (hm : P.follows .mixedOrders = true) (hb : back l = true) (hf : full l n = true) (hn : n ≤ l.length) (hlen : dst.length = n) (hnd : dst.Nodup) (hsz : ∀ d ∈ dst, d < a0.tmps.size) (hB : B w.drew)
    (hE : Each P l.toArray Q a0 dst B (fun i v _ => v = tab.getD i undef) 0 (l.take n))
    (tail : ∀ ys w, B w → (∀ i, i < n → ys (dst.getD i 0) = tab.getD i undef) → wpList P l.toArray Q (l.drop n) (fill a0 dst ys) w) : (Code.region id l.toArray true).wp P Q a0 w :=
  wp_region_tail n dst B _ hm hb hf hn hlen hnd hsz (fun _ _ _ _ h _ => h) hB hE tail
end Go.Proofs.YtcmjambbdfangaaGreat.Region
/-
  A region that draws its order, whose operations leave each a value that hangs on no order, while memory may grow: each operation is walked once.
-/
set_option linter.unusedVariables false
set_option linter.unusedSimpArgs false
namespace Go.Proofs.YtcmjambbdfangaaGreat.Region
open Go.RowKit
theorem wp_region_is {P : Program} {id : Nat} {l : List Oper} {Q : Exit → Act → World → Prop} {a0 : Act} {w : World} (dst : List Nat) (B : World → Prop) (tab : List Value)
    (hm : P.follows .mixedOrders = true) (hb : back l = true) (hlen : dst.length = l.length) (hnd : dst.Nodup) (hsz : ∀ d ∈ dst, d < a0.tmps.size) (hB : B w.drew)
    (hE : Each P l.toArray Q a0 dst B (fun i v _ => v = tab.getD i undef) 0 l)
    (done : ∀ ys w, B w → (∀ i, i < l.length → ys (dst.getD i 0) = tab.getD i undef) → Q .normal (fill a0 dst ys) w) : (Code.region id l.toArray true).wp P Q a0 w :=
  wp_region_each dst B _ hm hb hlen hnd hsz (fun _ _ _ _ h _ => h) hB hE done
end Go.Proofs.YtcmjambbdfangaaGreat.Region
/-
  A region that draws its order, from the frame as it stands.
-/
set_option linter.unusedVariables false
set_option linter.unusedSimpArgs false
namespace Go.Proofs.YtcmjambbdfangaaGreat.Region
open Go.RowKit
theorem wp_region_each3 {P : Program} {id : Nat} {l : List Oper} {Q : Exit → Act → World → Prop} {a0 : Act} {w : World} (dst : List (Option Nat)) (J : (Nat → Bool) → (Nat → Value) → World → Prop)
    (hm : P.follows .mixedOrders = true) (hb : back l = true) (hsz : ∀ d ∈ slots dst, d < a0.tmps.size)
    (hJ : J (fun _ => false) (fun t => a0.tmps.getD t undef) w.drew) (hE : Each2 P l.toArray Q a0 dst J l 0 l)
    (done : ∀ d ys w, J d ys w → (∀ i, i < l.length → d i = true) → Q .normal (fill a0 (slots dst) ys) w) : (Code.region id l.toArray true).wp P Q a0 w := by
  refine wp_region_any hm ?_
  refine wpAny_inv2 hsz hb (by simpa using hE) done _ _ _ _ (by simp) ?_ ⟨?_, ⟨rfl, rfl, fun _ _ => rfl⟩, fun j i hw hl => ?_⟩
  · simp
  · have : (fun i => (Array.replicate l.toArray.size false).getD i false) = fun _ => false := by
      funext i
      rw [Array.getD_eq_getD_getElem?, Array.getElem?_replicate]
      split <;> rfl
    rw [this]; exact hJ
  · exfalso
    rw [Array.getD_eq_getD_getElem?, Array.getElem?_replicate] at hl
    split at hl <;> simp at hl
end Go.Proofs.YtcmjambbdfangaaGreat.Region
/-
  A region that draws its order, whose first operations all stand ahead of each of the others: the first ones are walked once each, then the rest stands as a drawn row of its own.
-/
set_option linter.unusedVariables false
set_option linter.unusedSimpArgs false
namespace Go.Proofs.YtcmjambbdfangaaGreat.Region
open Go.RowKit

/-- each operation from n on waits for all of the first n -/
def fronted (l : List Oper) (n : Nat) : Bool := let M := masks l []; (List.range l.length).all fun i => decide (i < n) || (M.getD i 0 &&& (2 ^ n - 1)) == 2 ^ n - 1
theorem fronted_anc {l : List Oper} {n : Nat} (h : fronted l n = true) {i : Nat} (hi : i < l.length) (hn : n ≤ i) {j : Nat} (hj : j < n) : Anc l i j := by
  have := List.all_eq_true.1 h i (by simpa using hi)
  simp only [Bool.or_eq_true, decide_eq_true_eq, beq_iff_eq] at this
  rcases this with h | h
  · omega
  · refine masks_sound l l [] rfl (fun i j h => by simp at h) i j ?_
    have h2 := congrArg (fun x => x.testBit j) h
    simp only [Nat.testBit_and, Nat.testBit_two_pow_sub_one, decide_eq_true hj, Bool.and_true] at h2
    exact h2
structure InvC (a0 : Act) (dst : List Nat) (B : World → Prop) (V : Nat → Value → World → Prop) (l : List Oper) (n : Nat) (listed : Array Bool) (a : Act) (w : World) : Prop where
  rest : ∀ i, n ≤ i → listed.getD i false = false
  base : B w
  like : Like a0 dst a
  vals : ∀ i, i < n → listed.getD i false = true → V i (a.tmps.getD (dst.getD i 0) undef) w
  down : ∀ j i, waits l j i = true → listed.getD j false = true → listed.getD i false = true
theorem listed_is {listed m : Array Bool} {n : Nat} (hs : listed.size = m.size) (h1 : ∀ i, n ≤ i → listed.getD i false = false) (h2 : ∀ i, i < n → listed.getD i false = true) (h3 : ∀ i, n ≤ i → m.getD i false = false) (h4 : ∀ i, i < n → m.getD i false = true) : listed = m := by
  apply Array.ext hs
  intro i hi hj
  have e1 : listed[i] = listed.getD i false := by rw [Array.getD, dif_pos hi]; rfl
  have e2 : m[i] = m.getD i false := by rw [Array.getD, dif_pos hj]; rfl
  rw [e1, e2]
  rcases Nat.lt_or_ge i n with h | h
  · rw [h2 i h, h4 i h]
  · rw [h1 i h, h3 i h]
theorem wpAny_cut {P : Program} {l : List Oper} {Q : Exit → Act → World → Prop} {a0 : Act} {dst : List Nat} {B : World → Prop} {V : Nat → Value → World → Prop} {n k : Nat} {m : Array Bool}
    (hn : n ≤ l.length) (hb : back l = true) (hf : fronted l n = true) (hlen : dst.length = n) (hnd : dst.Nodup) (hsz : ∀ d ∈ dst, d < a0.tmps.size)
    (hmono : ∀ i v w w', V i v w → Below w.heap.size w w' → V i v w')
    (hE : Each P l.toArray Q a0 dst B V 0 (l.take n))
    (hms : m.size = l.length) (h3 : ∀ i, n ≤ i → m.getD i false = false) (h4 : ∀ i, i < n → m.getD i false = true) (hk : m.toList.count false = k)
    (tail : ∀ ys w, B w → (∀ i, i < n → V i (ys (dst.getD i 0)) w) → wpAny P .any l.toArray Q k m (fill a0 dst ys) w) :
    ∀ (fuel : Nat) (listed : Array Bool) (a : Act) (w : World), listed.size = l.toArray.size → listed.toList.count false = fuel → InvC a0 dst B V l n listed a w → wpAny P .any l.toArray Q fuel listed a w := by
  have turn : ∀ (fuel : Nat) (listed : Array Bool) (a : Act) (w : World), listed.size = l.toArray.size → listed.toList.count false = fuel → InvC a0 dst B V l n listed a w → (∀ i, i < n → listed.getD i false = true) → wpAny P .any l.toArray Q fuel listed a w := by
    intro fuel listed a w hs hc hI hall
    have hl : listed = m := listed_is (by rw [hs, hms]; simp) hI.rest hall h3 h4
    subst hl
    have := tail (fun d => a.tmps.getD d undef) w hI.base (fun i hi => hI.vals i hi (hall i hi))
    rw [← hI.like.fill] at this
    rw [← hc, hk]; exact this
  intro fuel
  induction fuel with
  | zero =>
    intro listed a w hs hc hI
    refine turn 0 listed a w hs hc hI fun i hi => ?_
    have h0 : false ∉ listed.toList := fun h => by have := List.count_pos_iff.2 h; omega
    have hi' : i < listed.size := by rw [hs]; simp; omega
    cases hv : listed[i] with
    | true => rw [Array.getD, dif_pos hi']; exact hv
    | false => exact absurd (by rw [← hv]; simp) h0
  | succ fuel ih =>
    intro listed a w hs hc hI
    by_cases hall : ∀ i, i < n → listed.getD i false = true
    · exact turn (fuel + 1) listed a w hs hc hI hall
    refine ⟨fun hr => ?_, fun i hi => ?_⟩
    · exact absurd (fun i hi => all_listed hb listed hs hr i i (Nat.le_refl _) (by simp; omega)) hall
    obtain ⟨o, ho, hin, hl, hdep⟩ := ready_dep hi
    have hi' : i < listed.size := by omega
    have hil : i < l.length := by simpa using hin
    have hol : l[i]? = some o := by simpa using ho
    have hlf : listed.getD i false = false := by rw [Array.getD, dif_pos hi'] at hl ⊢; exact hl
    have hcount : (listed.setIfInBounds i true).toList.count false = fuel := by
      have hf : listed[i] = false := by rw [Array.getD, dif_pos hi'] at hl; exact hl
      have : (listed.setIfInBounds i true).toList = listed.toList.set i true := by simp
      have hcp : 0 < List.count false listed.toList := List.count_pos_iff.2 (by rw [← hf]; simp)
      have hg : listed.toList[i]'(by simpa using hi') = false := by simpa using hf
      rw [this, List.count_set (by simpa using hi'), hg]
      simp only [BEq.rfl, if_true]
      have : ((true == false) = true) = False := by decide
      simp only [this, if_false]
      omega
    have hdown : ∀ j k, waits l j k = true → (listed.setIfInBounds i true).getD j false = true → (listed.setIfInBounds i true).getD k false = true := by
      intro j k hw hjl
      by_cases e : i = k
      · subst e; exact getD_set_self hi'
      · rw [getD_set_ne _ e]
        by_cases e2 : i = j
        · subst e2
          obtain ⟨o', ho', e', he', hx, hon⟩ := waits_edge hw
          rw [hol] at ho'; cases ho'
          rw [← hon]; exact hdep e' he' hx
        · rw [getD_set_ne _ e2] at hjl
          exact hI.down j k hw hjl
    have hni : i < n := by
      rcases Nat.lt_or_ge i n with h | h
      · exact h
      · refine absurd (fun j hj => ?_) hall
        have ha := fronted_anc hf hil h hj
        have : (listed.setIfInBounds i true).getD j false = true := ha.listed (d := fun t => (listed.setIfInBounds i true).getD t false) hdown (getD_set_self hi')
        rwa [getD_set_ne _ (by omega)] at this
    have hot : (l.take n)[i]? = some o := by rw [List.getElem?_take_of_lt hni]; exact hol
    have key := hE.at i o hot (fun d => a.tmps.getD d undef) w hI.base (Deps.of fun e he hx => hI.vals e.on (by have := back_at hb ho e he hx; omega) (hdep e he hx))
    rw [← hI.like.fill, Nat.zero_add] at key
    refine wpOp_mono ?_ (wpOp_of_list ho key)
    rintro a' w' ⟨v, rfl, hv, hB', hbel⟩
    have hdi : i < dst.length := by omega
    have hd : dst.getD i 0 = dst[i] := by simp [List.getD, hdi]
    have hmem : dst.getD i 0 ∈ dst := by rw [hd]; exact List.getElem_mem hdi
    refine ih _ _ _ (by simpa using hs) hcount ⟨fun t ht => by rw [getD_set_ne _ (by omega)]; exact hI.rest t ht, hB', hI.like.put hmem v, fun j hj hlj => ?_, hdown⟩
    have hdj : j < dst.length := by omega
    have hdj' : dst.getD j 0 = dst[j] := by simp [List.getD, hdj]
    have hsj : dst.getD i 0 < a.tmps.size := by have := hsz _ hmem; have := hI.like.2.1; omega
    by_cases e : i = j
    · subst e
      have : (a.put (some (dst.getD i 0)) v).tmps.getD (dst.getD i 0) undef = v := by
        simp only [Act.put, Array.getD_eq_getD_getElem?]
        rw [Array.getElem?_setIfInBounds_self_of_lt hsj]; rfl
      rw [this]; exact hv
    · have hne : dst.getD i 0 ≠ dst.getD j 0 := by
        rw [hd, hdj']
        intro h
        exact e ((List.getElem_inj hnd).1 h)
      have : (a.put (some (dst.getD i 0)) v).tmps.getD (dst.getD j 0) undef = a.tmps.getD (dst.getD j 0) undef := by
        simp only [Act.put, Array.getD_eq_getD_getElem?]
        rw [Array.getElem?_setIfInBounds_ne hne]
      rw [this]
      rw [getD_set_ne _ e] at hlj
      exact hmono _ _ _ _ (hI.vals j hj hlj) hbel
/-- the mask with the first n set -/
def cutMask (l : List Oper) (n : Nat) : Array Bool := ((List.replicate n true) ++ (List.replicate (l.length - n) false)).toArray
theorem wp_region_cut {P : Program} {id : Nat} {l : List Oper} {Q : Exit → Act → World → Prop} {a0 : Act} {w : World} (n k : Nat) (m : Array Bool) (dst : List Nat) (B : World → Prop) (V : Nat → Value → World → Prop)
    (hm : P.follows .mixedOrders = true) (hb : back l = true) (hf : fronted l n = true) (hk : l.length = n + k) (hmm : m = ((List.replicate n true) ++ (List.replicate k false)).toArray) (hlen : dst.length = n) (hnd : dst.Nodup) (hsz : ∀ d ∈ dst, d < a0.tmps.size)
    (hmono : ∀ i v w w', V i v w → Below w.heap.size w w' → V i v w') (hB : B w.drew)
    (hE : Each P l.toArray Q a0 dst B V 0 (l.take n))
    (tail : ∀ ys w, B w → (∀ i, i < n → V i (ys (dst.getD i 0)) w) → wpAny P .any l.toArray Q k m (fill a0 dst ys) w) : (Code.region id l.toArray true).wp P Q a0 w := by
  subst hmm
  refine wp_region_any hm ?_
  refine wpAny_cut (by omega) hb hf hlen hnd hsz hmono hE (by simp [hk]) ?_ ?_ (by simp [List.count_replicate]) tail _ _ _ _ (by simp) (by simp) ⟨fun i hi => ?_, hB, ⟨rfl, rfl, fun _ _ => rfl⟩, fun i hi hl => ?_, fun j i hw hl => ?_⟩
  · intro i hi
    rw [Array.getD_eq_getD_getElem?]
    simp only [List.getElem?_toArray]
    rw [List.getElem?_append_right (by simpa using hi), List.getElem?_replicate]
    split <;> rfl
  · intro i hi
    rw [Array.getD_eq_getD_getElem?]
    simp only [List.getElem?_toArray]
    rw [List.getElem?_append_left (by simpa using hi), List.getElem?_replicate, if_pos hi]; rfl
  · rw [Array.getD_eq_getD_getElem?, Array.getElem?_replicate]; split <;> rfl
  · exfalso
    rw [Array.getD_eq_getD_getElem?, Array.getElem?_replicate] at hl
    split at hl <;> simp at hl
  · exfalso
    rw [Array.getD_eq_getD_getElem?, Array.getElem?_replicate] at hl
    split at hl <;> simp at hl
theorem wp_region_is_cut {P : Program} {id : Nat} {l : List Oper} {Q : Exit → Act → World → Prop} {a0 : Act} {w : World} (n k : Nat) (m : Array Bool) (dst : List Nat) (B : World → Prop) (tab : List Value)
    (hm : P.follows .mixedOrders = true) (hb : back l = true) (hf : fronted l n = true) (hk : l.length = n + k) (hmm : m = ((List.replicate n true) ++ (List.replicate k false)).toArray) (hlen : dst.length = n) (hnd : dst.Nodup) (hsz : ∀ d ∈ dst, d < a0.tmps.size) (hB : B w.drew)
    (hE : Each P l.toArray Q a0 dst B (fun i v _ => v = tab.getD i undef) 0 (l.take n))
    (tail : ∀ ys w, B w → (∀ i, i < n → ys (dst.getD i 0) = tab.getD i undef) → wpAny P .any l.toArray Q k m (fill a0 dst ys) w) : (Code.region id l.toArray true).wp P Q a0 w :=
  wp_region_cut n k m dst B _ hm hb hf hk hmm hlen hnd hsz (fun _ _ _ _ h _ => h) hB hE tail
end Go.Proofs.YtcmjambbdfangaaGreat.Region
