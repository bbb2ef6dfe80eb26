/-
  A region that draws its order, walked operation by operation, each once: what each operation leaves in its slot is a property that lasts while memory only grows. For regions whose operations read, make memory or call, and write nothing that was there.
-/
import Derived.WalkKit
import Derived.Handy
import Derived.Orders
set_option linter.unusedVariables false
set_option linter.unusedSimpArgs false
namespace Go.Proofs.Ytmkdhehdfdkbjaa.Region
open Go.RowKit

/-- the frame with other values in some slots -/
def fill (a : Act) (ds : List Nat) (ys : Nat → Value) : Act := ds.foldl (fun a d => a.put (some d) (ys d)) a
/-- a post that is K where the code goes on -/
def Then (Q : Exit → Act → World → Prop) (K : Act → World → Prop) : Exit → Act → World → Prop
  | .normal, a, w => K a w
  | e, a, w => Q e a w
/-- what the operations ahead have left -/
def Deps (V : Nat → Value → World → Prop) (dst : List Nat) (ys : Nat → Value) (w : World) : List Edge → Prop
  | [] => True
  | e :: r => (Region.binds .any e = true → V e.on (ys (dst.getD e.on 0)) w) ∧ Deps V dst ys w r
/-- each operation, from whatever the ones ahead of it have left -/
def Each (P : Program) (ops : Array Oper) (Q : Exit → Act → World → Prop) (a0 : Act) (dst : List Nat) (B : World → Prop) (V : Nat → Value → World → Prop) : Nat → List Oper → Prop
  | _, [] => True
  | i, o :: r => (∀ ys w, B w → Deps V dst ys w o.after.toList →
      wpList P ops (Then Q fun a' w' => ∃ v, a' = (fill a0 dst ys).put (some (dst.getD i 0)) v ∧ V i v w' ∧ B w' ∧ Below w.heap.size w w') [o] (fill a0 dst ys) w) ∧ Each P ops Q a0 dst B V (i + 1) r

theorem Each.at {P : Program} {ops : Array Oper} {Q : Exit → Act → World → Prop} {a0 : Act} {dst : List Nat} {B : World → Prop} {V : Nat → Value → World → Prop} :
    ∀ {l : List Oper} {k : Nat}, Each P ops Q a0 dst B V k l → ∀ j o, l[j]? = some o → ∀ ys w, B w → Deps V dst ys w o.after.toList →
      wpList P ops (Then Q fun a' w' => ∃ v, a' = (fill a0 dst ys).put (some (dst.getD (k + j) 0)) v ∧ V (k + j) v w' ∧ B w' ∧ Below w.heap.size w w') [o] (fill a0 dst ys) w
  | [], _, _, j, o, h => by simp at h
  | x :: r, k, hE, 0, o, h => by
    simp only [List.getElem?_cons_zero, Option.some.injEq] at h
    subst h; exact hE.1
  | x :: r, k, hE, j + 1, o, h => by
    simp only [List.getElem?_cons_succ] at h
    have := Each.at (l := r) (k := k + 1) hE.2 j o h
    rw [show k + 1 + j = k + (j + 1) by omega] at this; exact this

theorem Deps.of {V : Nat → Value → World → Prop} {dst : List Nat} {ys : Nat → Value} {w : World} : ∀ {es : List Edge}, (∀ e ∈ es, Region.binds .any e = true → V e.on (ys (dst.getD e.on 0)) w) → Deps V dst ys w es
  | [], _ => trivial
  | e :: r, h => ⟨h e (by simp), Deps.of fun x hx => h x (by simp [hx])⟩

/-- the frame is the first one but for the listed slots -/
def Like (a0 : Act) (dst : List Nat) (a : Act) : Prop := a.defers = a0.defers ∧ a.tmps.size = a0.tmps.size ∧ ∀ s, s ∉ dst → a.tmps[s]? = a0.tmps[s]?

theorem fill_defers (a : Act) (ys : Nat → Value) : ∀ ds, (fill a ds ys).defers = a.defers := by
  intro ds
  induction ds generalizing a with
  | nil => rfl
  | cons d r ih => show (fill (a.put (some d) (ys d)) r ys).defers = _; rw [ih]; rfl
theorem fill_size (a : Act) (ys : Nat → Value) : ∀ ds, (fill a ds ys).tmps.size = a.tmps.size := by
  intro ds
  induction ds generalizing a with
  | nil => rfl
  | cons d r ih => show (fill (a.put (some d) (ys d)) r ys).tmps.size = _; rw [ih]; simp [Act.put]
theorem fill_get (a : Act) (ys : Nat → Value) (s : Nat) : ∀ ds, (fill a ds ys).tmps[s]? = if s ∈ ds ∧ s < a.tmps.size then some (ys s) else a.tmps[s]? := by
  intro ds
  induction ds generalizing a with
  | nil => simp [fill]
  | cons d r ih =>
    show (fill (a.put (some d) (ys d)) r ys).tmps[s]? = _
    rw [ih]
    simp only [Act.put, Array.size_setIfInBounds, List.mem_cons]
    by_cases h1 : s ∈ r ∧ s < a.tmps.size
    · rw [if_pos h1, if_pos ⟨.inr h1.1, h1.2⟩]
    · rw [if_neg h1]
      by_cases h2 : s = d
      · subst h2
        by_cases h3 : s < a.tmps.size
        · rw [if_pos ⟨.inl rfl, h3⟩]; simp [h3]
        · rw [if_neg (by simp [h3])]; simp [h3]
      · rw [if_neg (by rintro ⟨h | h, h'⟩; exact h2 h; exact h1 ⟨h, h'⟩)]
        simp [Ne.symm h2]
theorem Like.fill {a0 a : Act} {dst : List Nat} (h : Like a0 dst a) : a = fill a0 dst (fun d => a.tmps.getD d undef) := by
  obtain ⟨h1, h2, h3⟩ := h
  have e : a.tmps = (Region.fill a0 dst (fun d => a.tmps.getD d undef)).tmps := by
    apply Array.ext_getElem?
    intro s
    rw [fill_get]
    by_cases hs : s ∈ dst ∧ s < a0.tmps.size
    · rw [if_pos hs]
      have : s < a.tmps.size := by omega
      simp [this]
    · rw [if_neg hs]
      by_cases hd : s ∈ dst
      · have : ¬ s < a0.tmps.size := fun x => hs ⟨hd, x⟩
        rw [Array.getElem?_eq_none (by omega), Array.getElem?_eq_none (by omega)]
      · exact h3 s hd
  have e2 : a.defers = (Region.fill a0 dst (fun d => a.tmps.getD d undef)).defers := by rw [fill_defers]; exact h1
  cases a; cases hb : Region.fill a0 dst _
  simp only [hb] at e e2
  subst e e2; rfl
theorem Like.put {a0 a : Act} {dst : List Nat} (h : Like a0 dst a) {d : Nat} (hd : d ∈ dst) (v : Value) : Like a0 dst (a.put (some d) v) := by
  obtain ⟨h1, h2, h3⟩ := h
  refine ⟨h1, by simp [Act.put, h2], fun s hs => ?_⟩
  have : d ≠ s := fun e => hs (e ▸ hd)
  simp only [Act.put]
  rw [Array.getElem?_setIfInBounds_ne this]; exact h3 s hs

theorem wpOp_of_list {P : Program} {ops : Array Oper} {Q : Exit → Act → World → Prop} {i : Nat} {o : Oper} {K : Act → World → Prop} {a : Act} {w : World} (hi : ops[i]? = some o) (h : wpList P ops (Then Q K) [o] a w) : wpOp P ops Q i K a w := by
  unfold wpOp
  simp only [hi]
  unfold wpList at h
  have hl : LetsOut (Then Q K) → LetsOut Q := fun ⟨a, w, h⟩ => ⟨a, w, h⟩
  split
  · rename_i hw
    rw [if_pos hw] at h
    rcases h with h | ⟨h1, h2⟩
    · left
      unfold Oper.wp at h ⊢
      generalize (execOp a.eval o).run P w = r at h ⊢
      cases r with
      | ok n w' =>
        cases n <;> simp only [Oper.upon] at h ⊢ <;>
          first
            | exact h
            | exact Calls.mono h (fun e w'' he => by cases e <;> first | exact he | exact hl he)
            | exact Rows.mono h (fun _ _ he => he)
      | halt x w' => cases x <;> simp only [Oper.upon] at h ⊢ <;> exact h
    · exact .inr ⟨h1, hl h2⟩
  · rename_i hw
    rw [if_neg hw] at h
    exact h

/-- what is known behind some of the operations -/
def Inv (a0 : Act) (dst : List Nat) (B : World → Prop) (V : Nat → Value → World → Prop) (n : Nat) (listed : Array Bool) (a : Act) (w : World) : Prop :=
  B w ∧ Like a0 dst a ∧ ∀ i, i < n → listed.getD i false = true → V i (a.tmps.getD (dst.getD i 0) undef) w

theorem ready_dep {ops : Array Oper} {listed : Array Bool} {i : Nat} (h : i ∈ Region.ready .any ops listed) : ∃ o, ops[i]? = some o ∧ i < ops.size ∧ listed.getD i true = false ∧ ∀ e ∈ o.after.toList, Region.binds .any e = true → listed.getD e.on false = true := by
  unfold Region.ready at h
  rw [List.mem_filter] at h
  obtain ⟨h1, h2⟩ := h
  have hi : i < ops.size := by simpa using h1
  simp only [Array.getElem?_eq_getElem hi, Option.map_some, Option.getD_some, Bool.and_eq_true, Bool.not_eq_true'] at h2
  refine ⟨ops[i], Array.getElem?_eq_getElem hi, hi, h2.1, fun e he hb => ?_⟩
  have := h2.2
  rw [Array.all_eq_true'] at this
  have := this e (by simpa using he)
  simpa [hb] using this

theorem wpAny_inv {P : Program} {ops : Array Oper} {Q : Exit → Act → World → Prop} {a0 : Act} {dst : List Nat} {B : World → Prop} {V : Nat → Value → World → Prop}
    (hlen : dst.length = ops.size) (hnd : dst.Nodup) (hsz : ∀ d ∈ dst, d < a0.tmps.size)
    (hon : ∀ (i : Nat) (o : Oper), ops[i]? = some o → ∀ e ∈ o.after.toList, Region.binds .any e = true → e.on < ops.size)
    (hmono : ∀ i v w w', V i v w → Below w.heap.size w w' → V i v w')
    (hE : Each P ops Q a0 dst B V 0 ops.toList)
    (done : ∀ ys w, B w → (∀ i, i < ops.size → V i (ys (dst.getD i 0)) w) → Q .normal (fill a0 dst ys) w)
    (hend : ∀ listed : Array Bool, listed.size = ops.size → Region.ready .any ops listed = [] → ∀ i, i < ops.size → listed.getD i false = true) :
    ∀ (fuel : Nat) (listed : Array Bool) (a : Act) (w : World), listed.size = ops.size → listed.toList.count false ≤ fuel → Inv a0 dst B V ops.size listed a w → wpAny P .any ops Q fuel listed a w := by
  have fin : ∀ (listed : Array Bool) (a : Act) (w : World), listed.size = ops.size → Inv a0 dst B V ops.size listed a w → Region.ready .any ops listed = [] → Q .normal a w := by
    intro listed a w hs hI hr
    obtain ⟨hB, hL, hV⟩ := hI
    have := done (fun d => a.tmps.getD d undef) w hB (fun i hi => hV i hi (hend listed hs hr i hi))
    rw [← hL.fill] at this; exact this
  intro fuel
  induction fuel with
  | zero =>
    intro listed a w hs hc hI
    have hr : Region.ready .any ops listed = [] := by
      cases hr : Region.ready .any ops listed with
      | nil => rfl
      | cons i r =>
        obtain ⟨o, ho, hi, hl, _⟩ := ready_dep (ops := ops) (listed := listed) (i := i) (by rw [hr]; simp)
        have : false ∈ listed.toList := by
          have hi' : i < listed.size := by omega
          rw [Array.getD, dif_pos hi'] at hl
          have : listed[i] = false := hl
          rw [← this]; simp
        have := List.count_pos_iff.2 this
        omega
    exact ⟨hr, fin listed a w hs hI hr⟩
  | succ fuel ih =>
    intro listed a w hs hc hI
    refine ⟨fin listed a w hs hI, fun i hi => ?_⟩
    obtain ⟨o, ho, hin, hl, hdep⟩ := ready_dep hi
    obtain ⟨hB, hL, hV⟩ := hI
    have hi' : i < listed.size := by omega
    have key := hE.at i o (by simpa using ho) (fun d => a.tmps.getD d undef) w hB (Deps.of fun e he hb => hV e.on (hon i o ho e he hb) (hdep e he hb))
    rw [← hL.fill, Nat.zero_add] at key
    refine wpOp_mono ?_ (wpOp_of_list ho key)
    rintro a' w' ⟨v, rfl, hv, hB', hbel⟩
    have hdi : i < dst.length := by omega
    have hd : dst.getD i 0 = dst[i] := by simp [List.getD, hdi]
    have hmem : dst.getD i 0 ∈ dst := by rw [hd]; exact List.getElem_mem hdi
    refine ih _ _ _ (by simpa using hs) ?_ ⟨hB', hL.put hmem v, fun j hj hlj => ?_⟩
    · have hf : listed[i] = false := by rw [Array.getD, dif_pos hi'] at hl; exact hl
      have : (listed.setIfInBounds i true).toList = listed.toList.set i true := by simp
      have hcp : 0 < List.count false listed.toList := List.count_pos_iff.2 (by rw [← hf]; simp)
      have hg : listed.toList[i]'(by simpa using hi') = false := by simpa using hf
      rw [this, List.count_set (by simpa using hi'), hg]
      simp only [BEq.rfl, if_true]
      have : ((true == false) = true) = False := by decide
      simp only [this, if_false]
      omega
    · have hdj : j < dst.length := by omega
      have hdj' : dst.getD j 0 = dst[j] := by simp [List.getD, hdj]
      have hsj : dst.getD i 0 < a.tmps.size := by have := hsz _ hmem; have := hL.2.1; omega
      by_cases e : i = j
      · subst e
        have : (a.put (some (dst.getD i 0)) v).tmps.getD (dst.getD i 0) undef = v := by
          simp only [Act.put, Array.getD_eq_getD_getElem?]
          rw [Array.getElem?_setIfInBounds_self_of_lt hsj]; rfl
        rw [this]; exact hv
      · have hne : dst.getD i 0 ≠ dst.getD j 0 := by
          rw [hd, hdj']
          intro h
          exact e ((List.getElem_inj hnd).1 h)
        have : (a.put (some (dst.getD i 0)) v).tmps.getD (dst.getD j 0) undef = a.tmps.getD (dst.getD j 0) undef := by
          simp only [Act.put, Array.getD_eq_getD_getElem?]
          rw [Array.getElem?_setIfInBounds_ne hne]
        rw [this]
        have hlj' : listed.getD j false = true := by rw [getD_set_ne _ e] at hlj; exact hlj
        exact hmono _ _ _ _ (hV j hj hlj') hbel

/-- every edge that binds leads back -/
def back (l : List Oper) : Bool := (List.range l.length).all fun i => match l[i]? with | some o => o.after.all (fun e => !Region.binds .any e || decide (e.on < i)) | none => true
theorem back_at {l : List Oper} (h : back l = true) {i : Nat} {o : Oper} (hi : l.toArray[i]? = some o) : ∀ e ∈ o.after.toList, Region.binds .any e = true → e.on < i := by
  intro e he hb
  have hi2 : l[i]? = some o := by simpa using hi
  have hlt : i < l.length := (List.getElem?_eq_some_iff.1 hi2).1
  have := List.all_eq_true.1 h i (by simpa using hlt)
  rw [hi2] at this
  simp only [Array.all_eq_true'] at this
  have := this e (by simpa using he)
  simpa [hb] using this
theorem all_listed {l : List Oper} (h : back l = true) (listed : Array Bool) (hs : listed.size = l.toArray.size) (hr : Region.ready .any l.toArray listed = []) : ∀ n i, i ≤ n → i < l.toArray.size → listed.getD i false = true := by
  intro n
  induction n using Nat.strongRecOn with
  | _ n ih =>
    intro i hin hi
    cases hl : listed.getD i false with
    | true => rfl
    | false =>
      exfalso
      have hi' : i < listed.size := by omega
      have hl' : listed.getD i true = false := by rw [Array.getD, dif_pos hi'] at hl ⊢; exact hl
      have : i ∈ Region.ready .any l.toArray listed := by
        unfold Region.ready
        rw [List.mem_filter]
        refine ⟨by simpa using hi, ?_⟩
        simp only [hl', Array.getElem?_eq_getElem hi, Option.map_some, Option.getD_some, Bool.not_false, Bool.true_and]
        rw [Array.all_eq_true']
        intro e he
        cases hb : Region.binds .any e with
        | false => rfl
        | true =>
          have hlt := back_at h (Array.getElem?_eq_getElem hi) e (by simpa using he) hb
          simp [ih e.on (by omega) e.on (Nat.le_refl _) (by omega)]
      rw [hr] at this
      simp at this

theorem wp_region_each {P : Program} {id : Nat} {l : List Oper} {Q : Exit → Act → World → Prop} {a0 : Act} {w : World} (dst : List Nat) (B : World → Prop) (V : Nat → Value → World → Prop)
    (hm : P.follows .mixedOrders = true) (hb : back l = true) (hlen : dst.length = l.length) (hnd : dst.Nodup) (hsz : ∀ d ∈ dst, d < a0.tmps.size)
    (hmono : ∀ i v w w', V i v w → Below w.heap.size w w' → V i v w') (hB : B w.drew)
    (hE : Each P l.toArray Q a0 dst B V 0 l)
    (done : ∀ ys w, B w → (∀ i, i < l.length → V i (ys (dst.getD i 0)) w) → Q .normal (fill a0 dst ys) w) : (Code.region id l.toArray true).wp P Q a0 w := by
  refine wp_region_any hm ?_
  refine wpAny_inv (by simpa using hlen) hnd hsz (fun i o ho e he hx => ?_) hmono (by simpa using hE) (fun ys w hB hV => done ys w hB (by simpa using hV)) (fun listed hs hr i hi => all_listed hb listed hs hr i i (Nat.le_refl _) hi) _ _ _ _ (by simp) ?_ ⟨hB, ⟨rfl, rfl, fun _ _ => rfl⟩, fun i hi hl => ?_⟩
  · have := back_at hb ho e he hx
    have hlt : i < l.toArray.size := (Array.getElem?_eq_some_iff.1 ho).1
    omega
  · simp
  · exfalso
    simp at hi
    simp [hi] at hl
end Go.Proofs.Ytmkdhehdfdkbjaa.Region
