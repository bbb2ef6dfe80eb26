/-
  Rows of cells that may be written; the landed account and the document's own one in memory.
-/
import Derived.Test.YtmkdhehdfdkbjaaChartM
import Derived.Test.YtmkdhehdfdkbjaaFoot
import Derived.Test.YtmkdhehdfdkbjaaGeomX
import Derived.Test.YtmkdhehdfdkbjaaRegionTail
import Derived.Test.YtmkdhehdfdkbjaaRegionIs
import Derived.Deep.QuietTactic
import Derived.BigQuiet
set_option linter.unusedVariables false
set_option linter.unusedSimpArgs false
namespace Go.Proofs.Ytmkdhehdfdkbjaa.Chart
open Go.RowKit
open Go.Proofs.Ytmkdhehdfdkbjaa.Own
open Tup Foot

/-- a row of cells that may be written -/
def Ro (w : World) (b : Nat) (cs : List Value) : Prop := ∀ j c, cs[j]? = some c → w.cell? ⟨b, j, none⟩ = some c ∧ w.frozen? ⟨b, j, none⟩ = false
theorem Ro.grows {S : Nat → Prop} {w w' : World} {b : Nat} {cs : List Value} (h : Ro w b cs) (g : Grows S w w') (hn : ¬ S b) : Ro w' b cs := fun j c hj => by
  obtain ⟨h1, h2⟩ := h j c hj
  have hB : b < w.heap.size := block_lt_of_cell h1
  have e := g.block b hB hn
  simp only [World.cell?, World.frozen?] at h1 h2 ⊢
  rw [e]; exact ⟨h1, h2⟩
theorem Ro.below {w w' : World} {b : Nat} {cs : List Value} (h : Ro w b cs) (g : Below w.heap.size w w') : Ro w' b cs := h.grows (Grows.of_below (S := fun _ => False) g) (fun x => x)
theorem Ro.set {w : World} {b : Nat} {cs : List Value} (h : Ro w b cs) (i : Nat) (v : Value) : Ro (w.setCell ⟨b, i, none⟩ v) b (cs.set i v) := by
  intro j c hj
  rw [World.frozen?_setCell]
  rw [List.getElem?_set] at hj
  by_cases e : i = j
  · subst e
    simp only [if_true] at hj
    split at hj
    · rename_i hl
      simp only [Option.some.injEq] at hj
      subst hj
      obtain ⟨g1, g2⟩ := h i _ (List.getElem?_eq_getElem hl)
      exact ⟨World.cell?_setCell_same _ _ _ g1, g2⟩
    · simp at hj
  · simp only [e, if_false] at hj
    obtain ⟨h1, h2⟩ := h j c hj
    exact ⟨by rw [World.cell?_setCell_other _ _ _ _ (fun hh => e (congrArg Addr.off hh))]; exact h1, h2⟩
theorem Ro.other {w : World} {b k : Nat} {cs : List Value} (h : Ro w b cs) (i : Nat) (v : Value) (hk : b ≠ k) : Ro (w.setCell ⟨k, i, none⟩ v) b cs :=
  h.grows (Grows.set (S := (· = k)) w ⟨k, i, none⟩ v rfl) hk
theorem Ro.of_owns {w : World} {base : Nat} {e : TypeId} {size g n cap : Nat} {cs : List Value} (h : w.ownsRow base e size (.slice (some ⟨g, 0, none⟩) n cap) n cs) : Ro w g cs := by
  intro j c hj
  refine ⟨?_, h.frozenAt j⟩
  rcases At.of_owns h with hn | ⟨b, off, ha, hl⟩
  · rw [hn] at hj; simp at hj
  · simp only [Option.some.injEq, Addr.mk.injEq, and_true] at ha
    obtain ⟨rfl, rfl⟩ := ha
    have := hl j c hj
    rwa [Nat.zero_add] at this
/-- the cells of the regions' states -/
def stC (l : List (Nat × Nat)) : List Value := l.flatMap fun x => [.int .u32 (x.1 : Int), .int .i64 (x.2 : Int)]
theorem stC_get {l : List (Nat × Nat)} {k : Nat} (h : k < l.length) : (stC l)[k * 2]? = some (.int .u32 (l[k].1 : Int)) ∧ (stC l)[k * 2 + 1]? = some (.int .i64 (l[k].2 : Int)) := by
  induction l generalizing k with
  | nil => simp at h
  | cons x r ih =>
    cases k with
    | zero => exact ⟨rfl, rfl⟩
    | succ k =>
      have := ih (k := k) (by simpa using h)
      simp only [stC, List.flatMap_cons] at this ⊢
      rw [show (k + 1) * 2 = k * 2 + 2 by omega, show k * 2 + 2 + 1 = (k * 2 + 1) + 2 by omega]
      exact this
theorem stC_set (l : List (Nat × Nat)) (k : Nat) (e u : Nat) : stC (l.set k (e, u)) = ((stC l).set (k * 2) (.int .u32 (e : Int))).set (k * 2 + 1) (.int .i64 (u : Int)) := by
  induction l generalizing k with
  | nil => rfl
  | cons x r ih =>
    cases k with
    | zero => rfl
    | succ k =>
      have := ih k
      simp only [stC, List.flatMap_cons, List.set_cons_succ] at this ⊢
      rw [show (k + 1) * 2 = k * 2 + 2 by omega, show k * 2 + 2 + 1 = (k * 2 + 1) + 2 by omega]
      simp only [List.cons_append, List.nil_append, List.set_cons_succ]
      rw [this]
theorem stC_set_used (l : List (Nat × Nat)) (k : Nat) (h : k < l.length) (u : Nat) : stC (l.set k (l[k].1, u)) = (stC l).set (k * 2 + 1) (.int .i64 (u : Int)) := by
  rw [stC_set]
  congr 1
  have h1 := (stC_get h).1
  apply List.ext_getElem?
  intro j
  rw [List.getElem?_set]
  by_cases e : k * 2 = j
  · subst e
    rw [if_pos rfl, h1]
    have := (List.getElem?_eq_some_iff.1 h1).1
    rw [if_pos this]
  · rw [if_neg e]
def ptr (p : Nat) : Value := .pointer (some ⟨p, 0, none⟩)
/-- the landed account, at p: the regions' states at bS -/
structure CAt (w : World) (p : Nat) (c : Ch) (bS cap on : Nat) : Prop where
  var : Var w p 58 [.int .i64 (c.pg : Int), .int .i64 (c.pgs : Int), .int .i64 (c.rgs : Int), .slice (some ⟨bS, 0, none⟩) c.rgs cap, .int .i64 (on : Int), .bool c.now.isSome]
  row : Ro w bS (stC c.st)
  lt : bS < w.heap.size
  onk : ∀ k, c.now = some k → on = k
  on0 : on < 1000
  capl : c.rgs ≤ cap
  ne : bS ≠ p
/-- the blocks that it has -/
def foot (p bS : Nat) : Nat → Prop := fun k => k = p ∨ k = bS
theorem CAt.grows {S : Nat → Prop} {w w' : World} {p : Nat} {c : Ch} {bS cap on : Nat} (h : CAt w p c bS cap on) (g : Grows S w w') (hn : ∀ k, foot p bS k → ¬ S k) : CAt w' p c bS cap on :=
  ⟨g.var h.var (hn p (.inl rfl)), h.row.grows g (hn bS (.inr rfl)), Nat.lt_of_lt_of_le h.lt g.size, h.onk, h.on0, h.capl, h.ne⟩
theorem CAt.below {w w' : World} {p : Nat} {c : Ch} {bS cap on : Nat} (h : CAt w p c bS cap on) (g : Below w.heap.size w w') : CAt w' p c bS cap on := h.grows (Grows.of_below (S := fun _ => False) g) (fun _ _ x => x)
theorem CAt.foot_lt {w : World} {p : Nat} {c : Ch} {bS cap on : Nat} (h : CAt w p c bS cap on) : ∀ k, foot p bS k → k < w.heap.size := by
  rintro k (rfl | rfl)
  · exact h.var.lt
  · exact h.lt
theorem CAt.get {w : World} {p : Nat} {c : Ch} {bS cap on : Nat} (h : CAt w p c bS cap on) (hd : c.Ok) {k : Nat} (hk : k < c.rgs) :
    w.cell? ⟨bS, k * 2, none⟩ = some (.int .u32 (c.ep k : Int)) ∧ w.cell? ⟨bS, k * 2 + 1, none⟩ = some (.int .i64 (c.us k : Int)) ∧ w.frozen? ⟨bS, k * 2, none⟩ = false ∧ w.frozen? ⟨bS, k * 2 + 1, none⟩ = false := by
  have hl : k < c.st.length := by rw [hd.len]; exact hk
  obtain ⟨h0, h1⟩ := stC_get hl
  rw [st_get hl] at h0 h1
  obtain ⟨a1, a2⟩ := h.row _ _ h0
  obtain ⟨b1, b2⟩ := h.row _ _ h1
  exact ⟨a1, b1, a2, b2⟩
/-- a region's state is written -/
theorem CAt.putAt {w : World} {p : Nat} {c : Ch} {bS cap on : Nat} (h : CAt w p c bS cap on) (k e u : Nat) :
    CAt ((w.setCell ⟨bS, k * 2, none⟩ (.int .u32 (e : Int))).setCell ⟨bS, k * 2 + 1, none⟩ (.int .i64 (u : Int))) p (c.put k e u) bS cap on
    ∧ Grows (foot p bS) w ((w.setCell ⟨bS, k * 2, none⟩ (.int .u32 (e : Int))).setCell ⟨bS, k * 2 + 1, none⟩ (.int .i64 (u : Int))) := by
  have g1 := (Grows.set (S := (· = bS)) w ⟨bS, k * 2, none⟩ (.int .u32 (e : Int)) rfl).trans (Grows.set (S := (· = bS)) _ ⟨bS, k * 2 + 1, none⟩ (.int .i64 (u : Int)) rfl) (fun _ x => .inl x)
  refine ⟨⟨g1.var h.var (fun x => h.ne x.symm), ?_, Nat.lt_of_lt_of_le h.lt g1.size, h.onk, h.on0, h.capl, h.ne⟩, g1.mono fun _ x => .inr x⟩
  have := (h.row.set (k * 2) (.int .u32 (e : Int))).set (k * 2 + 1) (.int .i64 (u : Int))
  rw [← stC_set] at this
  exact this
theorem CAt.useAt {w : World} {p : Nat} {c : Ch} {bS cap on : Nat} (h : CAt w p c bS cap on) (hd : c.Ok) (k u : Nat) (hk : k < c.rgs) :
    CAt (w.setCell ⟨bS, k * 2 + 1, none⟩ (.int .i64 (u : Int))) p (c.put k (c.ep k) u) bS cap on
    ∧ Grows (foot p bS) w (w.setCell ⟨bS, k * 2 + 1, none⟩ (.int .i64 (u : Int))) := by
  have g1 := Grows.set (S := (· = bS)) w ⟨bS, k * 2 + 1, none⟩ (.int .i64 (u : Int)) rfl
  refine ⟨⟨g1.var h.var (fun x => h.ne x.symm), ?_, Nat.lt_of_lt_of_le h.lt g1.size, h.onk, h.on0, h.capl, h.ne⟩, g1.mono fun _ x => .inr x⟩
  have hl : k < c.st.length := by rw [hd.len]; exact hk
  have := h.row.set (k * 2 + 1) (.int .i64 (u : Int))
  rw [← stC_set_used c.st k hl, st_get hl] at this
  exact this
/-- a region is open from now on -/
theorem CAt.nowAt {w : World} {p : Nat} {c : Ch} {bS cap on : Nat} (h : CAt w p c bS cap on) (k : Nat) (hk : k < 1000) :
    CAt ((w.setCell ⟨p, 4, none⟩ (.int .i64 (k : Int))).setCell ⟨p, 5, none⟩ (.bool true)) p { c with now := some k } bS cap k
    ∧ Grows (foot p bS) w ((w.setCell ⟨p, 4, none⟩ (.int .i64 (k : Int))).setCell ⟨p, 5, none⟩ (.bool true)) := by
  have g1 := (Grows.set (S := (· = p)) w ⟨p, 4, none⟩ (.int .i64 (k : Int)) rfl).trans (Grows.set (S := (· = p)) _ ⟨p, 5, none⟩ (.bool true) rfl) (fun _ x => .inl x)
  exact ⟨⟨(h.var.set 4 (.int .i64 (k : Int))).set 5 (.bool true), h.row.grows g1 h.ne, Nat.lt_of_lt_of_le h.lt g1.size, fun j hj => by simpa using hj, hk, h.capl, h.ne⟩, g1.mono fun _ x => .inl x⟩
/-- the landed account, with the blocks that it has -/
def CHas (w : World) (p : Nat) (c : Ch) (S : Nat → Prop) : Prop := ∃ bS cap on, CAt w p c bS cap on ∧ S = foot p bS
theorem CHas.grows {T S : Nat → Prop} {w w' : World} {p : Nat} {c : Ch} (h : CHas w p c S) (g : Grows T w w') (hn : ∀ k, S k → ¬ T k) : CHas w' p c S := by
  obtain ⟨a, b, d, h, rfl⟩ := h
  exact ⟨a, b, d, h.grows g hn, rfl⟩
theorem CHas.below {w w' : World} {p : Nat} {c : Ch} {S : Nat → Prop} (h : CHas w p c S) (g : Below w.heap.size w w') : CHas w' p c S := h.grows (Grows.of_below (S := fun _ => False) g) (fun _ _ x => x)
theorem CHas.lt {w : World} {p : Nat} {c : Ch} {S : Nat → Prop} (h : CHas w p c S) : ∀ k, S k → k < w.heap.size := by
  obtain ⟨a, b, d, h, rfl⟩ := h
  exact h.foot_lt
theorem bel2 {a w1 w2 : World} (h : Below a.heap.size a w1) (k : Below w1.heap.size w1 w2) : Below a.heap.size a w2 := h.trans (k.mono h.size)
theorem ret_bool {a b : Bool} (h : a = b) : Ending.returned (.bool a) = .returned (.bool b) := by rw [h]
theorem ret_int {k : IntKind} {a b : Int} (h : a = b) : Ending.returned (.int k a) = .returned (.int k b) := by rw [h]
theorem geo_right {c : Ch} (h : c.Ok) : Geom.rightG ⟨c.pg, c.pgs, c.rgs⟩ = true :=
  Geom.right_small.mpr ⟨by simp only; have := h.p0; omega, by simp only; have := h.p1; omega, by simp only; have := h.s0; omega, by simp only; have := h.s1; omega, by simp only; have := h.r0; omega, by simp only; have := h.r1; omega⟩
theorem geo_slots {c : Ch} (h : c.Ok) : Geom.slotsG ⟨c.pg, c.pgs, c.rgs⟩ = (c.slots : Int) := by
  unfold Geom.slotsG Ch.slots
  have := h.s0
  simp only; omega
/-- the document's own account, at r: the epochs at bE, what is used at bU -/
structure DAt (w : World) (r : Nat) (c : Ch) (bE capE bU capU : Nat) : Prop where
  var : Var w r 61 [.int .i64 (c.pg : Int), .int .i64 (c.pgs : Int), .int .i64 (c.rgs : Int), .slice (some ⟨bE, 0, none⟩) c.rgs capE, .slice (some ⟨bU, 0, none⟩) c.rgs capU, .int .i64 (match c.now with | none => -1 | some k => (k : Int))]
  rowE : Ro w bE (c.st.map fun x => .int .u32 (x.1 : Int))
  rowU : Ro w bU (c.st.map fun x => .int .i64 (x.2 : Int))
  ltE : bE < w.heap.size
  ltU : bU < w.heap.size
  capE : c.rgs ≤ capE
  capU : c.rgs ≤ capU
  neE : bE ≠ r
  neU : bU ≠ r
  ne : bE ≠ bU
def footD (r bE bU : Nat) : Nat → Prop := fun k => k = r ∨ k = bE ∨ k = bU
theorem DAt.grows {S : Nat → Prop} {w w' : World} {r : Nat} {c : Ch} {bE capE bU capU : Nat} (h : DAt w r c bE capE bU capU) (g : Grows S w w') (hn : ∀ k, footD r bE bU k → ¬ S k) : DAt w' r c bE capE bU capU :=
  ⟨g.var h.var (hn r (.inl rfl)), h.rowE.grows g (hn bE (.inr (.inl rfl))), h.rowU.grows g (hn bU (.inr (.inr rfl))), Nat.lt_of_lt_of_le h.ltE g.size, Nat.lt_of_lt_of_le h.ltU g.size, h.capE, h.capU, h.neE, h.neU, h.ne⟩
theorem DAt.below {w w' : World} {r : Nat} {c : Ch} {bE capE bU capU : Nat} (h : DAt w r c bE capE bU capU) (g : Below w.heap.size w w') : DAt w' r c bE capE bU capU := h.grows (Grows.of_below (S := fun _ => False) g) (fun _ _ x => x)
theorem DAt.foot_lt {w : World} {r : Nat} {c : Ch} {bE capE bU capU : Nat} (h : DAt w r c bE capE bU capU) : ∀ k, footD r bE bU k → k < w.heap.size := by
  rintro k (rfl | rfl | rfl)
  · exact h.var.lt
  · exact h.ltE
  · exact h.ltU
theorem DAt.getE {w : World} {r : Nat} {c : Ch} {bE capE bU capU : Nat} (h : DAt w r c bE capE bU capU) (hd : c.Ok) {k : Nat} (hk : k < c.rgs) : w.cell? ⟨bE, k, none⟩ = some (.int .u32 (c.ep k : Int)) ∧ w.frozen? ⟨bE, k, none⟩ = false := by
  have hl : k < c.st.length := by rw [hd.len]; exact hk
  have := h.rowE k (.int .u32 (c.ep k : Int)) (by rw [List.getElem?_map, List.getElem?_eq_getElem hl, st_get hl]; rfl)
  exact this
theorem DAt.getU {w : World} {r : Nat} {c : Ch} {bE capE bU capU : Nat} (h : DAt w r c bE capE bU capU) (hd : c.Ok) {k : Nat} (hk : k < c.rgs) : w.cell? ⟨bU, k, none⟩ = some (.int .i64 (c.us k : Int)) ∧ w.frozen? ⟨bU, k, none⟩ = false := by
  have hl : k < c.st.length := by rw [hd.len]; exact hk
  have := h.rowU k (.int .i64 (c.us k : Int)) (by rw [List.getElem?_map, List.getElem?_eq_getElem hl, st_get hl]; rfl)
  exact this
theorem DAt.putAt {w : World} {r : Nat} {c : Ch} {bE capE bU capU : Nat} (h : DAt w r c bE capE bU capU) (k e u : Nat) :
    DAt ((w.setCell ⟨bE, k, none⟩ (.int .u32 (e : Int))).setCell ⟨bU, k, none⟩ (.int .i64 (u : Int))) r (c.put k e u) bE capE bU capU
    ∧ Grows (footD r bE bU) w ((w.setCell ⟨bE, k, none⟩ (.int .u32 (e : Int))).setCell ⟨bU, k, none⟩ (.int .i64 (u : Int))) := by
  have g1 := (Grows.set (S := fun k => k = bE ∨ k = bU) w ⟨bE, k, none⟩ (.int .u32 (e : Int)) (.inl rfl)).trans (Grows.set (S := fun k => k = bE ∨ k = bU) _ ⟨bU, k, none⟩ (.int .i64 (u : Int)) (.inr rfl)) (fun _ x => .inl x)
  refine ⟨⟨g1.var h.var (fun x => x.elim (fun y => h.neE y.symm) (fun y => h.neU y.symm)), ?_, ?_, Nat.lt_of_lt_of_le h.ltE g1.size, Nat.lt_of_lt_of_le h.ltU g1.size, h.capE, h.capU, h.neE, h.neU, h.ne⟩, g1.mono fun _ x => .inr x⟩
  · have := (h.rowE.set k (.int .u32 (e : Int))).other k (.int .i64 (u : Int)) h.ne
    rw [show (c.put k e u).st.map (fun x => Value.int .u32 (x.1 : Int)) = (c.st.map fun x => Value.int .u32 (x.1 : Int)).set k (.int .u32 (e : Int)) by simp [Ch.put, List.map_set]]
    exact this
  · have := (h.rowU.other k (.int .u32 (e : Int)) (Ne.symm h.ne)).set k (.int .i64 (u : Int))
    rw [show (c.put k e u).st.map (fun x => Value.int .i64 (x.2 : Int)) = (c.st.map fun x => Value.int .i64 (x.2 : Int)).set k (.int .i64 (u : Int)) by simp [Ch.put, List.map_set]]
    exact this
theorem map_set_id {α β : Type} (f : α → β) (l : List α) (k : Nat) (x y : α) (hx : l[k]? = some x) (he : f y = f x) : (l.set k y).map f = l.map f := by
  apply List.ext_getElem?
  intro j
  rw [List.getElem?_map, List.getElem?_map, List.getElem?_set]
  by_cases e : k = j
  · subst e
    have hl := (List.getElem?_eq_some_iff.1 hx).1
    have hg : l[k] = x := (List.getElem?_eq_some_iff.1 hx).2
    simp [hl, he, hg]
  · simp [e]
theorem DAt.useAt {w : World} {r : Nat} {c : Ch} {bE capE bU capU : Nat} (h : DAt w r c bE capE bU capU) (hd : c.Ok) (k u : Nat) (hk : k < c.rgs) :
    DAt (w.setCell ⟨bU, k, none⟩ (.int .i64 (u : Int))) r (c.put k (c.ep k) u) bE capE bU capU
    ∧ Grows (footD r bE bU) w (w.setCell ⟨bU, k, none⟩ (.int .i64 (u : Int))) := by
  have g1 := Grows.set (S := (· = bU)) w ⟨bU, k, none⟩ (.int .i64 (u : Int)) rfl
  have hl : k < c.st.length := by rw [hd.len]; exact hk
  refine ⟨⟨g1.var h.var (fun y => h.neU y.symm), ?_, ?_, Nat.lt_of_lt_of_le h.ltE g1.size, Nat.lt_of_lt_of_le h.ltU g1.size, h.capE, h.capU, h.neE, h.neU, h.ne⟩, g1.mono fun _ x => .inr (.inr x)⟩
  · have e : (c.put k (c.ep k) u).st.map (fun x => Value.int .u32 (x.1 : Int)) = c.st.map (fun x => Value.int .u32 (x.1 : Int)) :=
      map_set_id _ c.st k _ _ (List.getElem?_eq_getElem hl) (by rw [st_get hl])
    rw [e]
    exact h.rowE.other k _ h.ne
  · have := h.rowU.set k (.int .i64 (u : Int))
    rw [show (c.put k (c.ep k) u).st.map (fun x => Value.int .i64 (x.2 : Int)) = (c.st.map fun x => Value.int .i64 (x.2 : Int)).set k (.int .i64 (u : Int)) by simp [Ch.put, List.map_set]]
    exact this
theorem DAt.nowAt {w : World} {r : Nat} {c : Ch} {bE capE bU capU : Nat} (h : DAt w r c bE capE bU capU) (k : Nat) :
    DAt (w.setCell ⟨r, 5, none⟩ (.int .i64 (k : Int))) r { c with now := some k } bE capE bU capU
    ∧ Grows (footD r bE bU) w (w.setCell ⟨r, 5, none⟩ (.int .i64 (k : Int))) := by
  have g1 := Grows.set (S := (· = r)) w ⟨r, 5, none⟩ (.int .i64 (k : Int)) rfl
  exact ⟨⟨h.var.set 5 (.int .i64 (k : Int)), h.rowE.grows g1 h.neE, h.rowU.grows g1 h.neU, Nat.lt_of_lt_of_le h.ltE g1.size, Nat.lt_of_lt_of_le h.ltU g1.size, h.capE, h.capU, h.neE, h.neU, h.ne⟩, g1.mono fun _ x => .inl x⟩
def DHas (w : World) (r : Nat) (c : Ch) (S : Nat → Prop) : Prop := ∃ bE capE bU capU, DAt w r c bE capE bU capU ∧ S = footD r bE bU
theorem DHas.grows {T S : Nat → Prop} {w w' : World} {p : Nat} {c : Ch} (h : DHas w p c S) (g : Grows T w w') (hn : ∀ k, S k → ¬ T k) : DHas w' p c S := by
  obtain ⟨a, b, d, e, h, rfl⟩ := h
  exact ⟨a, b, d, e, h.grows g hn, rfl⟩
theorem DHas.below {w w' : World} {p : Nat} {c : Ch} {S : Nat → Prop} (h : DHas w p c S) (g : Below w.heap.size w w') : DHas w' p c S := h.grows (Grows.of_below (S := fun _ => False) g) (fun _ _ x => x)
theorem DHas.lt {w : World} {p : Nat} {c : Ch} {S : Nat → Prop} (h : DHas w p c S) : ∀ k, S k → k < w.heap.size := by
  obtain ⟨a, b, d, e, h, rfl⟩ := h
  exact h.foot_lt
end Go.Proofs.Ytmkdhehdfdkbjaa.Chart
