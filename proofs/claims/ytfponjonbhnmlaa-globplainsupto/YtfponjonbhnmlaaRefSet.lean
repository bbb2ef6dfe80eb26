/-
  What the document's own reading of a set answers: a span laid to the others.
-/
import Derived.Test.YtfponjonbhnmlaaRefGlob
import Derived.Test.YtfponjonbhnmlaaRegion2
import Derived.RegionTactic
import Derived.Deep.RegionHeld3
namespace Go.Proofs.Ytfponjonbhnmlaa.RefGlob
open Go.RowKit
open RuneM RefRune Own RefKeys GlobM
open Go.Proofs.Ytfponjonbhnmlaa.Region

theorem mine_zero {w : World} {base : Nat} {e : TypeId} {v : Value} {l : List Value} (h : Mine w base e v l) : Mine w 0 e v l := by
  refine ⟨h.1, ?_⟩
  rcases h.2 with hn | ⟨g, cap, cur, e, _, r⟩
  · exact .inl hn
  · exact .inr ⟨g, cap, cur, e, Nat.zero_le _, r⟩
/-- x holds an item -/
def ItemV (w : World) (x : Value) (it : It) : Prop :=
  ∃ lo hi, x = .agg #[.int .i64 (it.kind : Int), .bool it.neg, lo, hi] ∧ Mine w 0 3 lo (ns (it.sp.map (·.1))) ∧ Mine w 0 3 hi (ns (it.sp.map (·.2)))
theorem ItemV.below {w w' : World} {x : Value} {it : It} (h : ItemV w x it) (hb : Below w.heap.size w w') : ItemV w' x it := by
  obtain ⟨lo, hi, e, h1, h2⟩ := h
  exact ⟨lo, hi, e, h1.below hb, h2.below hb⟩
/-- what set answers -/
def SetSays (l : List Nat) (i : Nat) (w : World) (e : Ending) (w' : World) : Prop :=
  Below w.heap.size w w' ∧ match setL (l.drop i) with
  | none => ∃ (nb : Bool) (p q : Option Addr × Nat × Nat) (n : Value), e = .returned (.tuple #[.agg #[.int .i64 3, .bool nb, .slice p.1 p.2.1 p.2.2, .slice q.1 q.2.1 q.2.2], n, .bool false])
  | some (it, t) => ∃ x, e = .returned (.tuple #[x, .int .i64 ((l.length - t.length - 1 : Nat) : Int), .bool true]) ∧ ItemV w' x it
/-- the item's own block, the answer's block, the rows of ends -/
def XAt (w wr : World) (neg : Bool) (lo hi : Value) : Prop := wr.heap[w.heap.size + 1]? = some (.cells #[.int .i64 3, .bool neg, lo, hi] 46 (0, 0))
def RAt (w wr : World) : Prop := ∃ a b c d, wr.heap[w.heap.size]? = some (.cells #[a, b, c, d] 46 (0, 0))
/-- where set stands -/
structure SetAt (w wr : World) (neg : Bool) (lo hi : Value) (sp : List (Nat × Nat)) : Prop where
  x : XAt w wr neg lo hi
  r : RAt w wr
  l : Mine wr (w.heap.size + 2) 3 lo (ns (sp.map (·.1)))
  h : Mine wr (w.heap.size + 2) 3 hi (ns (sp.map (·.2)))
  ne : lo.ownBlock = none ∨ lo.ownBlock ≠ hi.ownBlock
  below : Below w.heap.size w wr

/-- a new slice of one number -/
def One (B : Nat) (n : Nat) (v : Value) (w : World) : Prop := ∃ g, v = .slice (some ⟨g, 0, none⟩) 1 1 ∧ B ≤ g ∧ w.cell? ⟨g, 0, none⟩ = some (.int .i64 (n : Int))
theorem One.kept {B n : Nat} {v : Value} {w w' : World} {row : Option Nat} (h : One B n v w) (hg : w.grownBy w' row) (hr : ∀ k, row = some k → k < B) : One B n v w' := by
  obtain ⟨g, e, hb, hc⟩ := h
  exact ⟨g, e, hb, grown_cell hg hc (fun h => by have := hr g h.symm; omega)⟩
theorem XAt.kept {w wr w' : World} {neg : Bool} {lo hi : Value} {row : Option Nat} (h : XAt w wr neg lo hi) (hg : wr.grownBy w' row) (hr : row ≠ some (w.heap.size + 1)) : XAt w w' neg lo hi := by
  unfold XAt at h ⊢
  rw [hg.block _ (Array.getElem?_eq_some_iff.1 h).1 (Ne.symm hr)]; exact h
theorem RAt.kept {w wr w' : World} {row : Option Nat} (h : RAt w wr) (hg : wr.grownBy w' row) (hr : row ≠ some w.heap.size) : RAt w w' := by
  obtain ⟨a, b, c, d, h⟩ := h
  refine ⟨a, b, c, d, ?_⟩
  rw [hg.block _ (Array.getElem?_eq_some_iff.1 h).1 (Ne.symm hr)]; exact h
theorem grown_alloc (w : World) (o : Obj) : w.grownBy (w.alloc o) none := by
  have h := (Below.refl w.heap.size w).alloc (Nat.le_refl _) o
  exact ⟨h.os, h.tape, h.output, h.size, fun k hk _ => h.block k hk⟩
theorem grown_set (w : World) (p : Addr) (v : Value) : w.grownBy (w.setCell p v) (some p.block) := by
  refine ⟨rfl, rfl, rfl, by simp [World.setCell], fun k _ hk => ?_⟩
  exact Below.heap_setCell w p v k (fun e => hk (by rw [e]))
theorem XAt.cell2 {w wr : World} {neg : Bool} {lo hi : Value} (h : XAt w wr neg lo hi) : wr.cell? ⟨w.heap.size + 1, 2, none⟩ = some lo ∧ wr.frozen? ⟨w.heap.size + 1, 2, none⟩ = false := by
  unfold XAt at h; constructor <;> simp [World.cell?, World.frozen?, h]
theorem XAt.cell3 {w wr : World} {neg : Bool} {lo hi : Value} (h : XAt w wr neg lo hi) : wr.cell? ⟨w.heap.size + 1, 3, none⟩ = some hi ∧ wr.frozen? ⟨w.heap.size + 1, 3, none⟩ = false := by
  unfold XAt at h; constructor <;> simp [World.cell?, World.frozen?, h]
theorem XAt.set2 {w wr : World} {neg : Bool} {lo hi : Value} (h : XAt w wr neg lo hi) (v : Value) : XAt w (wr.setCell ⟨w.heap.size + 1, 2, none⟩ v) neg v hi := by
  unfold XAt at h ⊢
  simp only [World.setCell]
  rw [Array.getElem?_modify, if_pos rfl, h]; rfl
theorem XAt.set3 {w wr : World} {neg : Bool} {lo hi : Value} (h : XAt w wr neg lo hi) (v : Value) : XAt w (wr.setCell ⟨w.heap.size + 1, 3, none⟩ v) neg lo v := by
  unfold XAt at h ⊢
  simp only [World.setCell]
  rw [Array.getElem?_modify, if_pos rfl, h]; rfl
theorem mine_some {w : World} {base : Nat} {e : TypeId} {v : Value} {l : List Value} (h : Mine w base e v l) (hl : l ≠ []) : ∃ g, v.ownBlock = some g ∧ g < w.heap.size ∧ base ≤ g := by
  rcases h.2 with ⟨_, hn⟩ | ⟨g, cap, cur, rfl, hb, hh, _⟩
  · exact absurd (List.length_eq_zero_iff.1 hn) hl
  · exact ⟨g, rfl, (Array.getElem?_eq_some_iff.1 hh).1, hb⟩
theorem mine_one {w : World} {base : Nat} {e : TypeId} {v : Value} {l : List Value} (h : Mine w base e v l) : v.oneCell' = true := by
  rcases h.2 with ⟨rfl, _⟩ | ⟨g, cap, cur, rfl, _⟩ <;> rfl
theorem mine_slice {w : World} {base : Nat} {e : TypeId} {v : Value} {l : List Value} (h : Mine w base e v l) : ∃ p : Option Addr × Nat × Nat, v = .slice p.1 p.2.1 p.2.2 := by
  rcases h.2 with ⟨rfl, _⟩ | ⟨g, cap, cur, rfl, _⟩
  · exact ⟨(none, 0, 0), rfl⟩
  · exact ⟨(_, _, _), rfl⟩
theorem One.out {B n : Nat} {v : Value} {w : World} (h : One B n v w) : ∃ g, v = .slice (some ⟨g, 0, none⟩) 1 1 ∧ B ≤ g ∧ w.cell? ⟨g, 0, none⟩ = some (.int .i64 (n : Int)) := h
/-- while a span is laid to the others: what is known, by what is done -/
structure J15 (w wr : World) (neg : Bool) (lo hi : Value) (sp : List (Nat × Nat)) (av bv : Nat) (d : Nat → Bool) (ys : Nat → Value) (wx : World) : Prop where
  below : Below w.heap.size w wx
  size : wr.heap.size ≤ wx.heap.size
  r : RAt w wx
  x : XAt w wx neg (if d 11 = true then ys 88 else lo) (if d 13 = true then ys 93 else hi)
  s84 : d 0 = true → ys 84 = .pointer (some ⟨w.heap.size + 1, 2, none⟩)
  s85 : d 1 = true → ys 85 = lo
  s86 : d 2 = true → ys 86 = .int .i64 (av : Int)
  s87 : d 3 = true → One wr.heap.size av (ys 87) wx
  s88 : d 4 = true → Mine wx (w.heap.size + 2) 3 (ys 88) (ns (sp.map (·.1)) ++ [.int .i64 (av : Int)])
  n88 : d 4 = true → (ys 88).ownBlock ≠ hi.ownBlock
  l : d 4 = false → Mine wx (w.heap.size + 2) 3 lo (ns (sp.map (·.1)))
  s89 : d 5 = true → ys 89 = .pointer (some ⟨w.heap.size + 1, 3, none⟩)
  s90 : d 6 = true → ys 90 = hi
  s91 : d 7 = true → ys 91 = .int .i64 (bv : Int)
  s92 : d 8 = true → One wr.heap.size bv (ys 92) wx
  s93 : d 9 = true → Mine wx (w.heap.size + 2) 3 (ys 93) (ns (sp.map (·.2)) ++ [.int .i64 (bv : Int)])
  n93 : d 9 = true → (ys 93).ownBlock ≠ lo.ownBlock
  h : d 9 = false → Mine wx (w.heap.size + 2) 3 hi (ns (sp.map (·.2)))
  ap : d 4 = true → d 9 = true → (ys 88).ownBlock ≠ (ys 93).ownBlock
  s94 : d 10 = true → ys 94 = .pointer (some ⟨w.heap.size + 1, 2, none⟩)
  s95 : d 12 = true → ys 95 = .pointer (some ⟨w.heap.size + 1, 3, none⟩)
/-- a step that leaves the rows and the item alone -/
theorem J15.grown {w wr : World} {neg : Bool} {lo hi : Value} {sp : List (Nat × Nat)} {av bv : Nat} {d : Nat → Bool} {ys : Nat → Value} {wx w' : World} (h : J15 w wr neg lo hi sp av bv d ys wx) (hg : wx.grownBy w' none) : J15 w wr neg lo hi sp av bv d ys w' :=
  { h with
    below := h.below.grown hg h.below.size (fun k hk => by cases hk)
    size := Nat.le_trans h.size hg.size
    r := h.r.kept hg (by simp)
    x := h.x.kept hg (by simp)
    s87 := fun e => (h.s87 e).kept hg (fun k hk => by cases hk)
    s88 := fun e => (h.s88 e).kept hg (.inr (by obtain ⟨g, hg, _⟩ := mine_some (h.s88 e) (by simp); rw [hg]; simp))
    l := fun e => (h.l e).kept hg (by cases hq : lo.ownBlock with | none => exact .inl rfl | some _ => exact .inr (by simp))
    s92 := fun e => (h.s92 e).kept hg (fun k hk => by cases hk)
    s93 := fun e => (h.s93 e).kept hg (.inr (by obtain ⟨g, hg, _⟩ := mine_some (h.s93 e) (by simp); rw [hg]; simp))
    h := fun e => (h.h e).kept hg (by cases hq : hi.ownBlock with | none => exact .inl rfl | some _ => exact .inr (by simp)) }

theorem XAt.lt {w wx : World} {neg : Bool} {lo hi : Value} (h : XAt w wx neg lo hi) : w.heap.size + 2 ≤ wx.heap.size := (Array.getElem?_eq_some_iff.1 h).1
theorem own_far {w wx : World} {e : TypeId} {v : Value} {l : List Value} (h : Mine wx (w.heap.size + 2) e v l) : v.ownBlock ≠ some w.heap.size ∧ v.ownBlock ≠ some (w.heap.size + 1) ∧ ∀ k, v.ownBlock = some k → w.heap.size ≤ k := by
  refine ⟨fun e => ?_, fun e => ?_, fun k e => ?_⟩
  · have := (h.lt _ e).2; omega
  · have := (h.lt _ e).2; omega
  · have := (h.lt _ e).2; omega
section
variable {w wr : World} {neg : Bool} {lo hi : Value} {sp : List (Nat × Nat)} {av bv : Nat} {d : Nat → Bool} {ys : Nat → Value} {wx w2 : World}
theorem J15.app88 (hJ : J15 w wr neg lo hi sp av bv d ys wx) (h11 : d 11 = false) (h4 : d 4 = false) (hne : lo.ownBlock = none ∨ lo.ownBlock ≠ hi.ownBlock)
    (hlo : ∀ k, lo.ownBlock = some k → k < wr.heap.size) (hhi : ∀ k, hi.ownBlock = some k → k < wr.heap.size) {v : Value}
    (hM : Mine w2 (w.heap.size + 2) 3 v (ns (sp.map (·.1)) ++ [.int .i64 (av : Int)])) (hgr : wx.grownBy w2 lo.ownBlock) (hat : v.ownBlock = lo.ownBlock ∨ v.ownBlock = some wx.heap.size) :
    J15 w wr neg lo hi sp av bv (upd d 4) (Region.put ys (some 88) v) w2 := by
  have hfar := own_far (hJ.l h4)
  have hv := mine_some hM (by simp)
  have hx := hJ.x
  rw [if_neg (by rw [h11]; simp)] at hx
  have hsz := hJ.size
  refine { hJ with below := hJ.below.grown hgr hJ.below.size hfar.2.2, size := Nat.le_trans hJ.size hgr.size, r := hJ.r.kept hgr hfar.1, x := ?x, s87 := fun e => (hJ.s87 e).kept hgr hlo, s88 := fun _ => hM, n88 := fun _ => ?n88, l := fun h => absurd h (by simp [upd]), s92 := fun e => (hJ.s92 e).kept hgr hlo, s93 := fun e => (hJ.s93 e).kept hgr (.inr (hJ.n93 e)), h := fun e => (hJ.h e).kept hgr ?h, ap := fun _ e9 => ?ap }
  case x =>
    show XAt w w2 neg (if d 11 = true then v else lo) (if d 13 = true then ys 93 else hi)
    rw [if_neg (by rw [h11]; simp)]
    exact hx.kept hgr hfar.2.1
  case n88 =>
    show v.ownBlock ≠ hi.ownBlock
    rcases hat with h | h
    · rcases hne with h' | h'
      · obtain ⟨g, hg, _⟩ := hv; rw [h, h'] at hg; cases hg
      · rw [h]; exact h'
    · rw [h]; intro e; have := hhi _ e.symm; omega
  case h =>
    cases hq : hi.ownBlock with
    | none => exact .inl rfl
    | some k =>
      right; intro e
      rcases hne with h' | h'
      · rw [h'] at e; cases e
      · exact h' (by rw [hq]; exact e.symm)
  case ap =>
    show v.ownBlock ≠ (ys 93).ownBlock
    have e9' : d 9 = true := e9
    rcases hat with h | h
    · rw [h]; exact Ne.symm (hJ.n93 e9')
    · rw [h]; intro e
      obtain ⟨g, hg, hlt, _⟩ := mine_some (hJ.s93 e9') (by simp)
      rw [hg] at e; cases e; omega
theorem J15.app93 (hJ : J15 w wr neg lo hi sp av bv d ys wx) (h13 : d 13 = false) (h9 : d 9 = false) (hne : lo.ownBlock = none ∨ lo.ownBlock ≠ hi.ownBlock)
    (hlo : ∀ k, lo.ownBlock = some k → k < wr.heap.size) (hhi : ∀ k, hi.ownBlock = some k → k < wr.heap.size) {v : Value}
    (hM : Mine w2 (w.heap.size + 2) 3 v (ns (sp.map (·.2)) ++ [.int .i64 (bv : Int)])) (hgr : wx.grownBy w2 hi.ownBlock) (hat : v.ownBlock = hi.ownBlock ∨ v.ownBlock = some wx.heap.size) :
    J15 w wr neg lo hi sp av bv (upd d 9) (Region.put ys (some 93) v) w2 := by
  have hfar := own_far (hJ.h h9)
  have hv := mine_some hM (by simp)
  have hx := hJ.x
  have e2 : (if d 13 = true then ys 93 else hi) = hi := if_neg (by rw [h13]; simp)
  rw [e2] at hx
  have hsz := hJ.size
  refine { hJ with below := hJ.below.grown hgr hJ.below.size hfar.2.2, size := Nat.le_trans hJ.size hgr.size, r := hJ.r.kept hgr hfar.1, x := ?x, s87 := fun e => (hJ.s87 e).kept hgr hhi, s93 := fun _ => hM, n93 := fun _ => ?n93, h := fun h => absurd h (by simp [upd]), s92 := fun e => (hJ.s92 e).kept hgr hhi, s88 := fun e => (hJ.s88 e).kept hgr (.inr (hJ.n88 e)), l := fun e => (hJ.l e).kept hgr ?h, ap := fun e4 _ => ?ap }
  case x =>
    show XAt w w2 neg (if d 11 = true then ys 88 else lo) (if d 13 = true then v else hi)
    have e3 : (if d 13 = true then v else hi) = hi := if_neg (by rw [h13]; simp)
    rw [e3]
    exact hx.kept hgr hfar.2.1
  case n93 =>
    show v.ownBlock ≠ lo.ownBlock
    rcases hat with h | h
    · rcases hne with h' | h'
      · rw [h']; obtain ⟨g, hg, _⟩ := hv; rw [hg]; simp
      · rw [h]; exact Ne.symm h'
    · rw [h]; intro e; have := hlo _ e.symm; omega
  case h => exact hne
  case ap =>
    show (ys 88).ownBlock ≠ v.ownBlock
    have e4' : d 4 = true := e4
    rcases hat with h | h
    · rw [h]; exact hJ.n88 e4'
    · rw [h]; intro e
      obtain ⟨g, hg, hlt, _⟩ := mine_some (hJ.s88 e4') (by simp)
      rw [hg] at e; cases e; omega
theorem one_far {B n : Nat} {v : Value} {w : World} {p : Addr} (x : Value) (h : One B n v w) (hp : p.block < B) : One B n v (w.setCell p x) := h.kept (grown_set w p x) (fun k hk => by cases hk; exact hp)
theorem J15.st2 (hJ : J15 w wr neg lo hi sp av bv d ys wx) (h4 : d 4 = true) (hw : w.heap.size + 2 ≤ wr.heap.size) : J15 w wr neg lo hi sp av bv (upd d 11) ys (wx.setCell ⟨w.heap.size + 1, 2, none⟩ (ys 88)) := by
  have hg := grown_set wx ⟨w.heap.size + 1, 2, none⟩ (ys 88)
  have far : ∀ {v : Value} {l : List Value}, Mine wx (w.heap.size + 2) 3 v l → v.ownBlock = none ∨ v.ownBlock ≠ some (w.heap.size + 1) := fun h => .inr (own_far h).2.1
  exact { hJ with
    below := hJ.below.grown hg hJ.below.size (fun k hk => by cases hk; exact Nat.le_succ _)
    size := Nat.le_trans hJ.size hg.size
    r := hJ.r.kept hg (by simp)
    x := hJ.x.set2 (ys 88)
    s87 := fun e => one_far _ (hJ.s87 e) (by show w.heap.size + 1 < _; omega)
    s88 := fun e => (hJ.s88 e).kept hg (far (hJ.s88 e))
    l := fun e => absurd (show d 4 = false from e) (by rw [h4]; simp)
    s92 := fun e => one_far _ (hJ.s92 e) (by show w.heap.size + 1 < _; omega)
    s93 := fun e => (hJ.s93 e).kept hg (far (hJ.s93 e))
    h := fun e => (hJ.h e).kept hg (far (hJ.h e)) }
theorem J15.st3 (hJ : J15 w wr neg lo hi sp av bv d ys wx) (h9 : d 9 = true) (hw : w.heap.size + 2 ≤ wr.heap.size) : J15 w wr neg lo hi sp av bv (upd d 13) ys (wx.setCell ⟨w.heap.size + 1, 3, none⟩ (ys 93)) := by
  have hg := grown_set wx ⟨w.heap.size + 1, 3, none⟩ (ys 93)
  have far : ∀ {v : Value} {l : List Value}, Mine wx (w.heap.size + 2) 3 v l → v.ownBlock = none ∨ v.ownBlock ≠ some (w.heap.size + 1) := fun h => .inr (own_far h).2.1
  exact { hJ with
    below := hJ.below.grown hg hJ.below.size (fun k hk => by cases hk; exact Nat.le_succ _)
    size := Nat.le_trans hJ.size hg.size
    r := hJ.r.kept hg (by simp)
    x := hJ.x.set3 (ys 93)
    s87 := fun e => one_far _ (hJ.s87 e) (by show w.heap.size + 1 < _; omega)
    s88 := fun e => (hJ.s88 e).kept hg (far (hJ.s88 e))
    l := fun e => (hJ.l e).kept hg (far (hJ.l e))
    s92 := fun e => one_far _ (hJ.s92 e) (by show w.heap.size + 1 < _; omega)
    s93 := fun e => (hJ.s93 e).kept hg (far (hJ.s93 e))
    h := fun e => absurd (show d 9 = false from e) (by rw [h9]; simp) }
theorem J15.end (hJ : J15 w wr neg lo hi sp av bv d ys wx) (hd : ∀ i, i < 14 → d i = true) : SetAt w wx neg (ys 88) (ys 93) (sp ++ [(av, bv)]) := by
  have hx := hJ.x
  rw [if_pos (hd 11 (by omega)), if_pos (hd 13 (by omega))] at hx
  refine ⟨hx, hJ.r, ?_, ?_, .inr (hJ.ap (hd 4 (by omega)) (hd 9 (by omega))), hJ.below⟩
  · have := hJ.s88 (hd 4 (by omega)); rw [List.map_append]; simp only [ns, List.map_append]; exact this
  · have := hJ.s93 (hd 9 (by omega)); rw [List.map_append]; simp only [ns, List.map_append]; exact this
end
theorem endL_at {l : List Nat} {k a : Nat} {t : List Nat} (h : endL (l.drop k) = some (a, t)) : t = l.drop (l.length - t.length) ∧ k < l.length - t.length ∧ l.length - t.length ≤ l.length ∧ l.length - t.length ≤ k + 2 := by
  by_cases hk : k < l.length
  · rw [List.drop_eq_getElem_cons hk] at h
    simp only [endL] at h
    split at h
    · cases h
    · split at h
      · simp only [Option.some.injEq, Prod.mk.injEq] at h
        obtain ⟨_, rfl⟩ := h
        have : l.length - (l.drop (k + 1)).length = k + 1 := by simp; omega
        rw [this]; exact ⟨rfl, by omega, by omega, by omega⟩
      · by_cases hk2 : k + 1 < l.length
        · rw [List.drop_eq_getElem_cons hk2] at h
          simp only [Option.some.injEq, Prod.mk.injEq] at h
          obtain ⟨_, rfl⟩ := h
          have : l.length - (l.drop (k + 1 + 1)).length = k + 2 := by simp; omega
          rw [this]; exact ⟨rfl, by omega, by omega, by omega⟩
        · rw [List.drop_of_length_le (by omega)] at h; simp at h
  · rw [List.drop_of_length_le (by omega)] at h; simp [endL] at h
theorem endV_some {l : List Nat} {k a : Nat} {t : List Nat} (h : endL (l.drop k) = some (a, t)) : endV l k = .tuple #[.int .i64 (a : Int), .int .i64 ((l.length - t.length : Nat) : Int), .bool true] := by
  unfold endV; rw [h]
theorem endV_none {l : List Nat} {k : Nat} (h : endL (l.drop k) = none) : endV l k = .tuple #[.int .i64 0, .int .i64 (k : Int), .bool false] := by
  unfold endV; rw [h]
theorem head_at {l : List Nat} {k c : Nat} : (l.drop k).head? = some c ↔ ∃ h : k < l.length, l[k] = c := by
  by_cases hk : k < l.length
  · rw [List.drop_eq_getElem_cons hk]; simp [hk]
  · rw [List.drop_of_length_le (by omega)]; simp [hk]
theorem ns_snoc (l : List Nat) (a : Nat) : ns (l ++ [a]) = ns l ++ [.int .i64 (a : Int)] := by simp [ns, I]

end Go.Proofs.Ytfponjonbhnmlaa.RefGlob
