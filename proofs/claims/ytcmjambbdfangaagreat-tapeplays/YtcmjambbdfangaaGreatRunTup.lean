/-
  Joined texts: Tup, Tup2, Foot.
-/
import Derived.Test.YtcmjambbdfangaaGreatOwn
import Derived.Deep.DeepCutAuto
/-
  Rows of values of several cells. Nothing of the program's functions.
-/
set_option linter.unusedVariables false
set_option linter.unusedSimpArgs false
namespace Go.Proofs.YtcmjambbdfangaaGreat.Tup
open Go.RowKit
open Own

/-- from a place on these cells lie in memory -/
def Lies (w : World) (b off : Nat) (cs : List Value) : Prop := ∀ j c, cs[j]? = some c → w.cell? ⟨b, off + j, none⟩ = some c
theorem Lies.below {w w' : World} {b off : Nat} {cs : List Value} (h : Lies w b off cs) (hb : Below w.heap.size w w') : Lies w' b off cs := fun j c hj => by
  rw [hb.cell (p := ⟨b, off + j, none⟩) (block_lt_of_cell (h j c hj))]; exact h j c hj
theorem Lies.alloc {w : World} {b off : Nat} {cs : List Value} (h : Lies w b off cs) (o : Obj) : Lies (w.alloc o) b off cs := h.below ((Below.refl _ _).alloc (Nat.le_refl _) o)
theorem Lies.draw {w w' : World} {b off : Nat} {cs : List Value} (h : Lies w b off cs) (hd : ∃ k, w' = w.drewN k) : Lies w' b off cs := by
  obtain ⟨k, rfl⟩ := hd; exact h
theorem Lies.grown {w w' : World} {b off : Nat} {cs : List Value} {row : Option Nat} (h : Lies w b off cs) (hg : w.grownBy w' row) (hne : some b ≠ row) : Lies w' b off cs := fun j c hj => by
  rw [hg.cell_far ⟨b, off + j, none⟩ (block_lt_of_cell (h j c hj)) hne]; exact h j c hj
theorem Lies.lt {w : World} {b off : Nat} {cs : List Value} (h : Lies w b off cs) (hn : cs ≠ []) : b < w.heap.size := by
  cases cs with
  | nil => exact absurd rfl hn
  | cons c r => exact block_lt_of_cell (h 0 c rfl)
theorem lies_new (w : World) (cs : List Value) (t : TypeId) : Lies (w.alloc (.cells cs.toArray t)) w.heap.size 0 cs := fun j c hj => by
  simp
  simpa using hj
/-- a variable of some cells, alone in its block -/
def Var (w : World) (k : Nat) (t : TypeId) (cs : List Value) : Prop := w.heap[k]? = some (.cells cs.toArray t (0, 0))
theorem Var.lt {w : World} {k : Nat} {t : TypeId} {cs : List Value} (h : Var w k t cs) : k < w.heap.size := (Array.getElem?_eq_some_iff.1 h).1
theorem Var.lies {w : World} {k : Nat} {t : TypeId} {cs : List Value} (h : Var w k t cs) : Lies w k 0 cs := fun j c hj => by
  unfold Var at h
  rw [Nat.zero_add]
  simp [World.cell?, h, hj]
theorem Var.cell {w : World} {k : Nat} {t : TypeId} {cs : List Value} (h : Var w k t cs) {j : Nat} {c : Value} (hj : cs[j]? = some c) : w.cell? ⟨k, j, none⟩ = some c := by
  have := h.lies j c hj
  rwa [Nat.zero_add] at this
theorem Var.frozen {w : World} {k : Nat} {t : TypeId} {cs : List Value} (h : Var w k t cs) (j : Nat) : w.frozen? ⟨k, j, none⟩ = false := by
  unfold Var at h
  simp [World.frozen?, h]
theorem Var.below {w w' : World} {k B : Nat} {t : TypeId} {cs : List Value} (h : Var w k t cs) (hb : Below B w w') (hk : k < B) : Var w' k t cs := by
  unfold Var at h ⊢; rw [hb.block k hk]; exact h
theorem Var.kept {w w' : World} {k : Nat} {t : TypeId} {cs : List Value} {row : Option Nat} (h : Var w k t cs) (hg : w.grownBy w' row) (hr : row ≠ some k) : Var w' k t cs := by
  unfold Var at h ⊢
  rw [hg.block _ (Array.getElem?_eq_some_iff.1 h).1 (Ne.symm hr)]; exact h
theorem Var.new (w : World) (t : TypeId) (cs : List Value) : Var (w.alloc (.cells cs.toArray t)) w.heap.size t cs := by
  unfold Var
  rw [show (w.alloc (.cells cs.toArray t)).heap = w.heap.push (.cells cs.toArray t) from rfl, Array.getElem?_push_size]
theorem Var.alloc {w : World} {k : Nat} {t : TypeId} {cs : List Value} (h : Var w k t cs) (o : Obj) : Var (w.alloc o) k t cs := h.below ((Below.refl _ _).alloc (Nat.le_refl _) o) h.lt
theorem Var.set {w : World} {k : Nat} {t : TypeId} {cs : List Value} (h : Var w k t cs) (j : Nat) (v : Value) : Var (w.setCell ⟨k, j, none⟩ v) k t (cs.set j v) := by
  unfold Var at h ⊢
  simp only [World.setCell]
  rw [Array.getElem?_modify, if_pos rfl, h]
  simp
theorem grown_set (w : World) (p : Addr) (v : Value) : w.grownBy (w.setCell p v) (some p.block) := by
  refine ⟨rfl, rfl, rfl, by simp [World.setCell], fun k _ hk => ?_⟩
  exact Below.heap_setCell w p v k (fun e => hk (by rw [e]))
theorem grown_alloc (w : World) (o : Obj) : w.grownBy (w.alloc o) none := by
  have h := (Below.refl w.heap.size w).alloc (Nat.le_refl _) o
  exact ⟨h.os, h.tape, h.output, h.size, fun k hk _ => h.block k hk⟩
theorem grown_below {w w' : World} (hb : Below w.heap.size w w') : w.grownBy w' none := ⟨hb.os, hb.tape, hb.output, hb.size, fun k hk _ => hb.block k hk⟩
/-- a is the place of a row of these cells (or there are none) -/
def At (w : World) (a : Option Addr) (cs : List Value) : Prop := cs = [] ∨ ∃ b off, a = some ⟨b, off, none⟩ ∧ Lies w b off cs
theorem At.below {w w' : World} {a : Option Addr} {cs : List Value} (h : At w a cs) (hb : Below w.heap.size w w') : At w' a cs := by
  rcases h with h | ⟨b, off, ha, hl⟩
  · exact .inl h
  · exact .inr ⟨b, off, ha, hl.below hb⟩
theorem At.alloc {w : World} {a : Option Addr} {cs : List Value} (h : At w a cs) (o : Obj) : At (w.alloc o) a cs := h.below ((Below.refl _ _).alloc (Nat.le_refl _) o)
theorem At.draw {w w' : World} {a : Option Addr} {cs : List Value} (h : At w a cs) (hd : ∃ k, w' = w.drewN k) : At w' a cs := by
  obtain ⟨k, rfl⟩ := hd; exact h
theorem At.grown {w w' : World} {a : Option Addr} {cs : List Value} {row : Option Nat} (h : At w a cs) (hg : w.grownBy w' row) (hne : ∀ b off, a = some ⟨b, off, none⟩ → some b ≠ row) : At w' a cs := by
  rcases h with h | ⟨b, off, ha, hl⟩
  · exact .inl h
  · exact .inr ⟨b, off, ha, hl.grown hg (hne b off ha)⟩
theorem At.of_owns {w : World} {base : Nat} {e : TypeId} {size : Nat} {a : Option Addr} {n m c : Nat} {xs : List Value} (h : w.ownsRow base e size (.slice a m c) n xs) : At w a xs := by
  obtain ⟨hl, hv⟩ := h
  rcases hv with ⟨hv, rfl⟩ | ⟨g, cap, cur, hv, _, hb, hn, _, hs, ht⟩
  · left; rw [Nat.zero_mul] at hl; exact List.length_eq_zero_iff.1 hl
  · simp only [Value.slice.injEq] at hv
    obtain ⟨rfl, _, _⟩ := hv
    refine .inr ⟨g, 0, rfl, fun j x hx => ?_⟩
    have hj : j < n * size := by rw [← hl]; exact (List.getElem?_eq_some_iff.1 hx).1
    rw [← ht, List.getElem?_take_of_lt hj] at hx
    have hx' : cur[j]? = some x := by simpa using hx
    simp [World.cell?, hb, hx']
theorem owns_slice {w : World} {base : Nat} {e : TypeId} {size : Nat} {v : Value} {n : Nat} {xs : List Value} (h : w.ownsRow base e size v n xs) : ∃ a c, v = .slice a n c := by
  rcases h.2 with ⟨rfl, rfl⟩ | ⟨g, cap, cur, rfl, _⟩
  · exact ⟨none, 0, rfl⟩
  · exact ⟨_, _, rfl⟩
theorem owns_block {w : World} {base : Nat} {e : TypeId} {size : Nat} {a : Option Addr} {n m c : Nat} {xs : List Value} (h : w.ownsRow base e size (.slice a m c) n xs) : ∀ b off, a = some ⟨b, off, none⟩ → (Value.slice a m c).ownBlock = some b ∧ off = 0 ∧ base ≤ b ∧ b < w.heap.size := by
  intro b off hb
  rcases h.2 with ⟨hv, _⟩ | ⟨g, cap, cur, hv, hg, hh, _⟩
  · simp only [Value.slice.injEq] at hv; rw [hb] at hv; simp at hv
  · simp only [Value.slice.injEq] at hv
    obtain ⟨ha, _, _⟩ := hv
    rw [hb] at ha
    simp only [Option.some.injEq, Addr.mk.injEq] at ha
    obtain ⟨rfl, rfl, _⟩ := ha
    subst hb
    exact ⟨rfl, rfl, hg, (Array.getElem?_eq_some_iff.1 hh).1⟩
theorem owns_base {w : World} {base b : Nat} {e : TypeId} {size : Nat} {v : Value} {n : Nat} {xs : List Value} (h : w.ownsRow base e size v n xs) (hb : b ≤ base) : w.ownsRow b e size v n xs := by
  refine ⟨h.1, ?_⟩
  rcases h.2 with hn | ⟨g, cap, cur, e, hg, r⟩
  · exact .inl hn
  · exact .inr ⟨g, cap, cur, e, Nat.le_trans hb hg, r⟩
/-- a value of some cells is appended to a row of one's own -/
theorem append_tup {P : Program} {w : World} {ops : Array Oper} {rest : List Oper} {o : Oper} {a : Act} {Q : Exit → Act → World → Prop} (hgd : o.guard = none) (s x : Operand) (t : TypeId)
    (ho : o.op = .call { callee := .builtin .append, args := #[s, x], argTypes := #[t, t] })
    (base : Nat) (e : TypeId) (z : Value) (size bytes : Nat) (ht : P.underlying t = some (.slice e)) (hinfo : (P.info? e).map (fun i => (i.zero, i.size, i.bytes)) = some (some z, size, bytes)) (hz : z.cells.size = size) (h0 : 0 < size)
    (v : Value) (n : Nat) (xs : List Value) (hs : a.eval s = v) (hown : w.ownsRow base e size v n xs) (g0 : Nat) (cs : List Value) (hcs : cs.length = size) (hx : a.eval x = .slice (some ⟨g0, 0, none⟩) 1 1)
    (hc : Lies w g0 0 cs) (hone : ∀ u ∈ cs, u.oneCell' = true)
    (hlen : (n + 1) * bytes ≤ 140737488355328) (hmax : n + 1 ≤ maxLen) (hbase : base ≤ w.heap.size)
    (h : ∀ g cap w', w'.ownsRow base e size (.slice (some ⟨g, 0, none⟩) (n + 1) cap) (n + 1) (xs ++ cs) → w.grownBy w' v.ownBlock → (v.ownBlock = some g ∨ g = w.heap.size) → g < w'.heap.size → wpList P ops Q rest (a.put o.dst (.slice (some ⟨g, 0, none⟩) (n + 1) cap)) w') :
    wpList P ops Q (o :: rest) a w := by
  obtain ⟨i, hi, hz0, hs1, hb⟩ := info_parts hinfo
  refine wpList_append_lies w hgd s x t ho base e i z size bytes ht hi hz0 hs1 hb hz h0 v n xs hs hown ⟨g0, 0, none⟩ 1 1 cs hx (by rw [hcs]; omega) ?_ hone (by omega) hmax hlen hbase _ rfl h
  intro j u hj
  rw [show (⟨g0, 0, none⟩ : Addr).add j = ⟨g0, 0 + j, none⟩ by unfold Addr.add; split <;> simp_all]
  exact hc j u hj
end Go.Proofs.YtcmjambbdfangaaGreat.Tup
/-
  Rows of values of several cells: whole rows appended, cells written.
-/
set_option linter.unusedVariables false
set_option linter.unusedSimpArgs false
namespace Go.Proofs.YtcmjambbdfangaaGreat.Tup
open Go.RowKit
open Own
/-- a row is appended to another one -/
theorem append_rows {P : Program} {w : World} {ops : Array Oper} {rest : List Oper} {o : Oper} {a : Act} {Q : Exit → Act → World → Prop} (hgd : o.guard = none) (s x : Operand) (t : TypeId)
    (ho : o.op = .call { callee := .builtin .append, args := #[s, x], argTypes := #[t, t] })
    (base : Nat) (e : TypeId) (z : Value) (size bytes : Nat) (ht : P.underlying t = some (.slice e)) (hinfo : (P.info? e).map (fun i => (i.zero, i.size, i.bytes)) = some (some z, size, bytes)) (hz : z.cells.size = size) (h0 : 0 < size)
    (v : Value) (n : Nat) (xs : List Value) (hs : a.eval s = v) (hown : w.ownsRow base e size v n xs) (y : Value) (m b2 : Nat) (news : List Value) (hx : a.eval x = y) (hsrc : w.ownsRow b2 e size y m news) (hone : ∀ u ∈ news, u.oneCell' = true)
    (hlen : (n + m) * bytes ≤ 140737488355328) (hmax : n + m ≤ maxLen) (hbase : base ≤ w.heap.size)
    (h : ∀ v' w', w'.ownsRow base e size v' (n + m) (xs ++ news) → w.grownBy w' v.ownBlock → (v'.ownBlock = v.ownBlock ∨ v'.ownBlock = some w.heap.size) → wpList P ops Q rest (a.put o.dst v') w') :
    wpList P ops Q (o :: rest) a w := by
  have key : ∃ v' w', (Builtin.append_ #[t, t] o.type #[v, y]).run P w = .ok v' w' ∧ w'.ownsRow base e size v' (n + m) (xs ++ news) ∧ w.grownBy w' v.ownBlock ∧ (v'.ownBlock = v.ownBlock ∨ v'.ownBlock = some w.heap.size) := by
    obtain ⟨i, hi, hz0, hs1, hb⟩ := info_parts hinfo
    rcases hsrc.2 with ⟨rfl, rfl⟩ | ⟨g, cap, cur, rfl, _⟩
    · have hn : news = [] := List.length_eq_zero_iff.1 (by rw [hsrc.1]; omega)
      subst hn
      exact ⟨v, w, run_append_owned_none (P := P) (w := w) base t o.type e i size ht hi v n xs hown, by rw [List.append_nil]; exact hown, ⟨rfl, rfl, rfl, Nat.le_refl _, fun _ _ _ => rfl⟩, .inl rfl⟩
    · obtain ⟨v', w', hr, k2, k3, _, k5⟩ := run_append_own_at (P := P) w base t o.type e i z size bytes ht hi hz0 hs1 hb hz h0 v n xs hown ⟨g, 0, none⟩ m cap news hsrc.1 (fun j u hj => by
          rcases At.of_owns hsrc with hn | ⟨b, off, ha, hl⟩
          · rw [hn] at hj; simp at hj
          · simp only [Option.some.injEq, Addr.mk.injEq, and_true] at ha
            obtain ⟨rfl, rfl⟩ := ha
            rw [show (⟨g, 0, none⟩ : Addr).add j = ⟨g, 0 + j, none⟩ by unfold Addr.add; split <;> simp_all]
            exact hl j u hj) hone hmax hlen hbase
      exact ⟨v', w', hr, k2, k3, k5⟩
  obtain ⟨v', w', hr, k1, k2, k3⟩ := key
  refine wpList_plain hgd fun K hK => ?_
  unfold Oper.wp
  simp only [execOp, ho, resolve, invoke, builtin, Sem.run_bind, Sem.run_pure, Result.andThen_ok, List.map_toArray, List.map_cons, List.map_nil, hs, hx, hr]
  exact hK _ _ (h v' w' k1 k2 k3)
/-- a cell of a row of one's own is written -/
theorem owns_set {w : World} {base : Nat} {e : TypeId} {size : Nat} {g n cap : Nat} {xs : List Value} (h : w.ownsRow base e size (.slice (some ⟨g, 0, none⟩) n cap) n xs) (j : Nat) (u : Value) : (w.setCell ⟨g, j, none⟩ u).ownsRow base e size (.slice (some ⟨g, 0, none⟩) n cap) n (xs.set j u) := by
  refine ⟨by rw [List.length_set]; exact h.1, ?_⟩
  rcases h.2 with ⟨hv, _⟩ | ⟨g', cap', cur, hv, hg, hh, hn, h4, hs, ht⟩
  · simp at hv
  · simp only [Value.slice.injEq, Option.some.injEq, Addr.mk.injEq, and_true] at hv
    obtain ⟨rfl, _, rfl⟩ := hv
    refine .inr ⟨g, cap, cur.setIfInBounds j u, rfl, hg, ?_, hn, h4, by simpa using hs, ?_⟩
    · simp only [World.setCell]
      rw [Array.getElem?_modify, if_pos rfl, hh]; rfl
    · rw [← ht, Array.toList_setIfInBounds, List.take_set]
end Go.Proofs.YtcmjambbdfangaaGreat.Tup
/-
  What a call turns: the blocks of a set, and new ones. Nothing of the program.
-/
set_option linter.unusedVariables false
set_option linter.unusedSimpArgs false
namespace Go.Proofs.YtcmjambbdfangaaGreat.Foot
open Go.RowKit
open Own Tup

/-- no block but those of S, and new ones, has turned -/
structure Grows (S : Nat → Prop) (w w' : World) : Prop where
  os : w'.os = w.os
  tape : w'.tape = w.tape
  output : w'.output = w.output
  size : w.heap.size ≤ w'.heap.size
  block : ∀ k, k < w.heap.size → ¬ S k → w'.heap[k]? = w.heap[k]?
theorem Grows.refl (S : Nat → Prop) (w : World) : Grows S w w := ⟨rfl, rfl, rfl, Nat.le_refl _, fun _ _ _ => rfl⟩
theorem Grows.of_below {S : Nat → Prop} {w w' : World} (h : Below w.heap.size w w') : Grows S w w' := ⟨h.os, h.tape, h.output, h.size, fun k hk _ => h.block k hk⟩
theorem Grows.mono {S S' : Nat → Prop} {w w' : World} (h : Grows S w w') (hs : ∀ k, S k → S' k) : Grows S' w w' := ⟨h.os, h.tape, h.output, h.size, fun k hk hn => h.block k hk fun x => hn (hs k x)⟩
theorem Grows.trans {S S' : Nat → Prop} {w w1 w2 : World} (h : Grows S w w1) (k : Grows S' w1 w2) (hs : ∀ j, S' j → S j ∨ w.heap.size ≤ j) : Grows S w w2 :=
  ⟨k.os.trans h.os, k.tape.trans h.tape, k.output.trans h.output, Nat.le_trans h.size k.size, fun j hj hn => (k.block j (Nat.lt_of_lt_of_le hj h.size) fun x => by
    rcases hs j x with y | y
    · exact hn y
    · omega).trans (h.block j hj hn)⟩
theorem Grows.below {S : Nat → Prop} {B : Nat} {w w' : World} (h : Grows S w w') (hB : B ≤ w.heap.size) (hs : ∀ k, S k → B ≤ k) : Below B w w' :=
  ⟨h.os, h.tape, h.output, h.size, fun k hk => h.block k (by omega) fun x => by have := hs k x; omega⟩
theorem Grows.alloc (S : Nat → Prop) (w : World) (o : Obj) : Grows S w (w.alloc o) := .of_below ((Below.refl _ _).alloc (Nat.le_refl _) o)
theorem Grows.set {S : Nat → Prop} (w : World) (p : Addr) (v : Value) (h : S p.block) : Grows S w (w.setCell p v) := by
  have g := grown_set w p v
  exact ⟨g.os, g.tape, g.output, g.size, fun k hk hn => g.block k hk fun e => hn (by cases e; exact h)⟩
theorem Grows.grown {S : Nat → Prop} {w w' : World} {row : Option Nat} (g : w.grownBy w' row) (h : ∀ k, row = some k → S k) : Grows S w w' :=
  ⟨g.os, g.tape, g.output, g.size, fun k hk hn => g.block k hk fun e => hn (h k e.symm)⟩
theorem Grows.var {S : Nat → Prop} {w w' : World} {k : Nat} {t : TypeId} {cs : List Value} (g : Grows S w w') (h : Var w k t cs) (hn : ¬ S k) : Var w' k t cs := by
  have hl := h.lt
  unfold Var at h ⊢
  rw [g.block k hl hn]; exact h
theorem Grows.cell {S : Nat → Prop} {w w' : World} {p : Addr} {x : Value} (g : Grows S w w') (h : w.cell? p = some x) (hn : ¬ S p.block) : w'.cell? p = some x := by
  have hl := block_lt_of_cell h
  simp only [World.cell?] at h ⊢
  rw [g.block p.block hl hn]; exact h
theorem Grows.at {S : Nat → Prop} {w w' : World} {a : Option Addr} {cs : List Value} (g : Grows S w w') (h : At w a cs) (hn : ∀ b off, a = some ⟨b, off, none⟩ → ¬ S b) : At w' a cs := by
  rcases h with h | ⟨b, off, ha, hl⟩
  · exact .inl h
  · exact .inr ⟨b, off, ha, fun j c hj => g.cell (p := ⟨b, off + j, none⟩) (hl j c hj) (hn b off ha)⟩
/-- behind a call the set is the old one, of which blocks may be given up, and new blocks -/
structure After (S : Nat → Prop) (w w' : World) (S' : Nat → Prop) : Prop where
  grows : Grows S w w'
  foot : ∀ k, S' k → S k ∨ w.heap.size ≤ k
theorem After.trans {S S1 S2 : Nat → Prop} {w w1 w2 : World} (h : After S w w1 S1) (k : After S1 w1 w2 S2) : After S w w2 S2 :=
  ⟨h.grows.trans k.grows h.foot, fun j hj => by
    rcases k.foot j hj with x | x
    · exact h.foot j x
    · exact .inr (Nat.le_trans h.grows.size x)⟩
theorem After.refl (S : Nat → Prop) (w : World) : After S w w S := ⟨.refl _ _, fun _ h => .inl h⟩
/-- .. a set that lies beyond a block lies so still -/
theorem After.beyond {S S' : Nat → Prop} {B : Nat} {w w' : World} (h : After S w w' S') (hB : B ≤ w.heap.size) (hs : ∀ k, S k → B ≤ k) : ∀ k, S' k → B ≤ k := fun k hk => by
  rcases h.foot k hk with x | x
  · exact hs k x
  · omega
/-- .. and one that is apart from another one is so still -/
theorem After.apart {S S' T : Nat → Prop} {w w' : World} (h : After S w w' S') (hT : ∀ k, T k → k < w.heap.size) (hs : ∀ k, S k → ¬ T k) : ∀ k, S' k → ¬ T k := fun k hk ht => by
  rcases h.foot k hk with x | x
  · exact hs k x ht
  · have := hT k ht; omega
end Go.Proofs.YtcmjambbdfangaaGreat.Foot
