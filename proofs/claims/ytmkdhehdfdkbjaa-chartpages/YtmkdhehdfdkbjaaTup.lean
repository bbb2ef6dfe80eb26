/-
  Rows of values of several cells. Nothing of the program's functions.
-/
import Derived.Test.YtmkdhehdfdkbjaaOwn
import Derived.Deep.DeepCutAuto
set_option linter.unusedVariables false
set_option linter.unusedSimpArgs false
namespace Go.Proofs.Ytmkdhehdfdkbjaa.Tup
open Go.RowKit
open Own

/-- from a place on these cells lie in memory -/
def Lies (w : World) (b off : Nat) (cs : List Value) : Prop := ∀ j c, cs[j]? = some c → w.cell? ⟨b, off + j, none⟩ = some c
theorem Lies.below {w w' : World} {b off : Nat} {cs : List Value} (h : Lies w b off cs) (hb : Below w.heap.size w w') : Lies w' b off cs := fun j c hj => by
  rw [hb.cell (p := ⟨b, off + j, none⟩) (block_lt_of_cell (h j c hj))]; exact h j c hj
theorem Lies.alloc {w : World} {b off : Nat} {cs : List Value} (h : Lies w b off cs) (o : Obj) : Lies (w.alloc o) b off cs := h.below ((Below.refl _ _).alloc (Nat.le_refl _) o)
theorem Lies.draw {w w' : World} {b off : Nat} {cs : List Value} (h : Lies w b off cs) (hd : ∃ k, w' = w.drewN k) : Lies w' b off cs := by
  obtain ⟨k, rfl⟩ := hd; exact h
theorem Lies.grown {w w' : World} {b off : Nat} {cs : List Value} {row : Option Nat} (h : Lies w b off cs) (hg : w.grownBy w' row) (hne : some b ≠ row) : Lies w' b off cs := fun j c hj => by
  rw [hg.cell_far ⟨b, off + j, none⟩ (block_lt_of_cell (h j c hj)) hne]; exact h j c hj
theorem Lies.lt {w : World} {b off : Nat} {cs : List Value} (h : Lies w b off cs) (hn : cs ≠ []) : b < w.heap.size := by
  cases cs with
  | nil => exact absurd rfl hn
  | cons c r => exact block_lt_of_cell (h 0 c rfl)
theorem lies_new (w : World) (cs : List Value) (t : TypeId) : Lies (w.alloc (.cells cs.toArray t)) w.heap.size 0 cs := fun j c hj => by
  simp
  simpa using hj
/-- a variable of some cells, alone in its block -/
def Var (w : World) (k : Nat) (t : TypeId) (cs : List Value) : Prop := w.heap[k]? = some (.cells cs.toArray t (0, 0))
theorem Var.lt {w : World} {k : Nat} {t : TypeId} {cs : List Value} (h : Var w k t cs) : k < w.heap.size := (Array.getElem?_eq_some_iff.1 h).1
theorem Var.lies {w : World} {k : Nat} {t : TypeId} {cs : List Value} (h : Var w k t cs) : Lies w k 0 cs := fun j c hj => by
  unfold Var at h
  rw [Nat.zero_add]
  simp [World.cell?, h, hj]
theorem Var.cell {w : World} {k : Nat} {t : TypeId} {cs : List Value} (h : Var w k t cs) {j : Nat} {c : Value} (hj : cs[j]? = some c) : w.cell? ⟨k, j, none⟩ = some c := by
  have := h.lies j c hj
  rwa [Nat.zero_add] at this
theorem Var.frozen {w : World} {k : Nat} {t : TypeId} {cs : List Value} (h : Var w k t cs) (j : Nat) : w.frozen? ⟨k, j, none⟩ = false := by
  unfold Var at h
  simp [World.frozen?, h]
theorem Var.below {w w' : World} {k B : Nat} {t : TypeId} {cs : List Value} (h : Var w k t cs) (hb : Below B w w') (hk : k < B) : Var w' k t cs := by
  unfold Var at h ⊢; rw [hb.block k hk]; exact h
theorem Var.kept {w w' : World} {k : Nat} {t : TypeId} {cs : List Value} {row : Option Nat} (h : Var w k t cs) (hg : w.grownBy w' row) (hr : row ≠ some k) : Var w' k t cs := by
  unfold Var at h ⊢
  rw [hg.block _ (Array.getElem?_eq_some_iff.1 h).1 (Ne.symm hr)]; exact h
theorem Var.new (w : World) (t : TypeId) (cs : List Value) : Var (w.alloc (.cells cs.toArray t)) w.heap.size t cs := by
  unfold Var
  rw [show (w.alloc (.cells cs.toArray t)).heap = w.heap.push (.cells cs.toArray t) from rfl, Array.getElem?_push_size]
theorem Var.alloc {w : World} {k : Nat} {t : TypeId} {cs : List Value} (h : Var w k t cs) (o : Obj) : Var (w.alloc o) k t cs := h.below ((Below.refl _ _).alloc (Nat.le_refl _) o) h.lt
theorem Var.set {w : World} {k : Nat} {t : TypeId} {cs : List Value} (h : Var w k t cs) (j : Nat) (v : Value) : Var (w.setCell ⟨k, j, none⟩ v) k t (cs.set j v) := by
  unfold Var at h ⊢
  simp only [World.setCell]
  rw [Array.getElem?_modify, if_pos rfl, h]
  simp
theorem grown_set (w : World) (p : Addr) (v : Value) : w.grownBy (w.setCell p v) (some p.block) := by
  refine ⟨rfl, rfl, rfl, by simp [World.setCell], fun k _ hk => ?_⟩
  exact Below.heap_setCell w p v k (fun e => hk (by rw [e]))
theorem grown_alloc (w : World) (o : Obj) : w.grownBy (w.alloc o) none := by
  have h := (Below.refl w.heap.size w).alloc (Nat.le_refl _) o
  exact ⟨h.os, h.tape, h.output, h.size, fun k hk _ => h.block k hk⟩
theorem grown_below {w w' : World} (hb : Below w.heap.size w w') : w.grownBy w' none := ⟨hb.os, hb.tape, hb.output, hb.size, fun k hk _ => hb.block k hk⟩
/-- a is the place of a row of these cells (or there are none) -/
def At (w : World) (a : Option Addr) (cs : List Value) : Prop := cs = [] ∨ ∃ b off, a = some ⟨b, off, none⟩ ∧ Lies w b off cs
theorem At.below {w w' : World} {a : Option Addr} {cs : List Value} (h : At w a cs) (hb : Below w.heap.size w w') : At w' a cs := by
  rcases h with h | ⟨b, off, ha, hl⟩
  · exact .inl h
  · exact .inr ⟨b, off, ha, hl.below hb⟩
theorem At.alloc {w : World} {a : Option Addr} {cs : List Value} (h : At w a cs) (o : Obj) : At (w.alloc o) a cs := h.below ((Below.refl _ _).alloc (Nat.le_refl _) o)
theorem At.draw {w w' : World} {a : Option Addr} {cs : List Value} (h : At w a cs) (hd : ∃ k, w' = w.drewN k) : At w' a cs := by
  obtain ⟨k, rfl⟩ := hd; exact h
theorem At.grown {w w' : World} {a : Option Addr} {cs : List Value} {row : Option Nat} (h : At w a cs) (hg : w.grownBy w' row) (hne : ∀ b off, a = some ⟨b, off, none⟩ → some b ≠ row) : At w' a cs := by
  rcases h with h | ⟨b, off, ha, hl⟩
  · exact .inl h
  · exact .inr ⟨b, off, ha, hl.grown hg (hne b off ha)⟩
theorem At.of_owns {w : World} {base : Nat} {e : TypeId} {size : Nat} {a : Option Addr} {n m c : Nat} {xs : List Value} (h : w.ownsRow base e size (.slice a m c) n xs) : At w a xs := by
  obtain ⟨hl, hv⟩ := h
  rcases hv with ⟨hv, rfl⟩ | ⟨g, cap, cur, hv, _, hb, hn, _, hs, ht⟩
  · left; rw [Nat.zero_mul] at hl; exact List.length_eq_zero_iff.1 hl
  · simp only [Value.slice.injEq] at hv
    obtain ⟨rfl, _, _⟩ := hv
    refine .inr ⟨g, 0, rfl, fun j x hx => ?_⟩
    have hj : j < n * size := by rw [← hl]; exact (List.getElem?_eq_some_iff.1 hx).1
    rw [← ht, List.getElem?_take_of_lt hj] at hx
    have hx' : cur[j]? = some x := by simpa using hx
    simp [World.cell?, hb, hx']
theorem owns_slice {w : World} {base : Nat} {e : TypeId} {size : Nat} {v : Value} {n : Nat} {xs : List Value} (h : w.ownsRow base e size v n xs) : ∃ a c, v = .slice a n c := by
  rcases h.2 with ⟨rfl, rfl⟩ | ⟨g, cap, cur, rfl, _⟩
  · exact ⟨none, 0, rfl⟩
  · exact ⟨_, _, rfl⟩
theorem owns_block {w : World} {base : Nat} {e : TypeId} {size : Nat} {a : Option Addr} {n m c : Nat} {xs : List Value} (h : w.ownsRow base e size (.slice a m c) n xs) : ∀ b off, a = some ⟨b, off, none⟩ → (Value.slice a m c).ownBlock = some b ∧ off = 0 ∧ base ≤ b ∧ b < w.heap.size := by
  intro b off hb
  rcases h.2 with ⟨hv, _⟩ | ⟨g, cap, cur, hv, hg, hh, _⟩
  · simp only [Value.slice.injEq] at hv; rw [hb] at hv; simp at hv
  · simp only [Value.slice.injEq] at hv
    obtain ⟨ha, _, _⟩ := hv
    rw [hb] at ha
    simp only [Option.some.injEq, Addr.mk.injEq] at ha
    obtain ⟨rfl, rfl, _⟩ := ha
    subst hb
    exact ⟨rfl, rfl, hg, (Array.getElem?_eq_some_iff.1 hh).1⟩
theorem owns_base {w : World} {base b : Nat} {e : TypeId} {size : Nat} {v : Value} {n : Nat} {xs : List Value} (h : w.ownsRow base e size v n xs) (hb : b ≤ base) : w.ownsRow b e size v n xs := by
  refine ⟨h.1, ?_⟩
  rcases h.2 with hn | ⟨g, cap, cur, e, hg, r⟩
  · exact .inl hn
  · exact .inr ⟨g, cap, cur, e, Nat.le_trans hb hg, r⟩
/-- a value of some cells is appended to a row of one's own -/
theorem append_tup {P : Program} {w : World} {ops : Array Oper} {rest : List Oper} {o : Oper} {a : Act} {Q : Exit → Act → World → Prop} (hgd : o.guard = none) (s x : Operand) (t : TypeId)
    (ho : o.op = .call { callee := .builtin .append, args := #[s, x], argTypes := #[t, t] })
    (base : Nat) (e : TypeId) (z : Value) (size bytes : Nat) (ht : P.underlying t = some (.slice e)) (hinfo : (P.info? e).map (fun i => (i.zero, i.size, i.bytes)) = some (some z, size, bytes)) (hz : z.cells.size = size) (h0 : 0 < size)
    (v : Value) (n : Nat) (xs : List Value) (hs : a.eval s = v) (hown : w.ownsRow base e size v n xs) (g0 : Nat) (cs : List Value) (hcs : cs.length = size) (hx : a.eval x = .slice (some ⟨g0, 0, none⟩) 1 1)
    (hc : Lies w g0 0 cs) (hone : ∀ u ∈ cs, u.oneCell' = true)
    (hlen : (n + 1) * bytes ≤ 140737488355328) (hmax : n + 1 ≤ maxLen) (hbase : base ≤ w.heap.size)
    (h : ∀ g cap w', w'.ownsRow base e size (.slice (some ⟨g, 0, none⟩) (n + 1) cap) (n + 1) (xs ++ cs) → w.grownBy w' v.ownBlock → (v.ownBlock = some g ∨ g = w.heap.size) → g < w'.heap.size → wpList P ops Q rest (a.put o.dst (.slice (some ⟨g, 0, none⟩) (n + 1) cap)) w') :
    wpList P ops Q (o :: rest) a w := by
  obtain ⟨i, hi, hz0, hs1, hb⟩ := info_parts hinfo
  refine wpList_append_lies w hgd s x t ho base e i z size bytes ht hi hz0 hs1 hb hz h0 v n xs hs hown ⟨g0, 0, none⟩ 1 1 cs hx (by rw [hcs]; omega) ?_ hone (by omega) hmax hlen hbase _ rfl h
  intro j u hj
  rw [show (⟨g0, 0, none⟩ : Addr).add j = ⟨g0, 0 + j, none⟩ by unfold Addr.add; split <;> simp_all]
  exact hc j u hj
end Go.Proofs.Ytmkdhehdfdkbjaa.Tup
