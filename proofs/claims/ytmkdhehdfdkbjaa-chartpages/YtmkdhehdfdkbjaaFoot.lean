/-
  What a call turns: the blocks of a set, and new ones. Nothing of the program.
-/
import Derived.Test.YtmkdhehdfdkbjaaTup2
set_option linter.unusedVariables false
set_option linter.unusedSimpArgs false
namespace Go.Proofs.Ytmkdhehdfdkbjaa.Foot
open Go.RowKit
open Own Tup

/-- no block but those of S, and new ones, has turned -/
structure Grows (S : Nat → Prop) (w w' : World) : Prop where
  os : w'.os = w.os
  tape : w'.tape = w.tape
  output : w'.output = w.output
  size : w.heap.size ≤ w'.heap.size
  block : ∀ k, k < w.heap.size → ¬ S k → w'.heap[k]? = w.heap[k]?
theorem Grows.refl (S : Nat → Prop) (w : World) : Grows S w w := ⟨rfl, rfl, rfl, Nat.le_refl _, fun _ _ _ => rfl⟩
theorem Grows.of_below {S : Nat → Prop} {w w' : World} (h : Below w.heap.size w w') : Grows S w w' := ⟨h.os, h.tape, h.output, h.size, fun k hk _ => h.block k hk⟩
theorem Grows.mono {S S' : Nat → Prop} {w w' : World} (h : Grows S w w') (hs : ∀ k, S k → S' k) : Grows S' w w' := ⟨h.os, h.tape, h.output, h.size, fun k hk hn => h.block k hk fun x => hn (hs k x)⟩
theorem Grows.trans {S S' : Nat → Prop} {w w1 w2 : World} (h : Grows S w w1) (k : Grows S' w1 w2) (hs : ∀ j, S' j → S j ∨ w.heap.size ≤ j) : Grows S w w2 :=
  ⟨k.os.trans h.os, k.tape.trans h.tape, k.output.trans h.output, Nat.le_trans h.size k.size, fun j hj hn => (k.block j (Nat.lt_of_lt_of_le hj h.size) fun x => by
    rcases hs j x with y | y
    · exact hn y
    · omega).trans (h.block j hj hn)⟩
theorem Grows.below {S : Nat → Prop} {B : Nat} {w w' : World} (h : Grows S w w') (hB : B ≤ w.heap.size) (hs : ∀ k, S k → B ≤ k) : Below B w w' :=
  ⟨h.os, h.tape, h.output, h.size, fun k hk => h.block k (by omega) fun x => by have := hs k x; omega⟩
theorem Grows.alloc (S : Nat → Prop) (w : World) (o : Obj) : Grows S w (w.alloc o) := .of_below ((Below.refl _ _).alloc (Nat.le_refl _) o)
theorem Grows.set {S : Nat → Prop} (w : World) (p : Addr) (v : Value) (h : S p.block) : Grows S w (w.setCell p v) := by
  have g := grown_set w p v
  exact ⟨g.os, g.tape, g.output, g.size, fun k hk hn => g.block k hk fun e => hn (by cases e; exact h)⟩
theorem Grows.grown {S : Nat → Prop} {w w' : World} {row : Option Nat} (g : w.grownBy w' row) (h : ∀ k, row = some k → S k) : Grows S w w' :=
  ⟨g.os, g.tape, g.output, g.size, fun k hk hn => g.block k hk fun e => hn (h k e.symm)⟩
theorem Grows.var {S : Nat → Prop} {w w' : World} {k : Nat} {t : TypeId} {cs : List Value} (g : Grows S w w') (h : Var w k t cs) (hn : ¬ S k) : Var w' k t cs := by
  have hl := h.lt
  unfold Var at h ⊢
  rw [g.block k hl hn]; exact h
theorem Grows.cell {S : Nat → Prop} {w w' : World} {p : Addr} {x : Value} (g : Grows S w w') (h : w.cell? p = some x) (hn : ¬ S p.block) : w'.cell? p = some x := by
  have hl := block_lt_of_cell h
  simp only [World.cell?] at h ⊢
  rw [g.block p.block hl hn]; exact h
theorem Grows.at {S : Nat → Prop} {w w' : World} {a : Option Addr} {cs : List Value} (g : Grows S w w') (h : At w a cs) (hn : ∀ b off, a = some ⟨b, off, none⟩ → ¬ S b) : At w' a cs := by
  rcases h with h | ⟨b, off, ha, hl⟩
  · exact .inl h
  · exact .inr ⟨b, off, ha, fun j c hj => g.cell (p := ⟨b, off + j, none⟩) (hl j c hj) (hn b off ha)⟩
/-- behind a call the set is the old one, of which blocks may be given up, and new blocks -/
structure After (S : Nat → Prop) (w w' : World) (S' : Nat → Prop) : Prop where
  grows : Grows S w w'
  foot : ∀ k, S' k → S k ∨ w.heap.size ≤ k
theorem After.trans {S S1 S2 : Nat → Prop} {w w1 w2 : World} (h : After S w w1 S1) (k : After S1 w1 w2 S2) : After S w w2 S2 :=
  ⟨h.grows.trans k.grows h.foot, fun j hj => by
    rcases k.foot j hj with x | x
    · exact h.foot j x
    · exact .inr (Nat.le_trans h.grows.size x)⟩
theorem After.refl (S : Nat → Prop) (w : World) : After S w w S := ⟨.refl _ _, fun _ h => .inl h⟩
/-- .. a set that lies beyond a block lies so still -/
theorem After.beyond {S S' : Nat → Prop} {B : Nat} {w w' : World} (h : After S w w' S') (hB : B ≤ w.heap.size) (hs : ∀ k, S k → B ≤ k) : ∀ k, S' k → B ≤ k := fun k hk => by
  rcases h.foot k hk with x | x
  · exact hs k x
  · omega
/-- .. and one that is apart from another one is so still -/
theorem After.apart {S S' T : Nat → Prop} {w w' : World} (h : After S w w' S') (hT : ∀ k, T k → k < w.heap.size) (hs : ∀ k, S k → ¬ T k) : ∀ k, S' k → ¬ T k := fun k hk ht => by
  rcases h.foot k hk with x | x
  · exact hs k x ht
  · have := hT k ht; omega
end Go.Proofs.Ytmkdhehdfdkbjaa.Foot
