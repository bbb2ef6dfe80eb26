/-
  A strings.Builder that a call makes for itself, from one write to the next.
-/
import Derived.Test.YtlpjgfafecpbgaaBuild
set_option linter.unusedVariables false
set_option linter.unusedSimpArgs false
namespace Go.Proofs.Ytlpjgfafecpbgaa.Build
open Go.RowKit
open Own

theorem Bld.belowW {B b : Nat} {l : List UInt8} {w w' : World} (h : Bld B b l w) (hb : Below w.heap.size w w') : Bld B b l w' := by
  have hg : w.grownBy w' none := ⟨hb.os, hb.tape, hb.output, hb.size, fun k hk _ => hb.block k hk⟩
  have key : ∀ p, Lib.BuilderAtF TB TY B b p (Lib.byteCells l) w → Lib.BuilderAtF TB TY B b p (Lib.byteCells l) w' := by
    rintro p ⟨hB, v, h1, h2, h3⟩
    refine ⟨hB, v, ?_, h2.kept hg ?_, h3⟩
    · rw [hb.block b (Array.getElem?_eq_some_iff.1 h1).1]; exact h1
    · cases v.ownBlock with
      | none => exact .inl rfl
      | some k => right; simp
  rcases h with h | h
  · exact .inl (key _ h)
  · exact .inr (key _ h)
/-- behind world v there is a builder, made as its first block, that holds these bytes; all that was there ahead is as it was -/
structure Wr (v : World) (l : List UInt8) (w : World) : Prop where
  bld : Bld v.heap.size v.heap.size l w
  below : Below v.heap.size v w
theorem Wr.new (v : World) : Wr v [] (v.alloc (.cells #[.pointer none, .slice none 0 0] TB)) := ⟨Bld.new v, (Below.refl _ _).alloc (Nat.le_refl _) _⟩
theorem Wr.grow {v w w' : World} {l : List UInt8} (h : Wr v l w) (hb : Below w.heap.size w w') : Wr v l w' := ⟨h.bld.belowW hb, h.below.trans (hb.mono h.below.size)⟩
theorem Wr.byte {v w : World} {l : List UInt8} (h : Wr v l w) (c : UInt8) (ci : Int) (hci : ci = (c.toNat : Int)) (hlen : l.length + 1 ≤ 140737488355328) :
    Calls Try.prog 28 #[.pointer (some ⟨v.heap.size, 0, none⟩), .int .u8 ci] w fun e w' => e = .returned .nilIface ∧ Wr v (l ++ [c]) w' :=
  (byte_any v.heap.size v.heap.size l c ci hci w h.bld hlen h.below.size).mono fun _ _ x => ⟨x.1, x.2.1, h.below.trans x.2.2.1⟩
theorem Wr.text {v w : World} {l : List UInt8} (h : Wr v l w) (s : ByteArray) (hlen : l.length + s.size ≤ 140737488355328) :
    Calls Try.prog 29 #[.pointer (some ⟨v.heap.size, 0, none⟩), .string s] w fun e w' => e = .returned (.tuple #[.int .i64 s.size, .nilIface]) ∧ Wr v (l ++ s.data.toList) w' :=
  (write_any v.heap.size v.heap.size l s w h.bld hlen h.below.size).mono fun _ _ x => ⟨x.1, x.2.1, h.below.trans x.2.2.1⟩
theorem Wr.str {v w : World} {l : List UInt8} (h : Wr v l w) :
    Calls Try.prog 33 #[.pointer (some ⟨v.heap.size, 0, none⟩)] w fun e w' => e = .returned (.string ⟨l.toArray⟩) ∧ Wr v l w' :=
  (string_any v.heap.size v.heap.size l w h.bld h.below.size).mono fun _ _ x => ⟨x.1, x.2.1, h.below.trans x.2.2.1⟩
theorem Wr.len {v w : World} {l : List UInt8} (h : Wr v l w) :
    Calls Try.prog 31 #[.pointer (some ⟨v.heap.size, 0, none⟩)] w fun e w' => e = .returned (.int .i64 l.length) ∧ w = w' :=
  (Try.Builder_Len_f v.heap.size v.heap.size (Lib.byteCells l) w h.bld).mono fun _ _ x => ⟨by rw [x.1]; simp [Lib.byteCells], x.2.symm⟩
/-- how many bytes the builder in block b holds -/
def sliceLen : Option Value → Nat
  | some (.slice _ n _) => n
  | _ => 0
def bldLen (b : Nat) (w : World) : Nat := match w.heap[b]? with | some (.cells cs _ _) => sliceLen cs[1]? | _ => 0
theorem Bld.len {B b : Nat} {l : List UInt8} {w : World} (h : Bld B b l w) : bldLen b w = l.length := by
  have hl : (Lib.byteCells l).length = l.length := by simp [Lib.byteCells]
  have key : ∀ p, Lib.BuilderAtF TB TY B b p (Lib.byteCells l) w → bldLen b w = l.length := by
    rintro p ⟨hB, v, h1, h2, h3⟩
    unfold bldLen
    rw [h1]
    rcases h2.2 with ⟨hv, h0⟩ | ⟨g, cap, cur, fz, hv, _⟩
    · subst hv; rw [← hl, h0]; rfl
    · subst hv; rw [← hl]; rfl
  rcases h with h | h
  · exact key _ h
  · exact key _ h
end Go.Proofs.Ytlpjgfafecpbgaa.Build
