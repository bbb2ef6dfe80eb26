/-
  Arguments that are frames, arrays of three, opened.
-/
import Derived.Test.YtcmjambbdfangaaGreatRunRefFrame
import Derived.Lib.SmallJoins
import Derived.ChangeArms
import Derived.ChangeSame
set_option linter.unusedVariables false
set_option linter.unusedSimpArgs false
namespace Go.Proofs.YtcmjambbdfangaaGreat.Frame
open Go.ChangeShapes Go.WideShapes Go.ChangeAt Go.RowKit
open CrcM (W)
open Crc (vl)
set_option maxRecDepth 100000 in
theorem open_frame {H : Type} {enc : TypeId × Value → H} {W0 : World} {base : Nat} {v : Value} {d : DataW H} {p : List MemPlace}
    (hv : Value.okWide Tryz.prog W0 .any base 31 v) (h : DataW.Trod enc Tryz.prog W0 0 (fun _ => true) true 31 v d p) : ∃ f : Fr, v = fV f ∧ f.body.length ≤ maxLen := by
  obtain ⟨v0, v1, v2, v3, y0, y1, y2, y3, n, rfl, _, _, h0, h1, h2, h3⟩ := Go.Joins.open_agg4 Tryz.underlying31 (by kernel_rfl) (by kernel_rfl) hv h
  obtain ⟨k, e0, _⟩ := DataW.trod_int Tryz.underlying3 h0
  obtain ⟨a, e1, _, w1⟩ := DataW.trod_int Tryz.underlying29 h1
  obtain ⟨b, e2, _, w2⟩ := DataW.trod_int Tryz.underlying29 h2
  obtain ⟨s, e3, _, z3⟩ := DataW.trod_string Tryz.underlying9 h3
  simp only [List.cons.injEq, and_true] at e0 e1 e2 e3
  subst e0 e1 e2 e3
  obtain ⟨a, rfl⟩ := Crc.word_of w1
  obtain ⟨b, rfl⟩ := Crc.word_of w2
  refine ⟨⟨k, a, b, s.data.toList⟩, ?_, by simpa using z3⟩
  unfold fV
  rw [Flash.bs_list]
theorem open_three {H : Type} {enc : TypeId × Value → H} {P : Program} {W : World} {base : Nat} {t e : TypeId} {ik : IntKind} {v : Value} {d : DataW H} {p : List MemPlace}
    (ht : P.underlying t = some (.array 3 e)) (he : P.underlying e = some (.int ik)) (hce : P.cellsOf e = 1) (hct : P.cellsOf t = 3)
    (hv : Value.okWide P W .any base t v) (h : DataW.Trod enc P W 0 (fun _ => true) true t v d p) :
    ∃ b0 b1 b2 : Int, v = .agg #[.int ik b0, .int ik b1, .int ik b2] ∧ (Lit.int ik b0).wf = true ∧ (Lit.int ik b1).wf = true ∧ (Lit.int ik b2).wf = true := by
  simp only [Value.okWide, ht] at hv
  obtain ⟨cs, rfl, hn, _⟩ := hv
  rw [hct] at hn
  obtain ⟨l⟩ := cs
  match l, hn with
  | [c0, c1, c2], _ =>
    obtain ⟨fuel, hf⟩ := h
    obtain ⟨y0, y1, y2, n, _, h0, h1, h2⟩ := trod_array3 ht hce (c0 := c0) (c1 := c1) (c2 := c2) hf
    obtain ⟨a0, e0, _, w0⟩ := DataW.trod_int he h0
    obtain ⟨a1, e1, _, w1⟩ := DataW.trod_int he h1
    obtain ⟨a2, e2, _, w2⟩ := DataW.trod_int he h2
    simp at e0 e1 e2
    subst e0 e1 e2
    exact ⟨a0, a1, a2, rfl, w0, w1, w2⟩
theorem byte_int {n : Int} (h : (Lit.int .u8 n).wf = true) : ∃ b : UInt8, n = (b.toNat : Int) := by
  have := Crc.byte_of h
  exact ⟨UInt8.ofNat n.toNat, by simp; omega⟩
end Go.Proofs.YtcmjambbdfangaaGreat.Frame
