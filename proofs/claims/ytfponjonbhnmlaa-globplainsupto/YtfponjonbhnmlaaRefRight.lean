/-
  What the document's own answer is, whether a pattern is one.
-/
import Derived.Test.YtfponjonbhnmlaaRefPartsB
import Derived.Test.YtfponjonbhnmlaaPlainMath
namespace Go.Proofs.Ytfponjonbhnmlaa.RefGlob
open Go.RowKit
open RuneM RefRune Own RefKeys GlobM
theorem right_any (p : ByteArray) (hp : p.size ≤ 8796093022208) (w : World) : Calls Try.prog 11 #[.string p] w fun e w' => e = .returned (.bool (globRight p)) ∧ Below w.heap.size w w' := by
  have HPA := Lib.hid (parts_any p hp w)
  cases hq : itemsL (nums p) with
  | none =>
    have HG := Lib.hid (show globRight p = false by simp [globRight, hq])
    go_enter Try.func11, Try.ntmps11
    go_wp2_with fail
    go_at_call 21
    with_reducible refine HPA.out.mono ?_
    rintro e w1 ⟨hb, hm⟩
    rw [hq] at hm
    subst hm
    have HB := Lib.hid hb
    clear hb hq
    go_wp2
    go_ret
    exact ⟨ret_bool HG.out.symm, HB.out⟩
  | some its =>
    have HG := Lib.hid (show globRight p = true by simp [globRight, hq])
    go_enter Try.func11, Try.ntmps11
    go_wp2_with fail
    go_at_call 21
    with_reducible refine HPA.out.mono ?_
    rintro e w1 ⟨hb, hm⟩
    rw [hq] at hm
    obtain ⟨v, rfl, hM⟩ := hm
    obtain ⟨pv, rfl⟩ := items_slice hM
    have HB := Lib.hid hb
    clear hb hq hM
    go_wp2
    go_ret
    exact ⟨ret_bool HG.out.symm, HB.out⟩
end Go.Proofs.Ytfponjonbhnmlaa.RefGlob
