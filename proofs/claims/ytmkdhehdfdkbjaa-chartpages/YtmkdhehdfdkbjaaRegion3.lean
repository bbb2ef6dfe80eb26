/-
  A region that draws its order, from the frame as it stands.
-/
import Derived.Test.YtmkdhehdfdkbjaaRegion2
set_option linter.unusedVariables false
set_option linter.unusedSimpArgs false
namespace Go.Proofs.Ytmkdhehdfdkbjaa.Region
open Go.RowKit
theorem wp_region_each3 {P : Program} {id : Nat} {l : List Oper} {Q : Exit → Act → World → Prop} {a0 : Act} {w : World} (dst : List (Option Nat)) (J : (Nat → Bool) → (Nat → Value) → World → Prop)
    (hm : P.follows .mixedOrders = true) (hb : back l = true) (hsz : ∀ d ∈ slots dst, d < a0.tmps.size)
    (hJ : J (fun _ => false) (fun t => a0.tmps.getD t undef) w.drew) (hE : Each2 P l.toArray Q a0 dst J l 0 l)
    (done : ∀ d ys w, J d ys w → (∀ i, i < l.length → d i = true) → Q .normal (fill a0 (slots dst) ys) w) : (Code.region id l.toArray true).wp P Q a0 w := by
  refine wp_region_any hm ?_
  refine wpAny_inv2 hsz hb (by simpa using hE) done _ _ _ _ (by simp) ?_ ⟨?_, ⟨rfl, rfl, fun _ _ => rfl⟩, fun j i hw hl => ?_⟩
  · simp
  · have : (fun i => (Array.replicate l.toArray.size false).getD i false) = fun _ => false := by
      funext i
      rw [Array.getD_eq_getD_getElem?, Array.getElem?_replicate]
      split <;> rfl
    rw [this]; exact hJ
  · exfalso
    rw [Array.getD_eq_getD_getElem?, Array.getElem?_replicate] at hl
    split at hl <;> simp at hl
end Go.Proofs.Ytmkdhehdfdkbjaa.Region
