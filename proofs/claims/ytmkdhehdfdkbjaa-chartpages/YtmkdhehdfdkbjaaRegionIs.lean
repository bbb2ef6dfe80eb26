/-
  A region that draws its order, whose operations leave each a value that hangs on no order, while memory may grow: each operation is walked once.
-/
import Derived.Test.YtmkdhehdfdkbjaaRegion
set_option linter.unusedVariables false
set_option linter.unusedSimpArgs false
namespace Go.Proofs.Ytmkdhehdfdkbjaa.Region
open Go.RowKit
theorem wp_region_is {P : Program} {id : Nat} {l : List Oper} {Q : Exit → Act → World → Prop} {a0 : Act} {w : World} (dst : List Nat) (B : World → Prop) (tab : List Value)
    (hm : P.follows .mixedOrders = true) (hb : back l = true) (hlen : dst.length = l.length) (hnd : dst.Nodup) (hsz : ∀ d ∈ dst, d < a0.tmps.size) (hB : B w.drew)
    (hE : Each P l.toArray Q a0 dst B (fun i v _ => v = tab.getD i undef) 0 l)
    (done : ∀ ys w, B w → (∀ i, i < l.length → ys (dst.getD i 0) = tab.getD i undef) → Q .normal (fill a0 dst ys) w) : (Code.region id l.toArray true).wp P Q a0 w :=
  wp_region_each dst B _ hm hb hlen hnd hsz (fun _ _ _ _ h _ => h) hB hE done
end Go.Proofs.Ytmkdhehdfdkbjaa.Region
