/-
  The library's tables, where the landed code reads them.
-/
import Derived.Test.YtjbgiolcfammkaaDoorKeysC
import Derived.Test.YtjbgiolcfammkaaDoorBatchMath
namespace Go.Proofs.YtjbgiolcfammkaaDoor.Batch
open Go.RowKit
def Tb (w : World) : Prop := Keys.Tabs w
theorem Tb.below {w w' : World} (h : Tb w) (hb : Below w.heap.size w w') : Tb w' := Keys.Tabs.below h hb
theorem WAt.below {w w' : World} {a : Option Addr} {l : List Wr} (h : WAt w a l) (hb : Below w.heap.size w w') : WAt w' a l := Tup.At.below h hb
theorem WMine.below {w w' : World} {base : Nat} {v : Value} {l : List Wr} (h : WMine w base v l) (hb : Below w.heap.size w w') : WMine w' base v l := Own.owns_below h hb
theorem WMine.slice {w : World} {base : Nat} {v : Value} {l : List Wr} (h : WMine w base v l) : ∃ a c, v = .slice a l.length c ∧ WAt w a l := by
  obtain ⟨a, c, rfl⟩ := Tup.owns_slice h
  exact ⟨a, c, rfl, Tup.At.of_owns h⟩
end Go.Proofs.YtjbgiolcfammkaaDoor.Batch
