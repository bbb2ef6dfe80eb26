/-
  Writes, and rows of them in memory.
-/
import Derived.Test.YtjbgiolcfammkaaDoorJoinT
import Derived.Test.YtjbgiolcfammkaaDoorRefSort
import Derived.Test.YtjbgiolcfammkaaDoorJoinR
namespace Go.Proofs.YtjbgiolcfammkaaDoor.Batch
open Go.RowKit
open Own Tup RefKeys RefSort

structure Wr where
  key : ByteArray
  del : Bool
  val : ByteArray
  deriving DecidableEq, Inhabited
/-- a write's cells -/
def wrC (x : Wr) : List Value := [.string x.key, .bool x.del, .string x.val]
def flatW (l : List Wr) : List Value := l.flatMap wrC
theorem flatW_snoc (l : List Wr) (x : Wr) : flatW (l ++ [x]) = flatW l ++ wrC x := by simp [flatW]
theorem flatW_length (l : List Wr) : (flatW l).length = l.length * 3 := by
  induction l with
  | nil => rfl
  | cons x r ih => simp only [flatW, List.flatMap_cons, List.length_append] at ih ⊢; rw [ih]; simp [wrC]; omega
theorem flatW_at : ∀ (l : List Wr) (k : Nat) (x : Wr), l[k]? = some x → (flatW l)[k * 3]? = some (.string x.key) ∧ (flatW l)[k * 3 + 1]? = some (.bool x.del) ∧ (flatW l)[k * 3 + 2]? = some (.string x.val)
  | [], k, x, h => by simp at h
  | y :: r, 0, x, h => by simp at h; subst h; exact ⟨rfl, rfl, rfl⟩
  | y :: r, k + 1, x, h => by
    have h1 := flatW_at r k x (by simpa using h)
    rw [show (k + 1) * 3 = k * 3 + 1 + 1 + 1 by omega]
    exact h1
/-- a row of writes lies there -/
def WAt (w : World) (a : Option Addr) (l : List Wr) : Prop := At w a (flatW l)
/-- .. that the call itself made -/
def WMine (w : World) (base : Nat) (v : Value) (l : List Wr) : Prop := w.ownsRow base 31 3 v l.length (flatW l)
theorem WMine.nil (w : World) (base : Nat) : WMine w base (.slice none 0 0) [] := ⟨rfl, .inl ⟨rfl, rfl⟩⟩
theorem WAt.get {w : World} {a : Option Addr} {l : List Wr} (h : WAt w a l) {k : Nat} {x : Wr} (hx : l[k]? = some x) :
    ∃ b off, a = some ⟨b, off, none⟩ ∧ w.cell? ⟨b, off + k * 3, none⟩ = some (.string x.key) ∧ w.cell? ⟨b, off + k * 3 + 1, none⟩ = some (.bool x.del) ∧ w.cell? ⟨b, off + k * 3 + 2, none⟩ = some (.string x.val) := by
  obtain ⟨h0, h1, h2⟩ := flatW_at l k x hx
  rcases h with h | ⟨b, off, ha, hl⟩
  · have := flatW_length l
    rw [h] at this
    have hk := (List.getElem?_eq_some_iff.1 hx).1
    simp at this; omega
  · exact ⟨b, off, ha, hl _ _ h0, by have := hl _ _ h1; rwa [← Nat.add_assoc] at this, by have := hl _ _ h2; rwa [← Nat.add_assoc] at this⟩
theorem infoW : (Tryd.prog.info? 31).map (fun i => (i.zero, i.size, i.bytes)) = some (some (.agg #[.string ⟨#[]⟩, .bool false, .string ⟨#[]⟩]), 3, 40) := by kernel_rfl
/-- a table of values, one of which is a fresh slice of one value -/
def Tab (tab : List Value) (k : Nat) (cs : List Value) : Nat → Value → World → Prop := fun i v w => if i = k then (∃ g, v = .slice (some ⟨g, 0, none⟩) 1 1 ∧ Lies w g 0 cs) else v = tab.getD i undef
theorem Tab.mono (tab : List Value) (k : Nat) (cs : List Value) : ∀ i v w w', Tab tab k cs i v w → Below w.heap.size w w' → Tab tab k cs i v w' := by
  intro i v w w' h hb
  unfold Tab at h ⊢
  split
  · rename_i e
    rw [if_pos e] at h
    obtain ⟨g, h1, h2⟩ := h
    exact ⟨g, h1, h2.below hb⟩
  · rename_i e
    rw [if_neg e] at h; exact h
end Go.Proofs.YtjbgiolcfammkaaDoor.Batch
