/-
  Rows of bytes in memory: what a walk reads and writes of them. Nothing of the program's functions.
-/
import Derived.Test.YtcmjambbdfangaaGreatRunCommon
import Derived.Lib.ConvBytes
import Derived.Laws.IdiomStrings
import Derived.Laws.OwnMore
set_option linter.unusedVariables false
set_option linter.unusedSimpArgs false
namespace Go.Proofs.YtcmjambbdfangaaGreat.Bytes
open Go.RowKit
/-- a row of bytes in a block -/
def Row8 (w : World) (B : Nat) (l : List UInt8) : Prop := ∀ j, j < l.length → w.cell? ⟨B, j, none⟩ = some (.int .u8 ((l.getD j 0).toNat : Int)) ∧ w.frozen? ⟨B, j, none⟩ = false
theorem xor_u8 (a b : UInt8) : bits .xor .u8 (a.toNat : Int) (b.toNat : Int) = ((a ^^^ b).toNat : Int) := by
  rw [u8_xor_nat _ _ a.toNat_lt b.toNat_lt]; simp
theorem Row8.set {w : World} {B : Nat} {l : List UInt8} (h : Row8 w B l) (i : Nat) (c : UInt8) (hi : i < l.length) : Row8 (w.setCell ⟨B, i, none⟩ (.int .u8 (c.toNat : Int))) B (l.set i c) := by
  intro j hj
  rw [List.length_set] at hj
  obtain ⟨h1, h2⟩ := h j hj
  obtain ⟨g1, _⟩ := h i hi
  refine ⟨?_, by rw [World.frozen?_setCell]; exact h2⟩
  by_cases e : i = j
  · subst e
    rw [World.cell?_setCell_same _ _ _ g1]
    simp [List.getD, hj]
  · rw [World.cell?_setCell_other _ _ _ _ (fun hh => e (congrArg Addr.off hh)), h1]
    simp [List.getD, e]
theorem Row8.drew {w : World} {B : Nat} {l : List UInt8} (h : Row8 w B l) : Row8 w.drew B l := h
theorem Row8.below {w w' : World} {B : Nat} {l : List UInt8} (h : Row8 w B l) (hb : Below w.heap.size w w') : Row8 w' B l := fun j hj => by
  have hB : B < w.heap.size := block_lt_of_cell (h j hj).1
  rw [hb.cell (p := ⟨B, j, none⟩) hB, hb.frozen (p := ⟨B, j, none⟩) hB]; exact h j hj
theorem Row8.alloc {w : World} {B : Nat} {l : List UInt8} (h : Row8 w B l) (o : Obj) : Row8 (w.alloc o) B l := h.below ((Below.refl _ _).alloc (Nat.le_refl _) o)
theorem Row8.of_string (w : World) (e : TypeId) (s : ByteArray) : Row8 (Lib.bytesWorld w e s) w.heap.size s.data.toList := by
  intro j hj
  have hj' : j < s.size := by simpa using hj
  refine ⟨Lib.bytesWorld_cell w e s j hj', ?_⟩
  simp [World.frozen?, Lib.bytesWorld_at_new, Lib.bytesCells]
  omega
theorem bytes_below (w : World) (e : TypeId) (s : ByteArray) : Below w.heap.size w (Lib.bytesWorld w e s) :=
  ⟨rfl, rfl, rfl, by rw [Lib.bytesWorld_size]; omega, fun k hk => Lib.bytesWorld_at_old w e s k hk⟩
theorem Row8.of_make {w2 : World} {base : Nat} {e : TypeId} {B n cap : Nat} (h : w2.ownsRow base e 1 (.slice (some ⟨B, 0, none⟩) n cap) n (madeCells (Value.int .u8 0).cells (n * 1)).toList) : Row8 w2 B (List.replicate n 0) := by
  intro j hj
  have hj' : j < n := by simpa using hj
  refine ⟨?_, h.frozenAt j⟩
  rw [h.cellAt j (by omega)]
  have : (madeCells (Value.int .u8 0).cells (n * 1)).toList = List.replicate n (.int .u8 0) := by
    rw [Nat.mul_one]; exact toList_madeCells_one (.int .u8 0) n
  rw [this]
  simp [List.getD, hj']
theorem below_make {w w2 : World} (h : w.grownBy w2 none) : Below w.heap.size w w2 := (Below.refl _ _).grown h (Nat.le_refl _) (fun k hk => by simp at hk)
/-- the text of a row of bytes -/
theorem Row8.text {P : Program} {w : World} {B : Nat} {l : List UInt8} (h : Row8 w B l) (src dst e : TypeId) (cap : Nat) (hs : P.underlying src = some (.slice e)) (he : P.underlying e = some (.int .u8)) (hd : P.underlying dst = some .string) (n : Nat) (hn : l.length = n) :
    (convert src dst (.slice (some ⟨B, 0, none⟩) n cap)).run P w = .ok (.string ⟨l.toArray⟩) w := by
  subst hn
  refine run_convert_bytes_back (P := P) w src dst e ⟨B, 0, none⟩ cap l hs he hd (fun j hj => ?_)
  have := (h j hj).1
  rw [show (⟨B, 0, none⟩ : Addr).add j = ⟨B, j, none⟩ by unfold Addr.add; split <;> simp_all]
  simpa [List.getD, hj] using this
end Go.Proofs.YtcmjambbdfangaaGreat.Bytes
