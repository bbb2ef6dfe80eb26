/-
  What package keys answers of one text: Count, Head, Right, for every text.
-/
import Derived.Test.YtjbgiolcfammkaaDoorRefRunes
import Derived.Lib.OthersKept
namespace Go.Proofs.YtjbgiolcfammkaaDoor.Keys
open Go.RowKit
open RuneM RefRune Own RefKeys

/-- how long texts may be here -/
def lim : Nat := 140737488355328
/-- a text gone through up to a place -/
structure Part (s : ByteArray) (pos : Nat) (done : List (Nat × Nat)) : Prop where
  le : pos ≤ s.size
  all : runes s = done ++ rest s pos
theorem Part.start (s : ByteArray) : Part s 0 [] := ⟨Nat.zero_le _, rfl⟩
theorem Part.next {s : ByteArray} {pos : Nat} {done : List (Nat × Nat)} (h : Part s pos done) (hp : pos < s.size) : Part s (pos + (Utf8.decode s pos).2) (done ++ [Utf8.decode s pos]) := by
  have hw := dec_width s pos hp
  refine ⟨by omega, ?_⟩
  rw [h.all, rest_cons s pos hp]; simp
theorem Part.done {s : ByteArray} {pos : Nat} {done : List (Nat × Nat)} (h : Part s pos done) (hp : ¬ pos < s.size) : runes s = done := by
  rw [h.all, rest_end s pos (by omega), List.append_nil]
theorem Part.width {s : ByteArray} {pos : Nat} {done : List (Nat × Nat)} (h : Part s pos done) : width done = pos := by
  have h1 := runes_width s
  rw [h.all, width_append, rest_width s pos h.le] at h1
  have := h.le; omega
theorem Part.length {s : ByteArray} {pos : Nat} {done : List (Nat × Nat)} (h : Part s pos done) : done.length ≤ s.size := by
  have h1 := runes_length s
  rw [h.all, List.length_append] at h1; omega
theorem Part.more {s : ByteArray} {pos : Nat} {done : List (Nat × Nat)} (h : Part s pos done) (hp : pos < s.size) : done.length + 1 ≤ (runes s).length := by
  rw [h.all, List.length_append, rest_cons s pos hp, List.length_cons]; omega

theorem iter_below (w : World) (s : ByteArray) (pos : Nat) : Below w.heap.size w (w.iter s pos) := (Below.refl _ _).alloc (Nat.le_refl _) _

end Go.Proofs.YtjbgiolcfammkaaDoor.Keys
