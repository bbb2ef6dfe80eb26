/-
  What package keys answers of one text: Count, Head, Right, for every text.
-/
import Derived.Test.YtfponjonbhnmlaaRefRunes
import Derived.Lib.OthersKept
namespace Go.Proofs.Ytfponjonbhnmlaa.Keys
open Go.RowKit
open RuneM RefRune Own RefKeys

/-- how long texts may be here -/
def lim : Nat := 140737488355328
/-- a text gone through up to a place -/
structure Part (s : ByteArray) (pos : Nat) (done : List (Nat × Nat)) : Prop where
  le : pos ≤ s.size
  all : runes s = done ++ rest s pos
theorem Part.start (s : ByteArray) : Part s 0 [] := ⟨Nat.zero_le _, rfl⟩
theorem Part.next {s : ByteArray} {pos : Nat} {done : List (Nat × Nat)} (h : Part s pos done) (hp : pos < s.size) : Part s (pos + (Utf8.decode s pos).2) (done ++ [Utf8.decode s pos]) := by
  have hw := dec_width s pos hp
  refine ⟨by omega, ?_⟩
  rw [h.all, rest_cons s pos hp]; simp
theorem Part.done {s : ByteArray} {pos : Nat} {done : List (Nat × Nat)} (h : Part s pos done) (hp : ¬ pos < s.size) : runes s = done := by
  rw [h.all, rest_end s pos (by omega), List.append_nil]
theorem Part.width {s : ByteArray} {pos : Nat} {done : List (Nat × Nat)} (h : Part s pos done) : width done = pos := by
  have h1 := runes_width s
  rw [h.all, width_append, rest_width s pos h.le] at h1
  have := h.le; omega
theorem Part.length {s : ByteArray} {pos : Nat} {done : List (Nat × Nat)} (h : Part s pos done) : done.length ≤ s.size := by
  have h1 := runes_length s
  rw [h.all, List.length_append] at h1; omega
theorem Part.more {s : ByteArray} {pos : Nat} {done : List (Nat × Nat)} (h : Part s pos done) (hp : pos < s.size) : done.length + 1 ≤ (runes s).length := by
  rw [h.all, List.length_append, rest_cons s pos hp, List.length_cons]; omega

theorem iter_below (w : World) (s : ByteArray) (pos : Nat) : Below w.heap.size w (w.iter s pos) := (Below.refl _ _).alloc (Nat.le_refl _) _

theorem count_any (s : ByteArray) (hs : s.size ≤ lim) (w : World) : Calls Try.prog 19 #[.string s] w fun e w' => e = .returned (.int .i64 ((runes s).length : Int)) ∧ Below w.heap.size w w' := by
  unfold lim at hs
  go_enter Try.func19, Try.ntmps19
  go_wp2
  go_loopw [3] (fun n w' => ∃ (pos : Nat) (done : List (Nat × Nat)), w' = w.iter s pos ∧ n = .int .i64 (done.length : Int) ∧ Part s pos done) (fun _ w' => s.size - w'.iterPos w.heap.size)
  case atStart => exact ⟨0, [], rfl, rfl, Part.start s⟩
  case round =>
    obtain ⟨pos, done, rfl, rfl, hp⟩ := hrel
    by_cases hlt : pos < s.size
    · have hnx : ∀ ty, (Instr.next (.pointer (some ⟨w.heap.size, 0, none⟩)) true ty).run Try.prog (w.iter s pos) = _ := fun ty => run_next_any w s pos ty hlt
      have hl := hp.length
      have hw := dec_width s pos hlt
      go_wp2
      go_roundw
      case rel => exact ⟨_, _, rfl, by simp, hp.next hlt⟩
      case measure => simp; omega
    · have hnx : ∀ ty, (Instr.next (.pointer (some ⟨w.heap.size, 0, none⟩)) true ty).run Try.prog (w.iter s pos) = _ := fun ty => run_next_end w s pos ty hlt
      have hr := hp.done hlt
      go_wp2
      go_ret
      exact ⟨by rw [hr]; rfl, iter_below w s pos⟩

end Go.Proofs.Ytfponjonbhnmlaa.Keys
