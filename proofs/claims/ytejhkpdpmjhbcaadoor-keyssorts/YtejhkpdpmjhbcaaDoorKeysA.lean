/-
  What package keys answers of one text: Count, Head, Right, for every text.
-/
import Derived.Test.YtejhkpdpmjhbcaaDoorRefKeys
import Derived.Lib.OthersKept
namespace Go.Proofs.YtejhkpdpmjhbcaaDoor.Keys
open Go.RowKit
open RuneM RefRune Own RefKeys

/-- how long texts may be here -/
def lim : Nat := 140737488355328
/-- a text gone through up to a place -/
structure Part (s : ByteArray) (pos : Nat) (done : List (Nat × Nat)) : Prop where
  le : pos ≤ s.size
  all : runes s = done ++ rest s pos
theorem Part.start (s : ByteArray) : Part s 0 [] := ⟨Nat.zero_le _, rfl⟩
theorem Part.next {s : ByteArray} {pos : Nat} {done : List (Nat × Nat)} (h : Part s pos done) (hp : pos < s.size) : Part s (pos + (Utf8.decode s pos).2) (done ++ [Utf8.decode s pos]) := by
  have hw := dec_width s pos hp
  refine ⟨by omega, ?_⟩
  rw [h.all, rest_cons s pos hp]; simp
theorem Part.done {s : ByteArray} {pos : Nat} {done : List (Nat × Nat)} (h : Part s pos done) (hp : ¬ pos < s.size) : runes s = done := by
  rw [h.all, rest_end s pos (by omega), List.append_nil]
theorem Part.width {s : ByteArray} {pos : Nat} {done : List (Nat × Nat)} (h : Part s pos done) : width done = pos := by
  have h1 := runes_width s
  rw [h.all, width_append, rest_width s pos h.le] at h1
  have := h.le; omega
theorem Part.length {s : ByteArray} {pos : Nat} {done : List (Nat × Nat)} (h : Part s pos done) : done.length ≤ s.size := by
  have h1 := runes_length s
  rw [h.all, List.length_append] at h1; omega
theorem Part.more {s : ByteArray} {pos : Nat} {done : List (Nat × Nat)} (h : Part s pos done) (hp : pos < s.size) : done.length + 1 ≤ (runes s).length := by
  rw [h.all, List.length_append, rest_cons s pos hp, List.length_cons]; omega

theorem iter_below (w : World) (s : ByteArray) (pos : Nat) : Below w.heap.size w (w.iter s pos) := (Below.refl _ _).alloc (Nat.le_refl _) _

theorem count_any (s : ByteArray) (hs : s.size ≤ lim) (w : World) : Calls Tryd.prog 14 #[.string s] w fun e w' => e = .returned (.int .i64 ((runes s).length : Int)) ∧ Below w.heap.size w w' := by
  unfold lim at hs
  go_enter Tryd.func14, Tryd.ntmps14
  go_wp2
  go_loopw [3] (fun n w' => ∃ (pos : Nat) (done : List (Nat × Nat)), w' = w.iter s pos ∧ n = .int .i64 (done.length : Int) ∧ Part s pos done) (fun _ w' => s.size - w'.iterPos w.heap.size)
  case atStart => exact ⟨0, [], rfl, rfl, Part.start s⟩
  case round =>
    obtain ⟨pos, done, rfl, rfl, hp⟩ := hrel
    by_cases hlt : pos < s.size
    · have hnx : ∀ ty, (Instr.next (.pointer (some ⟨w.heap.size, 0, none⟩)) true ty).run Tryd.prog (w.iter s pos) = _ := fun ty => run_next_any w s pos ty hlt
      have hl := hp.length
      have hw := dec_width s pos hlt
      go_wp2
      go_roundw
      case rel => exact ⟨_, _, rfl, by simp, hp.next hlt⟩
      case measure => simp; omega
    · have hnx : ∀ ty, (Instr.next (.pointer (some ⟨w.heap.size, 0, none⟩)) true ty).run Tryd.prog (w.iter s pos) = _ := fun ty => run_next_end w s pos ty hlt
      have hr := hp.done hlt
      go_wp2
      go_ret
      exact ⟨by rw [hr]; rfl, iter_below w s pos⟩

theorem head_any (s : ByteArray) (n : Int) (hs : s.size ≤ lim) (hn : -9223372036854775808 ≤ n ∧ n ≤ 9223372036854775807) (w : World) : Calls Tryd.prog 15 #[.string s, .int .i64 n] w fun e w' => e = .returned (.string (headOf s n)) ∧ Below w.heap.size w w' := by
  unfold lim at hs
  go_enter Tryd.func15, Tryd.ntmps15
  go_wp2
  go_loopw [5] (fun x w' => ∃ (pos : Nat) (done : List (Nat × Nat)), w' = w.iter s pos ∧ x = .int .i64 (done.length : Int) ∧ Part s pos done ∧ done.length ≤ n.toNat) (fun _ w' => s.size - w'.iterPos w.heap.size)
  case atStart => exact ⟨0, [], rfl, rfl, Part.start s, by simp⟩
  case round =>
    obtain ⟨pos, done, rfl, rfl, hp, hd⟩ := hrel
    by_cases hlt : pos < s.size
    · have hnx : ∀ ty, (Instr.next (.pointer (some ⟨w.heap.size, 0, none⟩)) true ty).run Tryd.prog (w.iter s pos) = _ := fun ty => run_next_any w s pos ty hlt
      have hl := hp.length
      have hw := dec_width s pos hlt
      by_cases hge : n ≤ (done.length : Int)
      · have he : headOf s n = s.extract 0 pos := by
          unfold headOf
          rw [hp.all, show n.toNat = done.length by omega, List.take_left', hp.width]
          rfl
        have hpz : pos ≤ s.size := hp.le
        go_wp2
        go_ret
        exact ⟨by rw [he]; rfl, iter_below w s _⟩
      · go_wp2
        go_roundw
        case rel => exact ⟨_, _, rfl, by simp, hp.next hlt, by simp; omega⟩
        case measure => simp; omega
    · have hnx : ∀ ty, (Instr.next (.pointer (some ⟨w.heap.size, 0, none⟩)) true ty).run Tryd.prog (w.iter s pos) = _ := fun ty => run_next_end w s pos ty hlt
      have hr := hp.done hlt
      have he : headOf s n = s := by
        unfold headOf
        rw [hr, List.take_of_length_le hd, hp.width, show pos = s.size by have := hp.le; omega]
        simp
      go_wp2
      go_ret
      exact ⟨by rw [he]; rfl, iter_below w s pos⟩
end Go.Proofs.YtejhkpdpmjhbcaaDoor.Keys
