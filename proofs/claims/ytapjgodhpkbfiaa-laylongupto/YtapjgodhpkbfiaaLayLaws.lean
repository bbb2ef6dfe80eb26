/-
  The walks of the laws of chapter 4.
-/
import Derived.Test.YtapjgodhpkbfiaaLayC
namespace Go.Proofs.Ytapjgodhpkbfiaa.Lay
open Go.RowKit
open LayM Own
theorem bel0 {a w1 w2 : World} (h : Below a.heap.size a w1) (k : Below w1.heap.size w1 w2) : Below a.heap.size a w2 := h.trans (k.mono h.size)
theorem known_get : tupN (getN ⟨#[128, 0]⟩ 0) = .tuple #[.int .u32 0, .int .i64 0, .int .i64 2] := by
  rw [show getN ⟨#[128, 0]⟩ 0 = (0, 0, 2) by decide +kernel]; rfl
theorem known_num : numS 300 = ⟨#[172, 2]⟩ := by decide +kernel
theorem known_text : textS ⟨#[97, 98]⟩ = ⟨#[2, 97, 98]⟩ := by decide +kernel
theorem alive_any (w : World) : Calls Try.prog 9 #[] w fun e w' => e = .returned (.bool true) ∧ Below w.heap.size w w' := by
  have H1 := Lib.hid (fun w => getNum_any ⟨#[128, 0]⟩ (by decide) 0 w)
  rw [known_get] at H1
  have H2 : Hid (∀ w, Calls Try.prog 10 #[.int .u32 300] w fun e w' => e = .returned (.string ⟨#[172, 2]⟩) ∧ Below w.heap.size w w') := fun w => by
    rw [← known_num]; exact num_any 300 (by decide) w
  have H3 := Lib.hid (fun w => text_any ⟨#[97, 98]⟩ (by decide) w)
  rw [known_text] at H3
  have hB := Below.refl w.heap.size w
  go_enter Try.func9, Try.ntmps9
  go_wp2_with (first
    | (go_at_call 14; (with_reducible refine (H1.out _).mono ?_); rintro e w2 ⟨rfl, rfl⟩)
    | (go_at_call 10; (with_reducible refine (H2.out _).mono ?_); rintro e w2 ⟨rfl, hn⟩; replace hB := bel0 hB hn; clear hn)
    | (go_at_call 12; (with_reducible refine (H3.out _).mono ?_); rintro e w2 ⟨rfl, hn⟩; replace hB := bel0 hB hn; clear hn))
  go_ret
  exact ⟨rfl, hB⟩
theorem writes_any (v : Nat) (hv : v < 4294967296) (s : ByteArray) (hs : s.size ≤ 9000000000000000000) (w : World) : Calls Try.prog 3 #[.int .u32 (v : Int), .string s] w fun e w' => e = .returned (.bool true) ∧ Below w.heap.size w w' := by
  have H1 := Lib.hid alive_any
  have H2 := Lib.hid (fun w => num_any v hv w)
  have H3 := Lib.hid (fun w => refNum_any v hv w)
  have H4 := Lib.hid (fun w => text_any s hs w)
  have H5 := Lib.hid (fun w => refText_any s hs w)
  have hB := Below.refl w.heap.size w
  go_enter Try.func3, Try.ntmps3
  go_wp2_with (first
    | (go_at_call 9; (with_reducible refine (H1.out _).mono ?_); rintro e w2 ⟨rfl, hn⟩; replace hB := bel0 hB hn; clear hn)
    | (go_at_call 10; (with_reducible refine (H2.out _).mono ?_); rintro e w2 ⟨rfl, hn⟩; replace hB := bel0 hB hn; clear hn)
    | (go_at_call 11; (with_reducible refine (H3.out _).mono ?_); rintro e w2 ⟨rfl, hn⟩; replace hB := bel0 hB hn; clear hn)
    | (go_at_call 12; (with_reducible refine (H4.out _).mono ?_); rintro e w2 ⟨rfl, hn⟩; replace hB := bel0 hB hn; clear hn)
    | (go_at_call 13; (with_reducible refine (H5.out _).mono ?_); rintro e w2 ⟨rfl, hn⟩; replace hB := bel0 hB hn; clear hn))
  go_ret
  exact ⟨by simp, hB⟩
theorem nums_any (s : ByteArray) (hs : s.size ≤ maxLen) (a : Int) (w : World) : Calls Try.prog 4 #[.string s, .int .i64 a] w fun e w' => e = .returned (.bool true) ∧ Below w.heap.size w w' := by
  have H1 := Lib.hid alive_any
  obtain ⟨r, hr⟩ : ∃ r, r = getN s a := ⟨_, rfl⟩
  have H2 := Lib.hid (fun w => getNum_any s hs a w)
  have H3 := Lib.hid (fun w => refGetNum_any s hs a w)
  rw [← hr] at H2 H3
  unfold tupN at H2 H3
  clear hr
  have hB := Below.refl w.heap.size w
  go_enter Try.func4, Try.ntmps4
  go_wp2_with (first
    | (go_at_call 9; (with_reducible refine (H1.out _).mono ?_); rintro e w2 ⟨rfl, hn⟩; replace hB := bel0 hB hn; clear hn)
    | (go_at_call 14; (with_reducible refine (H2.out _).mono ?_); rintro e w2 ⟨rfl, rfl⟩)
    | (go_at_call 15; (with_reducible refine (H3.out _).mono ?_); rintro e w2 ⟨rfl, rfl⟩))
  go_ret
  exact ⟨by simp, hB⟩
theorem texts_any (s : ByteArray) (hs : s.size ≤ maxLen) (a m : Int) (w : World) : Calls Try.prog 5 #[.string s, .int .i64 a, .int .i64 m] w fun e w' => e = .returned (.bool true) ∧ Below w.heap.size w w' := by
  have H1 := Lib.hid alive_any
  obtain ⟨r, hr⟩ : ∃ r, r = getT s a m := ⟨_, rfl⟩
  have H2 := Lib.hid (fun w => getText_any s hs a m w)
  have H3 := Lib.hid (fun w => refGetText_any s hs a m w)
  rw [← hr] at H2 H3
  unfold tupT at H2 H3
  clear hr
  have hB := Below.refl w.heap.size w
  go_enter Try.func5, Try.ntmps5
  go_wp2_with (first
    | (go_at_call 9; (with_reducible refine (H1.out _).mono ?_); rintro e w2 ⟨rfl, hn⟩; replace hB := bel0 hB hn; clear hn)
    | (go_at_call 16; (with_reducible refine (H2.out _).mono ?_); rintro e w2 ⟨rfl, rfl⟩)
    | (go_at_call 17; (with_reducible refine (H3.out _).mono ?_); rintro e w2 ⟨rfl, rfl⟩))
  go_ret
  exact ⟨by simp, hB⟩
end Go.Proofs.Ytapjgodhpkbfiaa.Lay
