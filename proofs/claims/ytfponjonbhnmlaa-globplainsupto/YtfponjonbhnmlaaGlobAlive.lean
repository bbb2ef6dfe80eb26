/-
  The first call of every law of chapter 3.
-/
import Derived.Test.YtfponjonbhnmlaaGlobI
import Derived.Test.YtfponjonbhnmlaaGlobQ
import Derived.Test.YtfponjonbhnmlaaGlobP
namespace Go.Proofs.Ytfponjonbhnmlaa.Glob
open Go.RowKit
open RuneM RefRune Own RefKeys GlobM Keys RefGlob

theorem bel {a w1 w2 : World} (h : Below a.heap.size a w1) (k : Below w1.heap.size w1 w2) : Below a.heap.size a w2 := h.trans (k.mono h.size)
theorem lim_small {s : ByteArray} (h : s.size ≤ 1000) : s.size ≤ lim := by unfold lim; omega
theorem known1 : globB ⟨#[97, 42, 91, 120, 45, 122, 93]⟩ ⟨#[97, 98, 99, 121]⟩ = true := by decide +kernel
theorem known2 : globB ⟨#[63]⟩ ⟨#[195, 169]⟩ = true := by decide +kernel
theorem known3 : globB ⟨#[91, 94, 97, 93]⟩ ⟨#[97]⟩ = false := by decide +kernel
theorem known4 : (itemsL (nums ⟨#[91]⟩)).isSome = false := by decide +kernel
theorem known5 : quoteB ⟨#[97, 42]⟩ = ⟨#[97, 92, 42]⟩ := by decide +kernel
set_option maxHeartbeats 1000000 in
theorem alive_any (w : World) : Calls Try.prog 9 #[] w fun e w' => e = .returned (.bool true) ∧ Below w.heap.size w w' := by
  have hB := Below.refl w.heap.size w
  have H1 := Lib.hid (fun w => match_any ⟨#[97, 42, 91, 120, 45, 122, 93]⟩ ⟨#[97, 98, 99, 121]⟩ (lim_small (by decide)) (lim_small (by decide)) w)
  have H2 := Lib.hid (fun w => match_any ⟨#[63]⟩ ⟨#[195, 169]⟩ (lim_small (by decide)) (lim_small (by decide)) w)
  have H3 := Lib.hid (fun w => match_any ⟨#[91, 94, 97, 93]⟩ ⟨#[97]⟩ (lim_small (by decide)) (lim_small (by decide)) w)
  have H4 := Lib.hid (fun w => right_any ⟨#[91]⟩ (lim_small (by decide)) w)
  have H5 := Lib.hid (fun w => quote_any ⟨#[97, 42]⟩ (by decide) w)
  rw [known1] at H1
  rw [known2] at H2
  rw [known3] at H3
  rw [known4] at H4
  rw [known5] at H5
  go_enter Try.func9, Try.ntmps9
  go_wp2_with fail
  go_at_call 12
  with_reducible refine (H1.out _).mono ?_
  rintro e w2 ⟨rfl, hn⟩
  replace hB := bel hB hn
  clear hn
  go_wp2_with fail
  go_at_call 12
  with_reducible refine (H2.out _).mono ?_
  rintro e w3 ⟨rfl, hn⟩
  replace hB := bel hB hn
  clear hn
  go_wp2_with fail
  go_at_call 12
  with_reducible refine (H3.out _).mono ?_
  rintro e w4 ⟨rfl, hn⟩
  replace hB := bel hB hn
  clear hn
  go_wp2_with fail
  go_at_call 10
  with_reducible refine (H4.out _).mono ?_
  rintro e w5 ⟨rfl, hn⟩
  replace hB := bel hB hn
  clear hn
  go_wp2_with fail
  go_at_call 18
  with_reducible refine (H5.out _).mono ?_
  rintro e w6 ⟨rfl, hn⟩
  replace hB := bel hB hn
  clear hn
  go_wp2
  go_ret
  exact ⟨rfl, hB⟩
end Go.Proofs.Ytfponjonbhnmlaa.Glob
