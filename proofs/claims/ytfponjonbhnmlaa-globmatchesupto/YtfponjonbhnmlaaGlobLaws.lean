/-
  The first call of every law of chapter 3, and the walks of its plainest laws.
-/
import Derived.Test.YtfponjonbhnmlaaGlobI
import Derived.Test.YtfponjonbhnmlaaGlobQ
import Derived.Test.YtfponjonbhnmlaaGlobP
import Derived.Test.YtfponjonbhnmlaaRefMatchB
import Derived.Test.YtfponjonbhnmlaaRefPlain
namespace Go.Proofs.Ytfponjonbhnmlaa.Glob
open Go.RowKit
open RuneM RefRune Own RefKeys GlobM Keys RefGlob

theorem bel {a w1 w2 : World} (h : Below a.heap.size a w1) (k : Below w1.heap.size w1 w2) : Below a.heap.size a w2 := h.trans (k.mono h.size)
theorem lim_small {s : ByteArray} (h : s.size ≤ 1000) : s.size ≤ lim := by unfold lim; omega
theorem known1 : globB ⟨#[97, 42, 91, 120, 45, 122, 93]⟩ ⟨#[97, 98, 99, 121]⟩ = true := by decide +kernel
theorem known2 : globB ⟨#[63]⟩ ⟨#[195, 169]⟩ = true := by decide +kernel
theorem known3 : globB ⟨#[91, 94, 97, 93]⟩ ⟨#[97]⟩ = false := by decide +kernel
theorem known4 : (itemsL (nums ⟨#[91]⟩)).isSome = false := by decide +kernel
theorem known5 : quoteB ⟨#[97, 42]⟩ = ⟨#[97, 92, 42]⟩ := by decide +kernel
set_option maxHeartbeats 1000000 in
theorem alive_any (w : World) : Calls Try.prog 9 #[] w fun e w' => e = .returned (.bool true) ∧ Below w.heap.size w w' := by
  have hB := Below.refl w.heap.size w
  have H1 := Lib.hid (fun w => match_any ⟨#[97, 42, 91, 120, 45, 122, 93]⟩ ⟨#[97, 98, 99, 121]⟩ (lim_small (by decide)) (lim_small (by decide)) w)
  have H2 := Lib.hid (fun w => match_any ⟨#[63]⟩ ⟨#[195, 169]⟩ (lim_small (by decide)) (lim_small (by decide)) w)
  have H3 := Lib.hid (fun w => match_any ⟨#[91, 94, 97, 93]⟩ ⟨#[97]⟩ (lim_small (by decide)) (lim_small (by decide)) w)
  have H4 := Lib.hid (fun w => right_any ⟨#[91]⟩ (lim_small (by decide)) w)
  have H5 := Lib.hid (fun w => quote_any ⟨#[97, 42]⟩ (by decide) w)
  rw [known1] at H1
  rw [known2] at H2
  rw [known3] at H3
  rw [known4] at H4
  rw [known5] at H5
  go_enter Try.func9, Try.ntmps9
  go_wp2_with fail
  go_at_call 12
  with_reducible refine (H1.out _).mono ?_
  rintro e w2 ⟨rfl, hn⟩
  replace hB := bel hB hn
  clear hn
  go_wp2_with fail
  go_at_call 12
  with_reducible refine (H2.out _).mono ?_
  rintro e w3 ⟨rfl, hn⟩
  replace hB := bel hB hn
  clear hn
  go_wp2_with fail
  go_at_call 12
  with_reducible refine (H3.out _).mono ?_
  rintro e w4 ⟨rfl, hn⟩
  replace hB := bel hB hn
  clear hn
  go_wp2_with fail
  go_at_call 10
  with_reducible refine (H4.out _).mono ?_
  rintro e w5 ⟨rfl, hn⟩
  replace hB := bel hB hn
  clear hn
  go_wp2_with fail
  go_at_call 18
  with_reducible refine (H5.out _).mono ?_
  rintro e w6 ⟨rfl, hn⟩
  replace hB := bel hB hn
  clear hn
  go_wp2
  go_ret
  exact ⟨rfl, hB⟩
set_option maxHeartbeats 1000000 in
theorem walk_right (s : ByteArray) (hs : s.size ≤ 8796093022208) (w : World) : Calls Try.prog 3 #[.string s] w fun e w' => e = .returned (.bool true) ∧ Below w.heap.size w w' := by
  have hB := Below.refl w.heap.size w
  have H1 := Lib.hid (fun w => right_any s (by unfold lim; omega) w)
  have H2 := Lib.hid (fun w => RefGlob.right_any s hs w)
  have HE : Hid (globRight s = (itemsL (nums s)).isSome) := rfl
  rw [HE.out] at H2
  generalize (itemsL (nums s)).isSome = b at H1 H2
  go_enter Try.func3, Try.ntmps3
  go_wp2_with (first
    | (go_at_call 9; (with_reducible refine (alive_any _).mono ?_); rintro e w2 ⟨rfl, hn⟩; replace hB := bel hB hn; clear hn)
    | (go_at_call 10; (with_reducible refine (H1.out _).mono ?_); rintro e w2 ⟨rfl, hn⟩; replace hB := bel hB hn; clear hn)
    | (go_at_call 11; (with_reducible refine (H2.out _).mono ?_); rintro e w2 ⟨rfl, hn⟩; replace hB := bel hB hn; clear hn))
  all_goals go_ret
  all_goals exact ⟨by simp, hB⟩
set_option maxHeartbeats 1000000 in
theorem walk_matches2 (p k : ByteArray) (hp : p.size ≤ 8796093022208) (hk : k.size ≤ 8796093022208) (w : World) (h60 : (k.size : Int) ≤ 60) : Calls Try.prog 4 #[.string p, .string k] w fun e w' => e = .returned (.bool true) ∧ Below w.heap.size w w' := by
  have hB := Below.refl w.heap.size w
  have H1 := Lib.hid (fun w => match_any p k (by unfold lim; omega) (by unfold lim; omega) w)
  have H2 := Lib.hid (fun w => RefGlob.match_any p k hp hk w)
  have d : ¬ (60 : Int) < (k.size : Int) := by omega
  generalize globB p k = b at H1 H2
  go_enter Try.func4, Try.ntmps4
  go_wp2_with (first
    | (go_at_call 9; (with_reducible refine (alive_any _).mono ?_); rintro e w2 ⟨rfl, hn⟩; replace hB := bel hB hn; clear hn)
    | (go_at_call 12; (with_reducible refine (H1.out _).mono ?_); rintro e w2 ⟨rfl, hn⟩; replace hB := bel hB hn; clear hn)
    | (go_at_call 13; (with_reducible refine (H2.out _).mono ?_); rintro e w2 ⟨rfl, hn⟩; replace hB := bel hB hn; clear hn))
  all_goals go_ret
  all_goals exact ⟨by simp, hB⟩
set_option maxHeartbeats 1000000 in
theorem walk_matches1 (p k : ByteArray) (hp : p.size ≤ 8796093022208) (hk : k.size ≤ 8796093022208) (w : World) (h60 : ¬ (k.size : Int) ≤ 60) : Calls Try.prog 4 #[.string p, .string k] w fun e w' => e = .returned (.bool true) ∧ Below w.heap.size w w' := by
  have hB := Below.refl w.heap.size w
  have hz : (k.extract 0 60).size ≤ 60 := by simp [ByteArray.size_extract]; omega
  have H1 := Lib.hid (fun w => match_any p (k.extract 0 60) (by unfold lim; omega) (by unfold lim; omega) w)
  have H2 := Lib.hid (fun w => RefGlob.match_any p (k.extract 0 60) hp (by omega) w)
  have d : (60 : Int) < (k.size : Int) := by omega
  have d2 : (60 : Int) ≤ (k.size : Int) := by omega
  generalize globB p (k.extract 0 60) = b at H1 H2
  go_enter Try.func4, Try.ntmps4
  go_wp2_with (first
    | (go_at_call 9; (with_reducible refine (alive_any _).mono ?_); rintro e w2 ⟨rfl, hn⟩; replace hB := bel hB hn; clear hn)
    | (go_at_call 12; (with_reducible refine (H1.out _).mono ?_); rintro e w2 ⟨rfl, hn⟩; replace hB := bel hB hn; clear hn)
    | (go_at_call 13; (with_reducible refine (H2.out _).mono ?_); rintro e w2 ⟨rfl, hn⟩; replace hB := bel hB hn; clear hn))
  all_goals go_ret
  all_goals exact ⟨by simp, hB⟩
end Go.Proofs.Ytfponjonbhnmlaa.Glob
