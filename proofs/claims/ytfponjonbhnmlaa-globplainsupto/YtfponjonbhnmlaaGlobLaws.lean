/-
  The walks of the plainest laws of chapter 3.
-/
import Derived.Test.YtfponjonbhnmlaaGlobAlive
import Derived.Test.YtfponjonbhnmlaaRefMatchB
import Derived.Test.YtfponjonbhnmlaaRefPlain
namespace Go.Proofs.Ytfponjonbhnmlaa.Glob
open Go.RowKit
open RuneM RefRune Own RefKeys GlobM Keys RefGlob

set_option maxHeartbeats 1000000 in
theorem walk_right (s : ByteArray) (hs : s.size ≤ 8796093022208) (w : World) : Calls Try.prog 3 #[.string s] w fun e w' => e = .returned (.bool true) ∧ Below w.heap.size w w' := by
  have hB := Below.refl w.heap.size w
  have H1 := Lib.hid (fun w => right_any s (by unfold lim; omega) w)
  have H2 := Lib.hid (fun w => RefGlob.right_any s hs w)
  have HE : Hid (globRight s = (itemsL (nums s)).isSome) := rfl
  rw [HE.out] at H2
  generalize (itemsL (nums s)).isSome = b at H1 H2
  go_enter Try.func3, Try.ntmps3
  go_wp2_with (first
    | (go_at_call 9; (with_reducible refine (alive_any _).mono ?_); rintro e w2 ⟨rfl, hn⟩; replace hB := bel hB hn; clear hn)
    | (go_at_call 10; (with_reducible refine (H1.out _).mono ?_); rintro e w2 ⟨rfl, hn⟩; replace hB := bel hB hn; clear hn)
    | (go_at_call 11; (with_reducible refine (H2.out _).mono ?_); rintro e w2 ⟨rfl, hn⟩; replace hB := bel hB hn; clear hn))
  all_goals go_ret
  all_goals exact ⟨by simp, hB⟩
set_option maxHeartbeats 1000000 in
theorem walk_matches2 (p k : ByteArray) (hp : p.size ≤ 8796093022208) (hk : k.size ≤ 8796093022208) (w : World) (h60 : (k.size : Int) ≤ 60) : Calls Try.prog 4 #[.string p, .string k] w fun e w' => e = .returned (.bool true) ∧ Below w.heap.size w w' := by
  have hB := Below.refl w.heap.size w
  have H1 := Lib.hid (fun w => match_any p k (by unfold lim; omega) (by unfold lim; omega) w)
  have H2 := Lib.hid (fun w => RefGlob.match_any p k hp hk w)
  have d : ¬ (60 : Int) < (k.size : Int) := by omega
  generalize globB p k = b at H1 H2
  go_enter Try.func4, Try.ntmps4
  go_wp2_with (first
    | (go_at_call 9; (with_reducible refine (alive_any _).mono ?_); rintro e w2 ⟨rfl, hn⟩; replace hB := bel hB hn; clear hn)
    | (go_at_call 12; (with_reducible refine (H1.out _).mono ?_); rintro e w2 ⟨rfl, hn⟩; replace hB := bel hB hn; clear hn)
    | (go_at_call 13; (with_reducible refine (H2.out _).mono ?_); rintro e w2 ⟨rfl, hn⟩; replace hB := bel hB hn; clear hn))
  all_goals go_ret
  all_goals exact ⟨by simp, hB⟩
set_option maxHeartbeats 1000000 in
theorem walk_matches1 (p k : ByteArray) (hp : p.size ≤ 8796093022208) (hk : k.size ≤ 8796093022208) (w : World) (h60 : ¬ (k.size : Int) ≤ 60) : Calls Try.prog 4 #[.string p, .string k] w fun e w' => e = .returned (.bool true) ∧ Below w.heap.size w w' := by
  have hB := Below.refl w.heap.size w
  have hz : (k.extract 0 60).size ≤ 60 := by simp [ByteArray.size_extract]; omega
  have H1 := Lib.hid (fun w => match_any p (k.extract 0 60) (by unfold lim; omega) (by unfold lim; omega) w)
  have H2 := Lib.hid (fun w => RefGlob.match_any p (k.extract 0 60) hp (by omega) w)
  have d : (60 : Int) < (k.size : Int) := by omega
  have d2 : (60 : Int) ≤ (k.size : Int) := by omega
  generalize globB p (k.extract 0 60) = b at H1 H2
  go_enter Try.func4, Try.ntmps4
  go_wp2_with (first
    | (go_at_call 9; (with_reducible refine (alive_any _).mono ?_); rintro e w2 ⟨rfl, hn⟩; replace hB := bel hB hn; clear hn)
    | (go_at_call 12; (with_reducible refine (H1.out _).mono ?_); rintro e w2 ⟨rfl, hn⟩; replace hB := bel hB hn; clear hn)
    | (go_at_call 13; (with_reducible refine (H2.out _).mono ?_); rintro e w2 ⟨rfl, hn⟩; replace hB := bel hB hn; clear hn))
  all_goals go_ret
  all_goals exact ⟨by simp, hB⟩
end Go.Proofs.Ytfponjonbhnmlaa.Glob
