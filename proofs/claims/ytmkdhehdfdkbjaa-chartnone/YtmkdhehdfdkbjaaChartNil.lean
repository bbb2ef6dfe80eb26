/-
  What no account answers.
-/
import Derived.Test.YtmkdhehdfdkbjaaChartL
set_option linter.unusedVariables false
set_option linter.unusedSimpArgs false
namespace Go.Proofs.Ytmkdhehdfdkbjaa.Chart
open Go.RowKit
open Go.Proofs.Ytmkdhehdfdkbjaa.Own
open Tup Foot

set_option maxRecDepth 100000 in
theorem nilAll (w : World) : Calls Try.prog 42 #[.pointer none] w fun e w' => e = .returned (.slice none 0 0) ∧ w = w' := by
  go_enter Try.func42, Try.ntmps42
  go_wp2
  go_ret
  exact ⟨rfl, rfl⟩
set_option maxRecDepth 100000 in
theorem nilAt (w : World) : Calls Try.prog 45 #[.pointer none, .int .i64 0] w fun e w' => e = .returned (.pointer none) ∧ w = w' := by
  have HA := Lib.hid (fun w => nilAll w)
  go_enter Try.func45, Try.ntmps45
  go_wp2_with (go_at_call 42; (with_reducible refine (HA.out _).mono ?_); rintro e w3 ⟨rfl, rfl⟩)
  go_ret
  exact ⟨rfl, rfl⟩
set_option maxRecDepth 100000 in
theorem nilGeom (w : World) : Calls Try.prog 13 #[.pointer none] w fun e w' => e = .returned (.agg #[.int .i64 0, .int .i64 0, .int .i64 0]) ∧ Below w.heap.size w w' := by
  go_enter Try.func13, Try.ntmps13
  go_wp2
  refine bodyPost_ret (v := .agg #[.int .i64 0, .int .i64 0, .int .i64 0]) (by simp [results, Try.results13, go_sem]) rfl ⟨rfl, Geom.bel_alloc _ _⟩
set_option maxRecDepth 100000 in
theorem nilSlots (w : World) : Calls Try.prog 47 #[.pointer none] w fun e w' => e = .returned (.int .i64 0) ∧ Below w.heap.size w w' := by
  have HG := Lib.hid (fun w => nilGeom w)
  have HS : Hid (∀ w, Calls Try.prog 52 #[.agg #[.int .i64 0, .int .i64 0, .int .i64 0]] w fun e w' => e = .returned (.int .i64 0) ∧ Below w.heap.size w w') := fun w => Geom.slots_any ⟨0, 0, 0⟩ w
  go_enter Try.func47, Try.ntmps47
  go_wp2_with (first
    | (go_at_call 13; (with_reducible refine (HG.out _).mono ?_); rintro e w3 ⟨rfl, h3⟩)
    | (go_at_call 52; (with_reducible refine (HS.out _).mono ?_); rintro e w4 ⟨rfl, h4⟩))
  go_ret
  exact ⟨rfl, bel2 h3 h4⟩
set_option maxRecDepth 100000 in
theorem nilNewest (w : World) : Calls Try.prog 48 #[.pointer none] w fun e w' => e = .returned (.tuple #[.int .i64 0, .int .u32 0]) ∧ Below w.heap.size w w' := by
  have HA := Lib.hid (fun w => nilAll w)
  go_enter Try.func48, Try.ntmps48
  go_wp2_with (go_at_call 42; (with_reducible refine (HA.out _).mono ?_); rintro e w3 ⟨rfl, rfl⟩)
  go_loopw [2, 3, 9] (fun a b i wr => a = .int .i64 0 ∧ b = .int .u32 0 ∧ i = .int .i64 0 ∧ wr = w) (fun _ _ _ _ => 0)
  case atStart => exact ⟨rfl, rfl, rfl, rfl⟩
  case round =>
    obtain ⟨rfl, rfl, rfl, rfl⟩ := hrel
    go_wp2
    go_ret2
    exact ⟨rfl, Below.refl _ _⟩
set_option maxRecDepth 100000 in
theorem nilFreeFrom (w : World) : Calls Try.prog 49 #[.pointer none, .int .i64 0] w fun e w' => e = .returned (.tuple #[.int .i64 0, .bool false]) ∧ Below w.heap.size w w' := by
  have HA := Lib.hid (fun w => nilAll w)
  go_enter Try.func49, Try.ntmps49
  go_wp2_with (go_at_call 42; (with_reducible refine (HA.out _).mono ?_); rintro e w3 ⟨rfl, rfl⟩)
  go_loopw [12] (fun i wr => i = .int .i64 0 ∧ wr = w) (fun _ _ => 0)
  case atStart => exact ⟨rfl, rfl⟩
  case round =>
    obtain ⟨rfl, rfl⟩ := hrel
    go_wp2
    go_ret2
    exact ⟨rfl, Below.refl _ _⟩
set_option maxRecDepth 100000 in
theorem nilOpen (w : World) : Calls Try.prog 27 #[.pointer none] w fun e w' => e = .returned (.tuple #[.int .i64 0, .int .u32 0, .bool false]) ∧ Below w.heap.size w w' := by
  have HN := Lib.hid (fun w => nilNewest w)
  have HF := Lib.hid (fun w => nilFreeFrom w)
  go_enter Try.func27, Try.ntmps27
  go_wp2_with (first
    | (go_at_call 48; (with_reducible refine (HN.out _).mono ?_); rintro e w3 ⟨rfl, h3⟩)
    | (go_at_call 49; (with_reducible refine (HF.out _).mono ?_); rintro e w4 ⟨rfl, h4⟩))
  go_ret3
  exact ⟨rfl, bel2 h3 h4⟩
set_option maxRecDepth 100000 in
theorem nilLeft (w : World) : Calls Try.prog 21 #[.pointer none] w fun e w' => e = .returned (.int .i64 0) ∧ w = w' := by
  go_enter Try.func21, Try.ntmps21
  go_wp2
  go_ret
  exact ⟨rfl, rfl⟩
set_option maxRecDepth 100000 in
theorem nilTake (w : World) : Calls Try.prog 19 #[.pointer none] w fun e w' => e = .returned (.tuple #[.int .i64 0, .bool false]) ∧ w = w' := by
  have HL := Lib.hid (fun w => nilLeft w)
  go_enter Try.func19, Try.ntmps19
  go_wp2_with (go_at_call 21; (with_reducible refine (HL.out _).mono ?_); rintro e w3 ⟨rfl, rfl⟩)
  go_ret2
  exact ⟨rfl, rfl⟩
set_option maxRecDepth 100000 in
theorem nilOldest (w : World) : Calls Try.prog 18 #[.pointer none] w fun e w' => e = .returned (.tuple #[.int .i64 0, .bool false]) ∧ w = w' := by
  have HA := Lib.hid (fun w => nilAll w)
  go_enter Try.func18, Try.ntmps18
  go_wp2_with (go_at_call 42; (with_reducible refine (HA.out _).mono ?_); rintro e w3 ⟨rfl, rfl⟩)
  go_loopw [2, 3, 4, 10] (fun a o b i wr => a = .int .i64 0 ∧ o = .bool false ∧ b = .int .u32 0 ∧ i = .int .i64 0 ∧ wr = w) (fun _ _ _ _ _ => 0)
  case atStart => exact ⟨rfl, rfl, rfl, rfl, rfl⟩
  case round =>
    obtain ⟨rfl, rfl, rfl, rfl, rfl⟩ := hrel
    go_wp2
    go_ret2
    exact ⟨rfl, rfl⟩
set_option maxRecDepth 100000 in
theorem nilFree (w : World) : Calls Try.prog 20 #[.pointer none] w fun e w' => e = .returned (.int .i64 0) ∧ w = w' := by
  have HA := Lib.hid (fun w => nilAll w)
  go_enter Try.func20, Try.ntmps20
  go_wp2_with (go_at_call 42; (with_reducible refine (HA.out _).mono ?_); rintro e w3 ⟨rfl, rfl⟩)
  go_loopw [3, 9] (fun a i wr => a = .int .i64 0 ∧ i = .int .i64 0 ∧ wr = w) (fun _ _ _ => 0)
  case atStart => exact ⟨rfl, rfl, rfl⟩
  case round =>
    obtain ⟨rfl, rfl, rfl⟩ := hrel
    go_wp2
    go_ret
    exact ⟨rfl, rfl⟩
set_option maxRecDepth 100000 in
theorem nilAvail (w : World) : Calls Try.prog 22 #[.pointer none] w fun e w' => e = .returned (.int .i64 0) ∧ Below w.heap.size w w' := by
  have HL := Lib.hid (fun w => nilLeft w)
  have HF := Lib.hid (fun w => nilFree w)
  have HS := Lib.hid (fun w => nilSlots w)
  have hmx := fun w ts t => max2 (P := Try.prog) w ts t (-2) 0 0 (by omega)
  have hmx2 := fun w ts t => max2 (P := Try.prog) w ts t (0 - 2) 0 0 (by omega)
  go_enter Try.func22, Try.ntmps22
  go_wp2_with (first
    | (go_at_call 21; (with_reducible refine (HL.out _).mono ?_); rintro e w3 ⟨rfl, rfl⟩)
    | (go_at_call 20; (with_reducible refine (HF.out _).mono ?_); rintro e w4 ⟨rfl, rfl⟩)
    | (go_at_call 47; (with_reducible refine (HS.out _).mono ?_); rintro e w5 ⟨rfl, h5⟩))
  go_ret
  exact ⟨rfl, h5⟩
set_option maxRecDepth 100000 in
theorem nilSet (w : World) : Calls Try.prog 29 #[.pointer none, .int .i64 0, .int .u32 1, .int .i64 0] w fun e w' => e = .returned (.int .i64 1) ∧ w = w' := by
  have HA := Lib.hid (fun w => nilAt w)
  go_enter Try.func29, Try.ntmps29
  go_wp2_with (go_at_call 45; (with_reducible refine (HA.out _).mono ?_); rintro e w3 ⟨rfl, rfl⟩)
  go_ret
  exact ⟨rfl, rfl⟩
set_option maxRecDepth 100000 in
theorem nilResume (w : World) : Calls Try.prog 24 #[.pointer none, .int .i64 0] w fun e w' => e = .returned (.int .i64 1) ∧ w = w' := by
  have HA := Lib.hid (fun w => nilAt w)
  go_enter Try.func24, Try.ntmps24
  go_wp2_with (go_at_call 45; (with_reducible refine (HA.out _).mono ?_); rintro e w3 ⟨rfl, rfl⟩)
  go_ret
  exact ⟨rfl, rfl⟩
set_option maxRecDepth 100000 in
theorem nilErase (w : World) : Calls Try.prog 25 #[.pointer none, .int .i64 0] w fun e w' => e = .returned (.int .i64 1) ∧ w = w' := by
  have HA := Lib.hid (fun w => nilAt w)
  go_enter Try.func25, Try.ntmps25
  go_wp2_with (go_at_call 45; (with_reducible refine (HA.out _).mono ?_); rintro e w3 ⟨rfl, rfl⟩)
  go_ret
  exact ⟨rfl, rfl⟩
set_option maxRecDepth 100000 in
theorem nilEpoch (w : World) : Calls Try.prog 30 #[.pointer none, .int .i64 0] w fun e w' => e = .returned (.int .u32 0) ∧ w = w' := by
  have HA := Lib.hid (fun w => nilAt w)
  go_enter Try.func30, Try.ntmps30
  go_wp2_with (go_at_call 45; (with_reducible refine (HA.out _).mono ?_); rintro e w3 ⟨rfl, rfl⟩)
  go_ret
  exact ⟨rfl, rfl⟩
set_option maxRecDepth 100000 in
theorem nilUsed (w : World) : Calls Try.prog 31 #[.pointer none, .int .i64 0] w fun e w' => e = .returned (.int .i64 0) ∧ w = w' := by
  have HA := Lib.hid (fun w => nilAt w)
  go_enter Try.func31, Try.ntmps31
  go_wp2_with (go_at_call 45; (with_reducible refine (HA.out _).mono ?_); rintro e w3 ⟨rfl, rfl⟩)
  go_ret
  exact ⟨rfl, rfl⟩
set_option maxRecDepth 100000 in
set_option maxHeartbeats 8000000 in
theorem none_any (w : World) : Calls Try.prog 9 #[] w fun e w' => e = .returned (.bool true) ∧ Below w.heap.size w w' := by
  have HAL := Lib.hid (fun w => alive_any w)
  have HO := Lib.hid (fun w => nilOpen w)
  have HT := Lib.hid (fun w => nilTake w)
  have HOl := Lib.hid (fun w => nilOldest w)
  have HS := Lib.hid (fun w => nilSet w)
  have HR := Lib.hid (fun w => nilResume w)
  have HE := Lib.hid (fun w => nilErase w)
  have HF := Lib.hid (fun w => nilFree w)
  have HL := Lib.hid (fun w => nilLeft w)
  have HA := Lib.hid (fun w => nilAvail w)
  have HEp := Lib.hid (fun w => nilEpoch w)
  have HU := Lib.hid (fun w => nilUsed w)
  have HG := Lib.hid (fun w => nilGeom w)
  go_enter Try.func9, Try.ntmps9
  go_wp2_with (first
    | (go_at_call 27; (with_reducible refine (HO.out _).mono ?_); rintro e w1 ⟨rfl, b1⟩)
    | (go_at_call 19; (with_reducible refine (HT.out _).mono ?_); rintro e w2 ⟨rfl, rfl⟩)
    | (go_at_call 18; (with_reducible refine (HOl.out _).mono ?_); rintro e w3 ⟨rfl, rfl⟩)
    | (go_at_call 12; (with_reducible refine (HAL.out _).mono ?_); rintro e w4 ⟨rfl, b4⟩)
    | (go_at_call 29; (with_reducible refine (HS.out _).mono ?_); rintro e w5 ⟨rfl, rfl⟩)
    | (go_at_call 24; (with_reducible refine (HR.out _).mono ?_); rintro e w6 ⟨rfl, rfl⟩)
    | (go_at_call 25; (with_reducible refine (HE.out _).mono ?_); rintro e w7 ⟨rfl, rfl⟩)
    | (go_at_call 20; (with_reducible refine (HF.out _).mono ?_); rintro e w8 ⟨rfl, rfl⟩)
    | (go_at_call 21; (with_reducible refine (HL.out _).mono ?_); rintro e w9 ⟨rfl, rfl⟩)
    | (go_at_call 22; (with_reducible refine (HA.out _).mono ?_); rintro e w10 ⟨rfl, b10⟩)
    | (go_at_call 30; (with_reducible refine (HEp.out _).mono ?_); rintro e w11 ⟨rfl, rfl⟩)
    | (go_at_call 31; (with_reducible refine (HU.out _).mono ?_); rintro e w12 ⟨rfl, rfl⟩)
    | (go_at_call 13; (with_reducible refine (HG.out _).mono ?_); rintro e w13 ⟨rfl, b13⟩))
  go_ret
  exact ⟨rfl, bel2 (bel2 (bel2 b1 b4) b10) b13⟩
end Go.Proofs.Ytmkdhehdfdkbjaa.Chart
