/-
  What the statements of chapter 11 begin with: a first account's answers; a small account that is new; a call on both.
-/
import Derived.Test.YtmkdhehdfdkbjaaChartX
import Derived.Test.YtmkdhehdfdkbjaaPick
set_option linter.unusedVariables false
set_option linter.unusedSimpArgs false
namespace Go.Proofs.Ytmkdhehdfdkbjaa.Chart
open Go.RowKit
open Go.Proofs.Ytmkdhehdfdkbjaa.Own
open Tup Foot
open Go.Proofs.Ytmkdhehdfdkbjaa.Region (fill Then Deps Each wp_region_is wp_region_is_tail)

def al0 : Ch := newC 32 3 4
def al1 : Ch := (openC al0).2
def al2 : Ch := (takeC al1).2
def al3 : Ch := (takeC al2).2
theorem al_ok0 : al0.Ok := new_ok (by omega) (by omega) (by omega) (by omega) (by omega) (by omega)
theorem al_ok1 : al1.Ok := open_keeps al_ok0
theorem al_ok2 : al2.Ok := take_keeps al_ok1
theorem al_ok3 : al3.Ok := take_keeps al_ok2
theorem al_e1 : (openC al0).1 = (0, 1, true) := by decide
theorem al_e2 : (takeC al1).1 = (1, true) := by decide
theorem al_e3 : (takeC al2).1 = (2, true) := by decide
theorem al_e4 : (takeC al3).1 = (0, false) := by decide
theorem al_e5 : (takeC al3).2 = al3 := rfl
theorem al_e6 : al3.left = 0 := by decide
theorem al_e7 : al3.avail = 2 := by decide
set_option maxRecDepth 100000 in
set_option maxHeartbeats 8000000 in
theorem alive_any (w : World) : Calls Try.prog 12 #[] w fun e w' => e = .returned (.bool true) ∧ Below w.heap.size w w' := by
  have HN : Hid (∀ w, Calls Try.prog 11 #[.agg #[.int .i64 32, .int .i64 3, .int .i64 4]] w fun e w' => ∃ p S, e = .returned (.pointer (some ⟨p, 0, none⟩)) ∧ CHas w' p al0 S ∧ Below w.heap.size w w' ∧ ∀ k, S k → w.heap.size ≤ k) := fun w => new_good 32 3 4 (by omega) (by omega) (by omega) (by omega) (by omega) (by omega) w
  have HO : Hid (∀ w p S, CHas w p al0 S → Calls Try.prog 27 #[.pointer (some ⟨p, 0, none⟩)] w fun e w' => e = .returned (.tuple #[.int .i64 0, .int .u32 1, .bool true]) ∧ CHas w' p al1 S ∧ Grows S w w') := fun w p S h => by
    have := cOpen_any h al_ok0
    rw [show openC al0 = ((0, 1, true), al1) from Prod.ext al_e1 rfl] at this; exact this
  have HT1 : Hid (∀ w p S, CHas w p al1 S → Calls Try.prog 19 #[.pointer (some ⟨p, 0, none⟩)] w fun e w' => e = .returned (.tuple #[.int .i64 1, .bool true]) ∧ CHas w' p al2 S ∧ Grows S w w') := fun w p S h => by
    have := cTake_any h al_ok1
    rw [show takeC al1 = ((1, true), al2) from Prod.ext al_e2 rfl] at this; exact this
  have HT2 : Hid (∀ w p S, CHas w p al2 S → Calls Try.prog 19 #[.pointer (some ⟨p, 0, none⟩)] w fun e w' => e = .returned (.tuple #[.int .i64 2, .bool true]) ∧ CHas w' p al3 S ∧ Grows S w w') := fun w p S h => by
    have := cTake_any h al_ok2
    rw [show takeC al2 = ((2, true), al3) from Prod.ext al_e3 rfl] at this; exact this
  have HT3 : Hid (∀ w p S, CHas w p al3 S → Calls Try.prog 19 #[.pointer (some ⟨p, 0, none⟩)] w fun e w' => e = .returned (.tuple #[.int .i64 0, .bool false]) ∧ CHas w' p al3 S ∧ Grows S w w') := fun w p S h => by
    have := cTake_any h al_ok3
    rw [show takeC al3 = ((0, false), al3) from Prod.ext al_e4 al_e5] at this; exact this
  have HL : Hid (∀ w p S, CHas w p al3 S → Calls Try.prog 21 #[.pointer (some ⟨p, 0, none⟩)] w fun e w' => e = .returned (.int .i64 0) ∧ Below w.heap.size w w') := fun w p S h => by
    have := cLeft_any h al_ok3
    rw [al_e6] at this; exact this
  have HA : Hid (∀ w p S, CHas w p al3 S → Calls Try.prog 22 #[.pointer (some ⟨p, 0, none⟩)] w fun e w' => e = .returned (.int .i64 2) ∧ Below w.heap.size w w') := fun w p S h => by
    have := cAvail_any h al_ok3
    rw [al_e7] at this; exact this
  go_enter Try.func12, Try.ntmps12
  go_wp2_with (first
    | (go_at_call 11; (with_reducible refine (HN.out _).mono ?_); rintro e w2 ⟨p, S, rfl, h2, b2, s2⟩; have t2 : Safe w.heap.size w w2 S := ⟨b2, b2.size, s2⟩; clear b2 s2)
    | (go_at_call 27; (with_reducible refine (HO.out _ _ _ h2).mono ?_); rintro e w3 ⟨rfl, h3, g3⟩; have t3 := t2.turn g3; clear h2 t2 g3)
    | (go_at_call 19; (with_reducible refine (HT1.out _ _ _ h3).mono ?_); rintro e w4 ⟨rfl, h4, g4⟩; have t4 := t3.turn g4; clear h3 t3 g4)
    | (go_at_call 19; (with_reducible refine (HT2.out _ _ _ h4).mono ?_); rintro e w5 ⟨rfl, h5, g5⟩; have t5 := t4.turn g5; clear h4 t4 g5)
    | (go_at_call 19; (with_reducible refine (HT3.out _ _ _ h5).mono ?_); rintro e w6 ⟨rfl, h6, g6⟩; have t6 := t5.turn g6; clear h5 t5 g6)
    | (go_at_call 21; (with_reducible refine (HL.out _ _ _ h6).mono ?_); rintro e w7 ⟨rfl, b7⟩; have h7 := h6.below b7; have t7 := t6.below b7; clear h6 t6 b7)
    | (go_at_call 22; (with_reducible refine (HA.out _ _ _ h7).mono ?_); rintro e w8 ⟨rfl, b8⟩; have t8 := t7.below b8; clear h7 t7 b8))
  go_ret
  exact ⟨rfl, t8.bel⟩
end Go.Proofs.Ytmkdhehdfdkbjaa.Chart
