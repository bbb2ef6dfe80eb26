/-
  The landed account: what turns it.
-/
import Derived.Test.YtmkdhehdfdkbjaaChartXb
set_option linter.unusedVariables false
set_option linter.unusedSimpArgs false
namespace Go.Proofs.Ytmkdhehdfdkbjaa.Chart
open Go.RowKit
open Go.Proofs.Ytmkdhehdfdkbjaa.Own
open Tup Foot
open Go.Proofs.Ytmkdhehdfdkbjaa.Region (fill Then Deps Each wp_region_is wp_region_is_tail)

theorem grows_below {S : Nat → Prop} {w w' : World} (h : Below w.heap.size w w') : Grows S w w' := (Grows.of_below (S := fun _ => False) h).mono (fun _ x => x.elim)
/-- what a call that turns the account leaves -/
def Left (w : World) (p bS cap : Nat) (c : Ch) (w' : World) : Prop := Grows (foot p bS) w w' ∧ ∃ on, CAt w' p c bS cap on
theorem left_below {w w' : World} {p : Nat} {c : Ch} {bS cap on : Nat} (h : CAt w p c bS cap on) (hb : Below w.heap.size w w') : Left w p bS cap c w' := ⟨grows_below hb, on, h.below hb⟩
theorem left_then {w w1 w' : World} {p : Nat} {c : Ch} {bS cap on : Nat} (hb : Below w.heap.size w w1) (h : CAt w' p c bS cap on) (g : Grows (foot p bS) w1 w') : Left w p bS cap c w' :=
  ⟨(grows_below hb).trans g (fun _ x => .inl x), on, h⟩
/-- .. by a code: where it refuses, nothing but new memory is there -/
def LeftN (w : World) (p bS cap : Nat) (x : Nat × Ch) (w' : World) : Prop := Left w p bS cap x.2 w' ∧ (x.1 ≠ 0 → Below w.heap.size w w')
theorem leftN_below {w w' : World} {p : Nat} {c : Ch} {bS cap on n : Nat} (h : CAt w p c bS cap on) (hb : Below w.heap.size w w') : LeftN w p bS cap (n, c) w' := ⟨left_below h hb, fun _ => hb⟩
theorem leftN_then {w w1 w' : World} {p : Nat} {c : Ch} {bS cap on : Nat} (hb : Below w.heap.size w w1) (h : CAt w' p c bS cap on) (g : Grows (foot p bS) w1 w') : LeftN w p bS cap (0, c) w' :=
  ⟨left_then hb h g, fun x => absurd rfl x⟩
theorem ret_nat {k : IntKind} {a b : Nat} (h : a = b) : Ending.returned (.int k (a : Int)) = .returned (.int k (b : Int)) := by rw [h]
set_option maxRecDepth 100000 in
set_option maxHeartbeats 8000000 in
theorem atSet_any {w : World} {p : Nat} {c : Ch} {bS cap on : Nat} (h : CAt w p c bS cap on) (hd : c.Ok) (i : Int) (x : Nat) (u : Int) :
    Calls Try.prog 29 #[ptr p, .int .i64 i, .int .u32 (x : Int), .int .i64 u] w fun e w' => e = .returned (.int .i64 ((setC c i x u).1 : Int)) ∧ LeftN w p bS cap (setC c i x u) w' := by
  have HA := Lib.hid (at_any h hd i)
  have HSL := Lib.hid (slots_any h hd)
  have HC := Lib.hid h
  have HD := Lib.hid hd
  unfold ptr at HA HSL ⊢
  cases hi : c.is i with
  | false =>
    rw [atV_not hi] at HA
    have HE := Lib.hid (show setC c i x u = (1, c) by unfold setC; rw [if_pos (.inl hi)])
    clear h hd hi
    go_enter Try.func29, Try.ntmps29
    go_wp2_with (go_at_call 45; (with_reducible refine HA.out.mono ?_); rintro e w3 ⟨rfl, rfl⟩)
    go_ret
    rw [HE.out]
    exact ⟨rfl, leftN_below HC.out (Below.refl _ _)⟩
  | true =>
    obtain ⟨k, rfl, hk⟩ := Ch.is_lt hi
    rw [atV_nat hk] at HA
    have hs1 := hd.s1
    have hsl : c.slots ≤ 9 := by unfold Ch.slots; omega
    have hr1 := hd.r1
    by_cases hx : x < 1 ∨ 2147483647 < x
    · have HE := Lib.hid (show setC c k x u = (1, c) by unfold setC; rw [if_pos (.inr (by omega))])
      have hd12 : decide ((x : Int) < 1) = true ∨ (decide ((x : Int) < 1) = false ∧ decide (2147483647 < (x : Int)) = true) := by simp only [decide_eq_true_eq, decide_eq_false_iff_not]; omega
      clear h hd hi hx
      rcases hd12 with d1 | ⟨d1, d2⟩
      all_goals
        go_enter Try.func29, Try.ntmps29
        go_wp2_with (go_at_call 45; (with_reducible refine HA.out.mono ?_); rintro e w3 ⟨rfl, rfl⟩)
        go_ret
        rw [HE.out]
        exact ⟨rfl, leftN_below HC.out (Below.refl _ _)⟩
    · have d1 : decide ((x : Int) < 1) = false := decide_eq_false (by omega)
      have d2 : decide (2147483647 < (x : Int)) = false := decide_eq_false (by omega)
      by_cases hu : u < 0
      · have HE := Lib.hid (show setC c k x u = (1, c) by unfold setC; rw [if_pos (.inr (.inr (.inr (.inl hu))))])
        have d3 : decide (u < 0) = true := decide_eq_true hu
        clear h hd hi hx
        go_enter Try.func29, Try.ntmps29
        go_wp2_with (go_at_call 45; (with_reducible refine HA.out.mono ?_); rintro e w3 ⟨rfl, rfl⟩)
        go_ret
        rw [HE.out]
        exact ⟨rfl, leftN_below HC.out (Below.refl _ _)⟩
      · have d3 : decide (u < 0) = false := decide_eq_false hu
        by_cases hus : (c.slots : Int) < u
        · have HE := Lib.hid (show setC c k x u = (1, c) by unfold setC; rw [if_pos (.inr (.inr (.inr (.inr hus))))])
          have d4 : decide ((c.slots : Int) < u) = true := decide_eq_true hus
          clear h hd hi hx
          go_enter Try.func29, Try.ntmps29
          go_wp2_with (first
            | (go_at_call 45; (with_reducible refine HA.out.mono ?_); rintro e w3 ⟨rfl, rfl⟩)
            | (go_at_call 47; (with_reducible refine HSL.out.mono ?_); rintro e w4 ⟨rfl, h4⟩))
          go_ret
          rw [HE.out]
          exact ⟨rfl, leftN_below HC.out h4⟩
        · have d4 : decide ((c.slots : Int) < u) = false := decide_eq_false hus
          obtain ⟨v, rfl⟩ : ∃ v : Nat, u = (v : Int) := ⟨u.toNat, by omega⟩
          have HU := Lib.hid (show ¬ (c.is (k : Int) = false ∨ x < 1 ∨ 2147483647 < x ∨ (v : Int) < 0 ∨ (c.slots : Int) < (v : Int)) by rw [hi]; simp only [Bool.true_eq_false, false_or]; omega)
          have d5 : decide (c.slots < v) = false := decide_eq_false (by omega)
          have HG := Lib.hid (fun w' (hb : Below w.heap.size w w') => (h.below hb).get hd hk)
          have HF := Lib.hid (fun x u w => isFree_any x u w)
          by_cases h0 : c.ep k = 0
          · have HE := Lib.hid (show setC c k x v = (0, c.put k x v) by unfold setC; rw [if_neg HU.out]; simp [h0])
            rw [h0] at HG
            clear h hd hi hx hus h0
            go_enter Try.func29, Try.ntmps29
            go_wp2_with (first
              | (go_at_call 45; (with_reducible refine HA.out.mono ?_); rintro e w3 ⟨rfl, rfl⟩)
              | (go_at_call 47; (with_reducible refine HSL.out.mono ?_); rintro e w4 ⟨rfl, h4⟩; have b4 := Lib.hid h4; have HGG := HG.out _ h4; have e0 := HGG.1; have e1 := HGG.2.1; clear HGG h4)
              | (go_at_call 43; (with_reducible refine (HF.out _ _ _).mono ?_); rintro e w5 ⟨rfl, h5⟩; clear e0 e1; have b5 := Lib.hid (bel2 b4.out h5); have HGG := HG.out _ b5.out; have e0 := HGG.1; have e1 := HGG.2.1; have f0 := HGG.2.2.1; have f1 := HGG.2.2.2; clear HGG h5))
            go_ret
            rw [HE.out]
            have hput := (HC.out.below b5.out).putAt k x v
            exact ⟨rfl, leftN_then b5.out hput.1 hput.2⟩
          · have HE := Lib.hid (show setC c k x v = (7, c) by unfold setC; rw [if_neg HU.out]; simp [h0])
            have HX := Lib.hid (show (((c.ep k : Nat) : Int) == 0) = false by simp; omega)
            generalize c.ep k = y at *
            generalize c.us k = z at *
            clear h hd hi hx hus h0
            go_enter Try.func29, Try.ntmps29
            go_wp2_with (first
              | (go_at_call 45; (with_reducible refine HA.out.mono ?_); rintro e w3 ⟨rfl, rfl⟩)
              | (go_at_call 47; (with_reducible refine HSL.out.mono ?_); rintro e w4 ⟨rfl, h4⟩; have b4 := Lib.hid h4; have HGG := HG.out _ h4; have e0 := HGG.1; have e1 := HGG.2.1; clear HGG h4)
              | (go_at_call 43; (with_reducible refine (HF.out _ _ _).mono ?_); rintro e w5 ⟨rfl, h5⟩; rw [HX.out]; have b5 := Lib.hid (bel2 b4.out h5); clear h5))
            go_ret
            rw [HE.out]
            exact ⟨rfl, leftN_below HC.out b5.out⟩
set_option maxRecDepth 100000 in
set_option maxHeartbeats 8000000 in
theorem atResume_any {w : World} {p : Nat} {c : Ch} {bS cap on : Nat} (h : CAt w p c bS cap on) (hd : c.Ok) (i : Int) :
    Calls Try.prog 24 #[ptr p, .int .i64 i] w fun e w' => e = .returned (.int .i64 ((resumeC c i).1 : Int)) ∧ LeftN w p bS cap (resumeC c i) w' := by
  have HA := Lib.hid (at_any h hd i)
  have HNW := Lib.hid (newest_any h hd)
  have HC := Lib.hid h
  have HD := Lib.hid hd
  unfold ptr at HA HNW ⊢
  cases hi : c.is i with
  | false =>
    rw [atV_not hi] at HA
    have HE := Lib.hid (show resumeC c i = (1, c) by unfold resumeC; rw [if_pos hi])
    clear h hd hi
    go_enter Try.func24, Try.ntmps24
    go_wp2_with (go_at_call 45; (with_reducible refine HA.out.mono ?_); rintro e w3 ⟨rfl, rfl⟩)
    go_ret
    rw [HE.out]
    exact ⟨rfl, leftN_below HC.out (Below.refl _ _)⟩
  | true =>
    obtain ⟨k, rfl, hk⟩ := Ch.is_lt hi
    rw [atV_nat hk] at HA
    have hr1 := hd.r1
    have HG := Lib.hid (fun w' (hb : Below w.heap.size w w') => (h.below hb).get hd hk)
    have HF := Lib.hid (fun x u w => isFree_any x u w)
    have HCL := Lib.hid (fun w' (hb : Below w.heap.size w w') => h.below hb)
    have HIF := Lib.hid (show ¬ c.is (k : Int) = false by rw [hi]; simp)
    by_cases h0 : c.ep k = 0
    · have HE := Lib.hid (show resumeC c k = (7, c) by unfold resumeC; rw [if_neg HIF.out]; simp [h0])
      rw [h0] at HG
      clear h hd hi h0
      generalize c.top = tp at *
      generalize c.max = mx at *
      go_enter Try.func24, Try.ntmps24
      go_wp2_with (first
        | (go_at_call 45; (with_reducible refine HA.out.mono ?_); rintro e w3 ⟨rfl, rfl⟩)
        | (go_at_call 48; (with_reducible refine HNW.out.mono ?_); rintro e w4 ⟨rfl, h4⟩; have b4 := Lib.hid h4; have HGG := HG.out _ h4; have e0 := HGG.1; have e1 := HGG.2.1; clear HGG h4)
        | (go_at_call 43; (with_reducible refine (HF.out _ _ _).mono ?_); rintro e w5 ⟨rfl, h5⟩; have b5 := Lib.hid (bel2 b4.out h5); clear h5))
      go_ret
      rw [HE.out]
      exact ⟨rfl, leftN_below HC.out b5.out⟩
    · have HX := Lib.hid (show (((c.ep k : Nat) : Int) == 0) = false by simp; omega)
      cases hnow : c.now.isSome with
      | true =>
        have HE := Lib.hid (show resumeC c k = (7, c) by unfold resumeC; rw [if_neg HIF.out, if_pos (.inr (.inl hnow))])
        have HV := Lib.hid (fun w' (hb : Below w.heap.size w w') => (h.below hb).var.cell (j := 5) rfl)
        rw [hnow] at HV
        clear h hd hi h0 hnow
        generalize c.top = tp at *
        generalize c.max = mx at *
        generalize c.ep k = y at *
        generalize c.us k = z at *
        go_enter Try.func24, Try.ntmps24
        go_wp2_with (first
          | (go_at_call 45; (with_reducible refine HA.out.mono ?_); rintro e w3 ⟨rfl, rfl⟩)
          | (go_at_call 48; (with_reducible refine HNW.out.mono ?_); rintro e w4 ⟨rfl, h4⟩; have b4 := Lib.hid h4; have HGG := HG.out _ h4; have e0 := HGG.1; have e1 := HGG.2.1; clear HGG h4)
          | (go_at_call 43; (with_reducible refine (HF.out _ _ _).mono ?_); rintro e w5 ⟨rfl, h5⟩; rw [HX.out]; have b5 := Lib.hid (bel2 b4.out h5); have v5 := HV.out _ b5.out; clear h5))
        go_ret
        rw [HE.out]
        exact ⟨rfl, leftN_below HC.out b5.out⟩
      | false =>
        have HV := Lib.hid (fun w' (hb : Below w.heap.size w w') => (h.below hb).var.cell (j := 5) rfl)
        have HV4 := Lib.hid (fun w' (hb : Below w.heap.size w w') => (h.below hb).var.frozen 4)
        have HV5 := Lib.hid (fun w' (hb : Below w.heap.size w w') => (h.below hb).var.frozen 5)
        rw [hnow] at HV
        by_cases hm : c.ep k < c.max
        · have HE := Lib.hid (show resumeC c k = (7, c) by unfold resumeC; rw [if_neg HIF.out, if_pos (.inr (.inr (by simpa using hm)))])
          have d1 : decide (((c.ep k : Nat) : Int) < (c.max : Int)) = true := decide_eq_true (by omega)
          have d2 : decide (c.ep k < c.max) = true := decide_eq_true hm
          clear h hd hi h0 hnow hm
          generalize c.top = tp at *
          generalize c.max = mx at *
          generalize c.ep k = y at *
          generalize c.us k = z at *
          go_enter Try.func24, Try.ntmps24
          go_wp2_with (first
            | (go_at_call 45; (with_reducible refine HA.out.mono ?_); rintro e w3 ⟨rfl, rfl⟩)
            | (go_at_call 48; (with_reducible refine HNW.out.mono ?_); rintro e w4 ⟨rfl, h4⟩; have b4 := Lib.hid h4; have HGG := HG.out _ h4; have e0 := HGG.1; have e1 := HGG.2.1; clear HGG h4)
            | (go_at_call 43; (with_reducible refine (HF.out _ _ _).mono ?_); rintro e w5 ⟨rfl, h5⟩; rw [HX.out]; clear e0 e1; have b5 := Lib.hid (bel2 b4.out h5); have v5 := HV.out _ b5.out; have HGG := HG.out _ b5.out; have e0 := HGG.1; have e1 := HGG.2.1; clear HGG h5))
          go_ret
          rw [HE.out]
          exact ⟨rfl, leftN_below HC.out b5.out⟩
        · have HE := Lib.hid (show resumeC c k = (0, { c with now := some k }) by unfold resumeC; rw [if_neg HIF.out, if_neg (by simp only [Int.toNat_natCast, hnow]; simp [h0]; omega)]; rfl)
          have d1 : decide (((c.ep k : Nat) : Int) < (c.max : Int)) = false := decide_eq_false (by omega)
          have d2 : decide (c.ep k < c.max) = false := decide_eq_false hm
          clear h hd hi h0 hnow hm
          generalize c.top = tp at *
          generalize c.max = mx at *
          generalize c.ep k = y at *
          generalize c.us k = z at *
          have HV0 := Lib.hid (fun w' (hb : Below w.heap.size w w') => (HCL.out w' hb).var.cell (j := 4) rfl)
          go_enter Try.func24, Try.ntmps24
          go_wp2_with (first
            | (go_at_call 45; (with_reducible refine HA.out.mono ?_); rintro e w3 ⟨rfl, rfl⟩)
            | (go_at_call 48; (with_reducible refine HNW.out.mono ?_); rintro e w4 ⟨rfl, h4⟩; have b4 := Lib.hid h4; have HGG := HG.out _ h4; have e0 := HGG.1; have e1 := HGG.2.1; clear HGG h4)
            | (go_at_call 43; (with_reducible refine (HF.out _ _ _).mono ?_); rintro e w5 ⟨rfl, h5⟩; rw [HX.out]; clear e0 e1; have b5 := Lib.hid (bel2 b4.out h5); have v5 := HV.out _ b5.out; have v4 := HV0.out _ b5.out; have f4 := HV4.out _ b5.out; have f5 := HV5.out _ b5.out; have HGG := HG.out _ b5.out; have e0 := HGG.1; have e1 := HGG.2.1; clear HGG h5))
          go_ret
          rw [HE.out]
          have hnw := (HC.out.below b5.out).nowAt k (by omega)
          exact ⟨rfl, leftN_then b5.out hnw.1 hnw.2⟩
set_option maxRecDepth 100000 in
set_option maxHeartbeats 8000000 in
theorem atErase_any {w : World} {p : Nat} {c : Ch} {bS cap on : Nat} (h : CAt w p c bS cap on) (hd : c.Ok) (i : Int) :
    Calls Try.prog 25 #[ptr p, .int .i64 i] w fun e w' => e = .returned (.int .i64 ((eraseC c i).1 : Int)) ∧ LeftN w p bS cap (eraseC c i) w' := by
  have HA := Lib.hid (at_any h hd i)
  have HC := Lib.hid h
  have HD := Lib.hid hd
  unfold ptr at HA ⊢
  cases hi : c.is i with
  | false =>
    rw [atV_not hi] at HA
    have HE := Lib.hid (show eraseC c i = (1, c) by unfold eraseC; rw [if_pos hi])
    clear h hd hi
    go_enter Try.func25, Try.ntmps25
    go_wp2_with (go_at_call 45; (with_reducible refine HA.out.mono ?_); rintro e w3 ⟨rfl, rfl⟩)
    go_ret
    rw [HE.out]
    exact ⟨rfl, leftN_below HC.out (Below.refl _ _)⟩
  | true =>
    obtain ⟨k, rfl, hk⟩ := Ch.is_lt hi
    rw [atV_nat hk] at HA
    have hr1 := hd.r1
    have HG := Lib.hid (fun w' (hb : Below w.heap.size w w') => (h.below hb).get hd hk)
    have HF := Lib.hid (fun x u w => isFree_any x u w)
    have HO := Lib.hid (fun w' (hb : Below w.heap.size w w') => isOpen_any (h.below hb) k)
    unfold ptr at HO
    have HIF := Lib.hid (show ¬ c.is (k : Int) = false by rw [hi]; simp)
    have e0 := (HG.out _ (Below.refl _ _)).1
    have e1 := (HG.out _ (Below.refl _ _)).2.1
    by_cases h0 : c.ep k = 0
    · have HE := Lib.hid (show eraseC c k = (7, c) by unfold eraseC; rw [if_neg HIF.out]; simp [h0])
      have HX := Lib.hid (show (((c.ep k : Nat) : Int) == 0) = true by rw [h0]; rfl)
      clear h hd hi h0
      generalize c.ep k = y at *
      generalize c.us k = z at *
      go_enter Try.func25, Try.ntmps25
      go_wp2_with (first
        | (go_at_call 45; (with_reducible refine HA.out.mono ?_); rintro e w3 ⟨rfl, rfl⟩)
        | (go_at_call 43; (with_reducible refine (HF.out _ _ _).mono ?_); rintro e w5 ⟨rfl, h5⟩; rw [HX.out]))
      go_ret
      rw [HE.out]
      exact ⟨rfl, leftN_below HC.out h5⟩
    · have HX := Lib.hid (show (((c.ep k : Nat) : Int) == 0) = false by simp; omega)
      by_cases hno : c.now = some k
      · have HE := Lib.hid (show eraseC c k = (7, c) by unfold eraseC; rw [if_neg HIF.out]; simp [hno])
        rw [show decide (c.now = some k) = true by simp [hno]] at HO
        clear h hd hi h0 hno
        generalize c.ep k = y at *
        generalize c.us k = z at *
        go_enter Try.func25, Try.ntmps25
        go_wp2_with (first
          | (go_at_call 45; (with_reducible refine HA.out.mono ?_); rintro e w3 ⟨rfl, rfl⟩)
          | (go_at_call 43; (with_reducible refine (HF.out _ _ _).mono ?_); rintro e w5 ⟨rfl, h5⟩; rw [HX.out])
          | (go_at_call 44; (with_reducible refine (HO.out _ h5).mono ?_); rintro e w6 ⟨rfl, rfl⟩))
        go_ret
        rw [HE.out]
        exact ⟨rfl, leftN_below HC.out h5⟩
      · have HE := Lib.hid (show eraseC c k = (0, c.put k 0 0) by unfold eraseC; rw [if_neg HIF.out]; simp [hno, h0])
        rw [show decide (c.now = some k) = false by simp [hno]] at HO
        clear h hd hi h0 hno
        generalize c.ep k = y at *
        generalize c.us k = z at *
        go_enter Try.func25, Try.ntmps25
        go_wp2_with (first
          | (go_at_call 45; (with_reducible refine HA.out.mono ?_); rintro e w3 ⟨rfl, rfl⟩)
          | (go_at_call 43; (with_reducible refine (HF.out _ _ _).mono ?_); rintro e w5 ⟨rfl, h5⟩; rw [HX.out]; clear e0 e1; have HGG := HG.out _ h5; have e0 := HGG.1; have e1 := HGG.2.1; have f0 := HGG.2.2.1; have f1 := HGG.2.2.2; clear HGG)
          | (go_at_call 44; (with_reducible refine (HO.out _ h5).mono ?_); rintro e w6 ⟨rfl, rfl⟩))
        go_ret
        rw [HE.out]
        have hput := (HC.out.below h5).putAt k 0 0
        exact ⟨rfl, leftN_then h5 hput.1 hput.2⟩
end Go.Proofs.Ytmkdhehdfdkbjaa.Chart
