/-
  ChartNew's walk; ChartEnd's.
-/
import Derived.Test.YtmkdhehdfdkbjaaChartL
set_option linter.unusedVariables false
set_option linter.unusedSimpArgs false
namespace Go.Proofs.Ytmkdhehdfdkbjaa.Chart
open Go.RowKit
open Go.Proofs.Ytmkdhehdfdkbjaa.Own
open Tup Foot
open Go.Proofs.Ytmkdhehdfdkbjaa.Region (fill Then Deps Each wp_region_is wp_region_is_tail)

theorem new_cnt (pg pgs rgs k : Nat) : (newC pg pgs rgs).cntTo k = k := by
  induction k with
  | zero => rfl
  | succ k ih => rw [Ch.cntTo, if_pos (new_ep _ _ _ _), ih]
theorem new_old (pg pgs rgs k : Nat) : (newC pg pgs rgs).oldTo k = none := by
  induction k with
  | zero => rfl
  | succ k ih => rw [Ch.oldTo, if_pos (.inl (new_ep _ _ _ _)), ih]
theorem new_free (pg pgs rgs : Nat) : (newC pg pgs rgs).free = rgs := new_cnt _ _ _ _
theorem new_left (pg pgs rgs : Nat) : (newC pg pgs rgs).left = 0 := rfl
theorem new_avail (pg pgs rgs : Nat) : (newC pg pgs rgs).avail = (rgs - 2) * (pgs - 1) := by unfold Ch.avail; rw [new_free, new_left]; simp [Ch.slots, newC]
theorem new_oldest (pg pgs rgs : Nat) : oldestC (newC pg pgs rgs) = (0, false) := by unfold oldestC; rw [new_old]
theorem new_take (pg pgs rgs : Nat) : takeC (newC pg pgs rgs) = ((0, false), newC pg pgs rgs) := take_full (new_left _ _ _)
theorem new_resume (pg pgs rgs : Nat) (h : 0 < rgs) : resumeC (newC pg pgs rgs) 0 = (7, newC pg pgs rgs) := by
  unfold resumeC
  rw [if_neg (by rw [show (0 : Int) = ((0 : Nat) : Int) from rfl, Ch.is_nat (show 0 < (newC pg pgs rgs).rgs from h)]; simp), if_pos (.inl (new_ep _ _ _ _))]
theorem new_erase (pg pgs rgs : Nat) (h : 0 < rgs) : eraseC (newC pg pgs rgs) 0 = (7, newC pg pgs rgs) := by
  unfold eraseC
  rw [if_neg (by rw [show (0 : Int) = ((0 : Nat) : Int) from rfl, Ch.is_nat (show 0 < (newC pg pgs rgs).rgs from h)]; simp), if_pos (.inl (new_ep _ _ _ _))]
theorem held_eq (pg pgs rgs : Nat) (s0 : 3 ≤ pgs) (r0 : 4 ≤ rgs) : Geom.heldG ⟨pg, pgs, rgs⟩ = (((rgs - 2) * (pgs - 1) : Nat) : Int) := by
  unfold Geom.heldG
  simp only
  rw [Int.natCast_mul, Int.natCast_sub (by omega), Int.natCast_sub (by omega)]; rfl
set_option maxRecDepth 100000 in
set_option maxHeartbeats 16000000 in
theorem new_far (pg pgs rgs : Nat) (p0 : 32 ≤ pg) (p1 : pg ≤ 128) (s0 : 3 ≤ pgs) (s1 : pgs ≤ 10) (r0 : 4 ≤ rgs) (r1 : rgs ≤ 12) (w : World) :
    Calls Try.prog 4 #[.agg #[.int .i64 (pg : Int), .int .i64 (pgs : Int), .int .i64 (rgs : Int)], .bool false] w fun e w' => e = .returned (.bool true) ∧ Below w.heap.size w w' := by
  have HAL := Lib.hid (fun w => alive_any w)
  have HN : Hid (∀ w, Calls Try.prog 11 #[.agg #[.int .i64 (pg : Int), .int .i64 (pgs : Int), .int .i64 (rgs : Int)]] w fun e w' => ∃ p S, e = .returned (.pointer (some ⟨p, 0, none⟩)) ∧ CHas w' p (newC pg pgs rgs) S ∧ Below w.heap.size w w' ∧ ∀ k, S k → w.heap.size ≤ k) := fun w => new_good pg pgs rgs p0 p1 s0 s1 r0 r1 w
  have HGR : Hid (∀ w, Calls Try.prog 17 #[.agg #[.int .i64 (pg : Int), .int .i64 (pgs : Int), .int .i64 (rgs : Int)]] w fun e w' => e = .returned (.bool true) ∧ Below w.heap.size w w') := fun w => by
    have := Geom.refRight_any ⟨pg, pgs, rgs⟩ w
    rw [Geom.right_small.mpr ⟨by simp only; omega, by simp only; omega, by simp only; omega, by simp only; omega, by simp only; omega, by simp only; omega⟩] at this
    exact this
  have OK0 := Lib.hid (new_ok (pg := pg) (pgs := pgs) (rgs := rgs) p0 p1 s0 s1 r0 r1)
  have HHE : Hid (∀ w, Calls Try.prog 23 #[.agg #[.int .i64 (pg : Int), .int .i64 (pgs : Int), .int .i64 (rgs : Int)]] w fun e w' => e = .returned (.int .i64 (((rgs - 2) * (pgs - 1) : Nat) : Int)) ∧ Below w.heap.size w w') := fun w => by
    have := Geom.refHeld_any ⟨pg, pgs, rgs⟩ ⟨by simp only; omega, by simp only; omega, by simp only; omega, by simp only; omega, by simp only; omega, by simp only; omega⟩ w
    rw [held_eq pg pgs rgs s0 r0] at this
    exact this
  have HO : Hid (∀ w p S, CHas w p (newC pg pgs rgs) S → Calls Try.prog 18 #[.pointer (some ⟨p, 0, none⟩)] w fun e w' => e = .returned (.tuple #[.int .i64 0, .bool false]) ∧ Below w.heap.size w w') := fun w p S h => by
    have := cOldest_any h OK0.out
    rw [new_oldest] at this; exact this
  have HT : Hid (∀ w p S, CHas w p (newC pg pgs rgs) S → Calls Try.prog 19 #[.pointer (some ⟨p, 0, none⟩)] w fun e w' => e = .returned (.tuple #[.int .i64 0, .bool false]) ∧ CHas w' p (newC pg pgs rgs) S ∧ Grows S w w') := fun w p S h => by
    have := cTake_any h OK0.out
    rw [new_take] at this; exact this
  have HF : Hid (∀ w p S, CHas w p (newC pg pgs rgs) S → Calls Try.prog 20 #[.pointer (some ⟨p, 0, none⟩)] w fun e w' => e = .returned (.int .i64 (rgs : Int)) ∧ Below w.heap.size w w') := fun w p S h => by
    have := cFree_any h OK0.out
    rw [new_free] at this; exact this
  have HL : Hid (∀ w p S, CHas w p (newC pg pgs rgs) S → Calls Try.prog 21 #[.pointer (some ⟨p, 0, none⟩)] w fun e w' => e = .returned (.int .i64 0) ∧ Below w.heap.size w w') := fun w p S h => by
    have := cLeft_any h OK0.out
    rw [new_left] at this; exact this
  have HA : Hid (∀ w p S, CHas w p (newC pg pgs rgs) S → Calls Try.prog 22 #[.pointer (some ⟨p, 0, none⟩)] w fun e w' => e = .returned (.int .i64 (((rgs - 2) * (pgs - 1) : Nat) : Int)) ∧ Below w.heap.size w w') := fun w p S h => by
    have := cAvail_any h OK0.out
    rw [new_avail] at this; exact this
  have HR : Hid (∀ w p S, CHas w p (newC pg pgs rgs) S → Calls Try.prog 24 #[.pointer (some ⟨p, 0, none⟩), .int .i64 0] w fun e w' => e = .returned (.int .i64 7) ∧ Below w.heap.size w w') := fun w p S h => by
    have := cResume_any h OK0.out 0
    rw [new_resume pg pgs rgs (by omega)] at this
    exact this.mono fun e w' q => ⟨q.1, q.2.2.2 (show (7 : Nat) ≠ 0 by decide)⟩
  have HE : Hid (∀ w p S, CHas w p (newC pg pgs rgs) S → Calls Try.prog 25 #[.pointer (some ⟨p, 0, none⟩), .int .i64 0] w fun e w' => e = .returned (.int .i64 7) ∧ Below w.heap.size w w') := fun w p S h => by
    have := cErase_any h OK0.out 0
    rw [new_erase pg pgs rgs (by omega)] at this
    exact this.mono fun e w' q => ⟨q.1, q.2.2.2 (show (7 : Nat) ≠ 0 by decide)⟩
  obtain ⟨av, hav⟩ : ∃ av, av = (rgs - 2) * (pgs - 1) := ⟨_, rfl⟩
  rw [← hav] at HA HHE
  clear hav
  have z1 : ((rgs : Int) == (rgs : Int)) = true := by simp
  have z2 : ((av : Int) == (av : Int)) = true := by simp
  have VN := Lib.hid (Var.new w 23 [.int .i64 (pg : Int), .int .i64 (pgs : Int), .int .i64 (rgs : Int)])
  have BN := Lib.hid (Geom.bel_alloc w (.cells #[.int .i64 (pg : Int), .int .i64 (pgs : Int), .int .i64 (rgs : Int)] 23))
  have c0 := VN.out.cell (j := 0) rfl
  have c1 := VN.out.cell (j := 1) rfl
  have c2 := VN.out.cell (j := 2) rfl
  go_enter Try.func4, Try.ntmps4
  go_wp2_with (first
    | (go_at_call 11; (with_reducible refine (HN.out _).mono ?_); rintro e w2 ⟨p, S, rfl, h2, b2, s2⟩; have v2 := VN.out.below b2 VN.out.lt; have V2 := Lib.hid v2; have H2 := Lib.hid h2; have BW2 := Lib.hid (BN.out.trans (b2.mono BN.out.size)); have S2L := Lib.hid (show ∀ k, S k → w.heap.size + 1 ≤ k from fun k hk => Nat.le_trans VN.out.lt (s2 k hk)); clear v2 h2 b2 s2; clear c0 c1 c2)
    | (go_at_call 12; (with_reducible refine (HAL.out _).mono ?_); rintro e w3 ⟨rfl, b3⟩; have V3 := Lib.hid (V2.out.below b3 V2.out.lt); have H3 := Lib.hid (H2.out.below b3); have BW3 := Lib.hid (BW2.out.trans (b3.mono BW2.out.size)); clear b3; have k0 := V3.out.cell (j := 0) rfl; have k1 := V3.out.cell (j := 1) rfl; have k2 := V3.out.cell (j := 2) rfl)
    | (go_at_call 17; (with_reducible refine (HGR.out _).mono ?_); rintro e w4 ⟨rfl, b4⟩; have V4 := Lib.hid (V3.out.below b4 V3.out.lt); have H4 := Lib.hid (H3.out.below b4); have BW4 := Lib.hid (BW3.out.trans (b4.mono BW3.out.size)); clear b4 k0 k1 k2)
    | (go_at_call 18; (with_reducible refine (HO.out _ _ _ H4.out).mono ?_); rintro e w5 ⟨rfl, b5⟩; have V5 := Lib.hid (V4.out.below b5 V4.out.lt); have H5 := Lib.hid (H4.out.below b5); have BW5 := Lib.hid (BW4.out.trans (b5.mono BW4.out.size)); clear b5)
    | (go_at_call 19; (with_reducible refine (HT.out _ _ _ H5.out).mono ?_); rintro e w6 ⟨rfl, h6, g6⟩; have V6 := Lib.hid (g6.var V5.out (fun hs => by have := S2L.out _ hs; omega)); have H6 := Lib.hid h6; have BW6 := Lib.hid (BW5.out.trans ((g6.below (B := w.heap.size) BW5.out.size (fun k hk => by have := S2L.out k hk; omega)))); clear h6 g6))
  refine wp_region_is [39, 40, 41, 42, 43, 44, 45, 46, 47, 48, 49, 50, 51, 52, 53, 54, 55, 56, 57, 58, 59, 60, 61, 62, 63, 64, 65, 66, 67, 68, 69, 70, 71, 72, 73, 4] (fun w' => Below w6.heap.size w6 w')
    [.pointer (some ⟨p, 0, none⟩), .int .i64 (rgs : Int), .pointer (some ⟨w.heap.size, 2, none⟩), .int .i64 (rgs : Int), .bool true, .bool true, .pointer (some ⟨p, 0, none⟩), .int .i64 0, .bool true, .bool true, .bool true, .pointer (some ⟨p, 0, none⟩), .int .i64 (av : Int), .agg #[.int .i64 (pg : Int), .int .i64 (pgs : Int), .int .i64 (rgs : Int)], .int .i64 (av : Int), .bool true, .bool true, .bool true, .bool false, .bool true, .bool true, .bool true, .bool false, .bool true, .bool true, .bool true, .pointer (some ⟨p, 0, none⟩), .int .i64 7, .bool true, .bool true, .bool true, .pointer (some ⟨p, 0, none⟩), .int .i64 7, .bool true, .bool true, .bool true] (by kernel_rfl) (by kernel_rfl) rfl (by decide) (by simp) (Below.refl _ _).drew ?each ?done
  case each =>
    simp only [Each]
    repeat' (first | exact trivial | refine And.intro ?_ ?_)
    all_goals
      intro ys wx hBx hdeps
      simp only [Deps, Region.binds, List.getD_cons_zero, List.getD_cons_succ, forall_const, and_true] at hdeps
      have c0 : wx.cell? ⟨w.heap.size, 0, none⟩ = some (.int .i64 (pg : Int)) := (V6.out.below hBx V6.out.lt).cell (j := 0) rfl
      have c1 : wx.cell? ⟨w.heap.size, 1, none⟩ = some (.int .i64 (pgs : Int)) := (V6.out.below hBx V6.out.lt).cell (j := 1) rfl
      have c2 : wx.cell? ⟨w.heap.size, 2, none⟩ = some (.int .i64 (rgs : Int)) := (V6.out.below hBx V6.out.lt).cell (j := 2) rfl
      simp only [hdeps, fill, List.foldl_cons, List.foldl_nil, Act.put, List.setIfInBounds_toArray, List.set_cons_succ, List.set_cons_zero]
      first
        | (go_wp2_with fail; exact ⟨_, rfl, rfl, hBx, Below.refl _ _⟩)
        | (go_wp2_with (go_at_call 20; (with_reducible refine (HF.out _ _ _ (H6.out.below hBx)).mono ?_); rintro e w3 ⟨rfl, hm⟩); exact ⟨_, rfl, rfl, hBx.trans (hm.mono hBx.size), hm⟩)
        | (go_wp2_with (go_at_call 21; (with_reducible refine (HL.out _ _ _ (H6.out.below hBx)).mono ?_); rintro e w3 ⟨rfl, hm⟩); exact ⟨_, rfl, rfl, hBx.trans (hm.mono hBx.size), hm⟩)
        | (go_wp2_with (go_at_call 22; (with_reducible refine (HA.out _ _ _ (H6.out.below hBx)).mono ?_); rintro e w3 ⟨rfl, hm⟩); exact ⟨_, rfl, rfl, hBx.trans (hm.mono hBx.size), hm⟩)
        | (go_wp2_with (go_at_call 23; (with_reducible refine (HHE.out _).mono ?_); rintro e w3 ⟨rfl, hm⟩); exact ⟨_, rfl, rfl, hBx.trans (hm.mono hBx.size), hm⟩)
        | (go_wp2_with (go_at_call 24; (with_reducible refine (HR.out _ _ _ (H6.out.below hBx)).mono ?_); rintro e w3 ⟨rfl, hm⟩); exact ⟨_, rfl, rfl, hBx.trans (hm.mono hBx.size), hm⟩)
        | (go_wp2_with (go_at_call 25; (with_reducible refine (HE.out _ _ _ (H6.out.below hBx)).mono ?_); rintro e w3 ⟨rfl, hm⟩); exact ⟨_, rfl, rfl, hBx.trans (hm.mono hBx.size), hm⟩)
  case done =>
    intro ys wx hBx hV
    have h4 : ys 4 = .bool true := hV 35 (by decide)
    have B7 := Lib.hid (BW6.out.trans (hBx.mono BW6.out.size))
    clear hBx hV
    simp only [h4, fill, List.drop_succ_cons, List.drop_zero, List.foldl_cons, List.foldl_nil, Act.put, List.setIfInBounds_toArray, List.set_cons_succ, List.set_cons_zero]
    go_wp2
    go_ret
    exact ⟨rfl, B7.out⟩
set_option maxRecDepth 100000 in
set_option maxHeartbeats 16000000 in
theorem new_near (gp gs gr : Int) (pg pgs rgs : Nat) (hg : Geom.smallG ⟨gp, gs, gr⟩ = ⟨pg, pgs, rgs⟩) (p0 : 32 ≤ pg) (p1 : pg ≤ 128) (s0 : 3 ≤ pgs) (s1 : pgs ≤ 10) (r0 : 4 ≤ rgs) (r1 : rgs ≤ 12) (w : World) :
    Calls Try.prog 4 #[.agg #[.int .i64 gp, .int .i64 gs, .int .i64 gr], .bool true] w fun e w' => e = .returned (.bool true) ∧ Below w.heap.size w w' := by
  have HAL := Lib.hid (fun w => alive_any w)
  have HN : Hid (∀ w, Calls Try.prog 11 #[.agg #[.int .i64 (pg : Int), .int .i64 (pgs : Int), .int .i64 (rgs : Int)]] w fun e w' => ∃ p S, e = .returned (.pointer (some ⟨p, 0, none⟩)) ∧ CHas w' p (newC pg pgs rgs) S ∧ Below w.heap.size w w' ∧ ∀ k, S k → w.heap.size ≤ k) := fun w => new_good pg pgs rgs p0 p1 s0 s1 r0 r1 w
  have HGR : Hid (∀ w, Calls Try.prog 17 #[.agg #[.int .i64 (pg : Int), .int .i64 (pgs : Int), .int .i64 (rgs : Int)]] w fun e w' => e = .returned (.bool true) ∧ Below w.heap.size w w') := fun w => by
    have := Geom.refRight_any ⟨pg, pgs, rgs⟩ w
    rw [Geom.right_small.mpr ⟨by simp only; omega, by simp only; omega, by simp only; omega, by simp only; omega, by simp only; omega, by simp only; omega⟩] at this
    exact this
  have OK0 := Lib.hid (new_ok (pg := pg) (pgs := pgs) (rgs := rgs) p0 p1 s0 s1 r0 r1)
  have HHE : Hid (∀ w, Calls Try.prog 23 #[.agg #[.int .i64 (pg : Int), .int .i64 (pgs : Int), .int .i64 (rgs : Int)]] w fun e w' => e = .returned (.int .i64 (((rgs - 2) * (pgs - 1) : Nat) : Int)) ∧ Below w.heap.size w w') := fun w => by
    have := Geom.refHeld_any ⟨pg, pgs, rgs⟩ ⟨by simp only; omega, by simp only; omega, by simp only; omega, by simp only; omega, by simp only; omega, by simp only; omega⟩ w
    rw [held_eq pg pgs rgs s0 r0] at this
    exact this
  have HO : Hid (∀ w p S, CHas w p (newC pg pgs rgs) S → Calls Try.prog 18 #[.pointer (some ⟨p, 0, none⟩)] w fun e w' => e = .returned (.tuple #[.int .i64 0, .bool false]) ∧ Below w.heap.size w w') := fun w p S h => by
    have := cOldest_any h OK0.out
    rw [new_oldest] at this; exact this
  have HT : Hid (∀ w p S, CHas w p (newC pg pgs rgs) S → Calls Try.prog 19 #[.pointer (some ⟨p, 0, none⟩)] w fun e w' => e = .returned (.tuple #[.int .i64 0, .bool false]) ∧ CHas w' p (newC pg pgs rgs) S ∧ Grows S w w') := fun w p S h => by
    have := cTake_any h OK0.out
    rw [new_take] at this; exact this
  have HF : Hid (∀ w p S, CHas w p (newC pg pgs rgs) S → Calls Try.prog 20 #[.pointer (some ⟨p, 0, none⟩)] w fun e w' => e = .returned (.int .i64 (rgs : Int)) ∧ Below w.heap.size w w') := fun w p S h => by
    have := cFree_any h OK0.out
    rw [new_free] at this; exact this
  have HL : Hid (∀ w p S, CHas w p (newC pg pgs rgs) S → Calls Try.prog 21 #[.pointer (some ⟨p, 0, none⟩)] w fun e w' => e = .returned (.int .i64 0) ∧ Below w.heap.size w w') := fun w p S h => by
    have := cLeft_any h OK0.out
    rw [new_left] at this; exact this
  have HA : Hid (∀ w p S, CHas w p (newC pg pgs rgs) S → Calls Try.prog 22 #[.pointer (some ⟨p, 0, none⟩)] w fun e w' => e = .returned (.int .i64 (((rgs - 2) * (pgs - 1) : Nat) : Int)) ∧ Below w.heap.size w w') := fun w p S h => by
    have := cAvail_any h OK0.out
    rw [new_avail] at this; exact this
  have HR : Hid (∀ w p S, CHas w p (newC pg pgs rgs) S → Calls Try.prog 24 #[.pointer (some ⟨p, 0, none⟩), .int .i64 0] w fun e w' => e = .returned (.int .i64 7) ∧ Below w.heap.size w w') := fun w p S h => by
    have := cResume_any h OK0.out 0
    rw [new_resume pg pgs rgs (by omega)] at this
    exact this.mono fun e w' q => ⟨q.1, q.2.2.2 (show (7 : Nat) ≠ 0 by decide)⟩
  have HE : Hid (∀ w p S, CHas w p (newC pg pgs rgs) S → Calls Try.prog 25 #[.pointer (some ⟨p, 0, none⟩), .int .i64 0] w fun e w' => e = .returned (.int .i64 7) ∧ Below w.heap.size w w') := fun w p S h => by
    have := cErase_any h OK0.out 0
    rw [new_erase pg pgs rgs (by omega)] at this
    exact this.mono fun e w' q => ⟨q.1, q.2.2.2 (show (7 : Nat) ≠ 0 by decide)⟩
  obtain ⟨av, hav⟩ : ∃ av, av = (rgs - 2) * (pgs - 1) := ⟨_, rfl⟩
  rw [← hav] at HA HHE
  clear hav
  have z1 : ((rgs : Int) == (rgs : Int)) = true := by simp
  have z2 : ((av : Int) == (av : Int)) = true := by simp
  have HG : Hid (∀ w, Calls Try.prog 10 #[.agg #[.int .i64 gp, .int .i64 gs, .int .i64 gr]] w fun e w' => e = .returned (.agg #[.int .i64 (pg : Int), .int .i64 (pgs : Int), .int .i64 (rgs : Int)]) ∧ Below w.heap.size w w') := fun w => by
    have := Geom.geom_any ⟨gp, gs, gr⟩ w
    rw [hg] at this; exact this
  have HV0 := Lib.hid (Var.new w 23 [.int .i64 gp, .int .i64 gs, .int .i64 gr])
  clear hg
  go_enter Try.func4, Try.ntmps4
  go_wp2_with (first
    | (go_at_call 10; (with_reducible refine (HG.out _).mono ?_); rintro e wg ⟨rfl, bg⟩; have vg := HV0.out.below bg HV0.out.lt; have c0 := vg.cell (j := 0) rfl; have c1 := vg.cell (j := 1) rfl; have c2 := vg.cell (j := 2) rfl; have f0 := vg.frozen 0; have f1 := vg.frozen 1; have f2 := vg.frozen 2; have vs := ((vg.set 0 (.int .i64 (pg : Int))).set 1 (.int .i64 (pgs : Int))).set 2 (.int .i64 (rgs : Int)); have VN := Lib.hid vs; have k0 := vs.cell (j := 0) rfl; have k1 := vs.cell (j := 1) rfl; have k2 := vs.cell (j := 2) rfl; have BN := Lib.hid ((((bel2 (Geom.bel_alloc w (.cells #[.int .i64 gp, .int .i64 gs, .int .i64 gr] 23)) bg).setCell (p := ⟨w.heap.size, 0, none⟩) (Nat.le_refl _) (.int .i64 (pg : Int))).setCell (p := ⟨w.heap.size, 1, none⟩) (Nat.le_refl _) (.int .i64 (pgs : Int))).setCell (p := ⟨w.heap.size, 2, none⟩) (Nat.le_refl _) (.int .i64 (rgs : Int))); clear vg bg vs)
    | (go_at_call 11; (with_reducible refine (HN.out _).mono ?_); rintro e w2 ⟨p, S, rfl, h2, b2, s2⟩; have v2 := VN.out.below b2 VN.out.lt; have V2 := Lib.hid v2; have H2 := Lib.hid h2; have BW2 := Lib.hid (BN.out.trans (b2.mono BN.out.size)); have S2L := Lib.hid (show ∀ k, S k → w.heap.size + 1 ≤ k from fun k hk => Nat.le_trans VN.out.lt (s2 k hk)); clear v2 h2 b2 s2; clear k0 k1 k2 f0 f1 f2 c0 c1 c2)
    | (go_at_call 12; (with_reducible refine (HAL.out _).mono ?_); rintro e w3 ⟨rfl, b3⟩; have V3 := Lib.hid (V2.out.below b3 V2.out.lt); have H3 := Lib.hid (H2.out.below b3); have BW3 := Lib.hid (BW2.out.trans (b3.mono BW2.out.size)); clear b3; have k0 := V3.out.cell (j := 0) rfl; have k1 := V3.out.cell (j := 1) rfl; have k2 := V3.out.cell (j := 2) rfl)
    | (go_at_call 17; (with_reducible refine (HGR.out _).mono ?_); rintro e w4 ⟨rfl, b4⟩; have V4 := Lib.hid (V3.out.below b4 V3.out.lt); have H4 := Lib.hid (H3.out.below b4); have BW4 := Lib.hid (BW3.out.trans (b4.mono BW3.out.size)); clear b4 k0 k1 k2)
    | (go_at_call 18; (with_reducible refine (HO.out _ _ _ H4.out).mono ?_); rintro e w5 ⟨rfl, b5⟩; have V5 := Lib.hid (V4.out.below b5 V4.out.lt); have H5 := Lib.hid (H4.out.below b5); have BW5 := Lib.hid (BW4.out.trans (b5.mono BW4.out.size)); clear b5)
    | (go_at_call 19; (with_reducible refine (HT.out _ _ _ H5.out).mono ?_); rintro e w6 ⟨rfl, h6, g6⟩; have V6 := Lib.hid (g6.var V5.out (fun hs => by have := S2L.out _ hs; omega)); have H6 := Lib.hid h6; have BW6 := Lib.hid (BW5.out.trans ((g6.below (B := w.heap.size) BW5.out.size (fun k hk => by have := S2L.out k hk; omega)))); clear h6 g6))
  refine wp_region_is [39, 40, 41, 42, 43, 44, 45, 46, 47, 48, 49, 50, 51, 52, 53, 54, 55, 56, 57, 58, 59, 60, 61, 62, 63, 64, 65, 66, 67, 68, 69, 70, 71, 72, 73, 4] (fun w' => Below w6.heap.size w6 w')
    [.pointer (some ⟨p, 0, none⟩), .int .i64 (rgs : Int), .pointer (some ⟨w.heap.size, 2, none⟩), .int .i64 (rgs : Int), .bool true, .bool true, .pointer (some ⟨p, 0, none⟩), .int .i64 0, .bool true, .bool true, .bool true, .pointer (some ⟨p, 0, none⟩), .int .i64 (av : Int), .agg #[.int .i64 (pg : Int), .int .i64 (pgs : Int), .int .i64 (rgs : Int)], .int .i64 (av : Int), .bool true, .bool true, .bool true, .bool false, .bool true, .bool true, .bool true, .bool false, .bool true, .bool true, .bool true, .pointer (some ⟨p, 0, none⟩), .int .i64 7, .bool true, .bool true, .bool true, .pointer (some ⟨p, 0, none⟩), .int .i64 7, .bool true, .bool true, .bool true] (by kernel_rfl) (by kernel_rfl) rfl (by decide) (by simp) (Below.refl _ _).drew ?each ?done
  case each =>
    simp only [Each]
    repeat' (first | exact trivial | refine And.intro ?_ ?_)
    all_goals
      intro ys wx hBx hdeps
      simp only [Deps, Region.binds, List.getD_cons_zero, List.getD_cons_succ, forall_const, and_true] at hdeps
      have c0 : wx.cell? ⟨w.heap.size, 0, none⟩ = some (.int .i64 (pg : Int)) := (V6.out.below hBx V6.out.lt).cell (j := 0) rfl
      have c1 : wx.cell? ⟨w.heap.size, 1, none⟩ = some (.int .i64 (pgs : Int)) := (V6.out.below hBx V6.out.lt).cell (j := 1) rfl
      have c2 : wx.cell? ⟨w.heap.size, 2, none⟩ = some (.int .i64 (rgs : Int)) := (V6.out.below hBx V6.out.lt).cell (j := 2) rfl
      simp only [hdeps, fill, List.foldl_cons, List.foldl_nil, Act.put, List.setIfInBounds_toArray, List.set_cons_succ, List.set_cons_zero]
      first
        | (go_wp2_with fail; exact ⟨_, rfl, rfl, hBx, Below.refl _ _⟩)
        | (go_wp2_with (go_at_call 20; (with_reducible refine (HF.out _ _ _ (H6.out.below hBx)).mono ?_); rintro e w3 ⟨rfl, hm⟩); exact ⟨_, rfl, rfl, hBx.trans (hm.mono hBx.size), hm⟩)
        | (go_wp2_with (go_at_call 21; (with_reducible refine (HL.out _ _ _ (H6.out.below hBx)).mono ?_); rintro e w3 ⟨rfl, hm⟩); exact ⟨_, rfl, rfl, hBx.trans (hm.mono hBx.size), hm⟩)
        | (go_wp2_with (go_at_call 22; (with_reducible refine (HA.out _ _ _ (H6.out.below hBx)).mono ?_); rintro e w3 ⟨rfl, hm⟩); exact ⟨_, rfl, rfl, hBx.trans (hm.mono hBx.size), hm⟩)
        | (go_wp2_with (go_at_call 23; (with_reducible refine (HHE.out _).mono ?_); rintro e w3 ⟨rfl, hm⟩); exact ⟨_, rfl, rfl, hBx.trans (hm.mono hBx.size), hm⟩)
        | (go_wp2_with (go_at_call 24; (with_reducible refine (HR.out _ _ _ (H6.out.below hBx)).mono ?_); rintro e w3 ⟨rfl, hm⟩); exact ⟨_, rfl, rfl, hBx.trans (hm.mono hBx.size), hm⟩)
        | (go_wp2_with (go_at_call 25; (with_reducible refine (HE.out _ _ _ (H6.out.below hBx)).mono ?_); rintro e w3 ⟨rfl, hm⟩); exact ⟨_, rfl, rfl, hBx.trans (hm.mono hBx.size), hm⟩)
  case done =>
    intro ys wx hBx hV
    have h4 : ys 4 = .bool true := hV 35 (by decide)
    have B7 := Lib.hid (BW6.out.trans (hBx.mono BW6.out.size))
    clear hBx hV
    simp only [h4, fill, List.drop_succ_cons, List.drop_zero, List.foldl_cons, List.foldl_nil, Act.put, List.setIfInBounds_toArray, List.set_cons_succ, List.set_cons_zero]
    go_wp2
    go_ret
    exact ⟨rfl, B7.out⟩
set_option maxRecDepth 100000 in
theorem new_not (gp gs gr : Int) (h : Geom.rightG ⟨gp, gs, gr⟩ = false) (w : World) :
    Calls Try.prog 4 #[.agg #[.int .i64 gp, .int .i64 gs, .int .i64 gr], .bool false] w fun e w' => e = .returned (.bool true) ∧ Below w.heap.size w w' := by
  have HAL := Lib.hid (fun w => alive_any w)
  have HN := Lib.hid (fun w => new_wrong ⟨gp, gs, gr⟩ h w)
  have HGR := Lib.hid (fun w => Geom.refRight_any ⟨gp, gs, gr⟩ w)
  rw [h] at HGR
  unfold Geom.gV at HN HGR
  clear h
  have VN := Lib.hid (Var.new w 23 [.int .i64 gp, .int .i64 gs, .int .i64 gr])
  have BN := Lib.hid (Geom.bel_alloc w (.cells #[.int .i64 gp, .int .i64 gs, .int .i64 gr] 23))
  have c0 := VN.out.cell (j := 0) rfl
  have c1 := VN.out.cell (j := 1) rfl
  have c2 := VN.out.cell (j := 2) rfl
  go_enter Try.func4, Try.ntmps4
  go_wp2_with (first
    | (go_at_call 11; (with_reducible refine (HN.out _).mono ?_); rintro e w2 ⟨rfl, b2⟩; have V2 := Lib.hid (VN.out.below b2 VN.out.lt); have BW2 := Lib.hid (BN.out.trans (b2.mono BN.out.size)); clear b2 c0 c1 c2)
    | (go_at_call 12; (with_reducible refine (HAL.out _).mono ?_); rintro e w3 ⟨rfl, b3⟩; have V3 := Lib.hid (V2.out.below b3 V2.out.lt); have BW3 := Lib.hid (BW2.out.trans (b3.mono BW2.out.size)); clear b3 V2; have k0 := V3.out.cell (j := 0) rfl; have k1 := V3.out.cell (j := 1) rfl; have k2 := V3.out.cell (j := 2) rfl)
    | (go_at_call 17; (with_reducible refine (HGR.out _).mono ?_); rintro e w4 ⟨rfl, b4⟩; have BW4 := Lib.hid (BW3.out.trans (b4.mono BW3.out.size)); clear b4 k0 k1 k2)
    | (go_at_call 12; (with_reducible refine (HAL.out _).mono ?_); rintro e w5 ⟨rfl, b5⟩; have BW5 := Lib.hid (BW4.out.trans (b5.mono BW4.out.size)); clear b5))
  go_ret
  exact ⟨rfl, BW5.out⟩
theorem chartNew_any (gp gs gr : Int) (small : Bool) (w : World) : Calls Try.prog 4 #[Geom.gV ⟨gp, gs, gr⟩, .bool small] w fun e w' => e = .returned (.bool true) ∧ Below w.heap.size w w' := by
  cases small with
  | true =>
    obtain ⟨pg, hpg⟩ : ∃ n : Nat, (n : Int) = 32 + gp % 33 := ⟨(32 + gp % 33).toNat, by omega⟩
    obtain ⟨pgs, hpgs⟩ : ∃ n : Nat, (n : Int) = 3 + gs % 4 := ⟨(3 + gs % 4).toNat, by omega⟩
    obtain ⟨rgs, hrgs⟩ : ∃ n : Nat, (n : Int) = 4 + gr % 4 := ⟨(4 + gr % 4).toNat, by omega⟩
    exact new_near gp gs gr pg pgs rgs (by unfold Geom.smallG; rw [hpg, hpgs, hrgs]) (by omega) (by omega) (by omega) (by omega) (by omega) (by omega) w
  | false =>
    cases hr : Geom.rightG ⟨gp, gs, gr⟩ with
    | false => exact new_not gp gs gr hr w
    | true =>
      obtain ⟨p0, p1, s0, s1, r0, r1⟩ := Geom.right_small.mp hr
      simp only at p0 p1 s0 s1 r0 r1
      obtain ⟨pg, rfl⟩ : ∃ k : Nat, gp = (k : Int) := ⟨gp.toNat, by omega⟩
      obtain ⟨pgs, rfl⟩ : ∃ k : Nat, gs = (k : Int) := ⟨gs.toNat, by omega⟩
      obtain ⟨rgs, rfl⟩ : ∃ k : Nat, gr = (k : Int) := ⟨gr.toNat, by omega⟩
      exact new_far pg pgs rgs (by omega) (by omega) (by omega) (by omega) (by omega) (by omega) w
end Go.Proofs.Ytmkdhehdfdkbjaa.Chart
