/-
  FlashNew's walk: of any geom and image there is a device, or there may be none.
-/
import Derived.Test.YtgcbdekdjdlfaaaFlashL5
import Derived.Test.YtgcbdekdjdlfaaaGeomB
set_option linter.unusedVariables false
set_option linter.unusedSimpArgs false
namespace Go.Proofs.Ytgcbdekdjdlfaaa.Flash
open Go.RowKit
open Go.Proofs.Ytgcbdekdjdlfaaa.Own
open Tup Bytes Foot
open Go.Proofs.Ytgcbdekdjdlfaaa.Region (fill Then Deps Each wp_region_is wp_region_is_tail)
theorem fNew_bad (g : Geom.Gm) (im : ByteArray) (w : World) (h : Geom.rightG g = true → ¬ (im.size : Int) ≤ Geom.sizeG g) : Calls Try.prog 13 #[Geom.gV g, .string im] w fun e w' => e = .returned (.tuple #[.pointer none, .int .i64 1]) ∧ Below w.heap.size w w' := by
  refine (fNew_any g im w).mono ?_
  rintro e w' ⟨hb, he⟩
  rw [if_neg (fun x => h x.1 x.2)] at he
  exact ⟨he, hb⟩
set_option maxRecDepth 100000 in
set_option maxHeartbeats 16000000 in
theorem new_any (p0 q0 r0 : Int) (im : ByteArray) (hi : im.size ≤ maxLen) (small : Bool) (w : World) : Calls Try.prog 4 #[Geom.gV ⟨p0, q0, r0⟩, .string im, .bool small] w fun e w' => e = .returned (.bool true) ∧ Below w.heap.size w w' := by
  have HAL := Lib.hid (fun w => alive_any w)
  have HV0 := Lib.hid (Var.new w 23 [.int .i64 p0, .int .i64 q0, .int .i64 r0])
  unfold maxLen at hi
  rcases small with _ | _
  · obtain ⟨p1, hp1⟩ : ∃ p1, p1 = p0 := ⟨_, rfl⟩
    obtain ⟨q1, hq1⟩ : ∃ q1, q1 = q0 := ⟨_, rfl⟩
    obtain ⟨r1, hr1⟩ : ∃ r1, r1 = r0 := ⟨_, rfl⟩
    subst hp1 hq1 hr1
    unfold Geom.gV
    rcases hrt : Geom.rightG ⟨p1, q1, r1⟩ with _ | _
    · have HGR := Lib.hid (fun w => Geom.refRight_any ⟨p1, q1, r1⟩ w)
      rw [hrt] at HGR
      have HN := Lib.hid (fun w => fNew_bad ⟨p1, q1, r1⟩ im w (fun h => by rw [hrt] at h; simp at h))
      unfold Geom.gV at HGR HN
      clear hrt
      have VN := HV0
      have BN := Lib.hid (Geom.bel_alloc w (.cells #[.int .i64 p1, .int .i64 q1, .int .i64 r1] 23))
      go_enter Try.func4, Try.ntmps4
      go_wp2_with (first
        | (go_at_call 13; (with_reducible refine (HN.out _).mono ?_); rintro e w2 ⟨rfl, b2⟩; have v2 := VN.out.below b2 VN.out.lt; have t2 := BN.out.trans (b2.mono BN.out.size))
        | (go_at_call 14; (with_reducible refine (HAL.out _).mono ?_); rintro e w3 ⟨rfl, b3⟩; have t3 := t2.trans (b3.mono t2.size); have v3 := v2.below b3 v2.lt; have c0 := v3.cell (j := 0) rfl; have c1 := v3.cell (j := 1) rfl; have c2 := v3.cell (j := 2) rfl; clear t2 v2)
        | (go_at_call 20; (with_reducible refine (HGR.out _).mono ?_); rintro e w4 ⟨rfl, b4⟩; have t4 := t3.trans (b4.mono t3.size); have v4 := v3.below b4 v3.lt; have c0 := v4.cell (j := 0) rfl; have c1 := v4.cell (j := 1) rfl; have c2 := v4.cell (j := 2) rfl; clear t3 v3))
      go_ret
      exact ⟨rfl, t4⟩
    · have hsm := Geom.right_small.1 hrt
      have HGR := Lib.hid (fun w => Geom.refRight_any ⟨p1, q1, r1⟩ w)
      rw [hrt] at HGR
      obtain ⟨a0, a1, a2, a3, a4, a5⟩ := hsm
      simp only at a0 a1 a2 a3 a4 a5
      obtain ⟨pg, hpg⟩ : ∃ n : Nat, p1 = (n : Int) := ⟨p1.toNat, by omega⟩
      obtain ⟨pgs, hpgs⟩ : ∃ n : Nat, q1 = (n : Int) := ⟨q1.toNat, by omega⟩
      obtain ⟨rgs, hrgs⟩ : ∃ n : Nat, r1 = (n : Int) := ⟨r1.toNat, by omega⟩
      obtain ⟨N, hN⟩ : ∃ N, N = pg * pgs * rgs := ⟨_, rfl⟩
      have hN1 : N ≤ 15360 := by rw [hN]; exact Nat.mul_le_mul (Nat.mul_le_mul (show pg ≤ 128 by omega) (show pgs ≤ 10 by omega)) (show rgs ≤ 12 by omega)
      have hsz : Geom.sizeG ⟨p1, q1, r1⟩ = (N : Int) := by unfold Geom.sizeG; rw [hN, hpg, hpgs, hrgs]; simp only [Int.natCast_mul]
      have HSZ := Lib.hid (fun w => Geom.refSize_any ⟨p1, q1, r1⟩ ⟨a0, a1, a2, a3, a4, a5⟩ w)
      rw [hsz] at HSZ
      unfold Geom.gV at HGR HSZ
      by_cases hfit : im.size ≤ N
      · have u1 : decide ((N : Int) < (im.size : Int)) = false := by simp; omega
        have u2 : decide (N < im.size) = false := by simp; omega
        have HN := Lib.hid (fun w => fNew_ok pg pgs rgs im (by rw [← hN]; exact hfit) (by omega) (by omega) (by omega) (by omega) (by omega) (by omega) w)
        rw [← hpg, ← hpgs, ← hrgs] at HN
        have okn : (newD pg pgs rgs im.data.toList).Ok := new_ok (by rw [← hN]; simpa using hfit) (by omega) (by omega) (by omega) (by omega) (by omega) (by omega)
        obtain ⟨IM, hIM⟩ : ∃ IM, IM = im.data.toList ++ rep (N - im.size) 255 := ⟨_, rfl⟩
        have hd : newD pg pgs rgs im.data.toList = ⟨pg, pgs, rgs, IM, [], none, false⟩ := by rw [hIM]; unfold newD rep; rw [← hN]; simp
        rw [hd] at HN okn
        have HI := Lib.hid (fun w p S (h : FHas w p ⟨pg, pgs, rgs, IM, [], none, false⟩ S) => fImage_any h okn)
        have HDn := Lib.hid (fun w p S (h : FHas w p ⟨pg, pgs, rgs, IM, [], none, false⟩ S) => fDown_any h okn)
        have HPe := Lib.hid (fun w p S (h : FHas w p ⟨pg, pgs, rgs, IM, [], none, false⟩ S) => fPending_any h okn)
        have HF := Lib.hid (fun w => fillC 255 ((N : Int) - (im.size : Int)) (N - im.size) (by omega) (by omega) 255 rfl w)
        have z1 : im ++ bs (rep (N - im.size) 255) = bs IM := by
          rw [hIM, ← bs_append, bs_list]
        have s1 : (bs (rep (N - im.size) 255)).size = N - im.size := by rw [bs_size]; simp [rep]
        clear okn hd hIM hN hsz hpg hpgs hrgs hrt
        have VN := HV0
        have BN := Lib.hid (Geom.bel_alloc w (.cells #[.int .i64 p1, .int .i64 q1, .int .i64 r1] 23))
        go_enter Try.func4, Try.ntmps4
        go_wp2_with (first
          | (go_at_call 13; (with_reducible refine (HN.out _).mono ?_); rintro e w2 ⟨p, S2, rfl, h2, b2, s2⟩; have v2 := VN.out.below b2 VN.out.lt; have t2 : Safe w.heap.size w w2 S2 := ⟨BN.out.trans (b2.mono BN.out.size), Nat.le_trans BN.out.size b2.size, fun k hk => Nat.le_trans BN.out.size (s2 k hk)⟩)
          | (go_at_call 14; (with_reducible refine (HAL.out _).mono ?_); rintro e w3 ⟨rfl, b3⟩; have h3 := h2.below b3; have t3 := t2.below b3; have v3 := v2.below b3 v2.lt; have c0 := v3.cell (j := 0) rfl; have c1 := v3.cell (j := 1) rfl; have c2 := v3.cell (j := 2) rfl; clear h2 t2 v2)
          | (go_at_call 20; (with_reducible refine (HGR.out _).mono ?_); rintro e w4 ⟨rfl, b4⟩; have h4 := h3.below b4; have t4 := t3.below b4; have v4 := v3.below b4 v3.lt; have c0 := v4.cell (j := 0) rfl; have c1 := v4.cell (j := 1) rfl; have c2 := v4.cell (j := 2) rfl; clear h3 t3 v3)
          | (go_at_call 12; (with_reducible refine (HSZ.out _).mono ?_); rintro e w5 ⟨rfl, b5⟩; have h5 := h4.below b5; have t5 := t4.below b5; have v5 := v4.below b5 v4.lt; have c0 := v5.cell (j := 0) rfl; have c1 := v5.cell (j := 1) rfl; have c2 := v5.cell (j := 2) rfl; clear h4 t4 v4))
        have HH := Lib.hid h5
        have TS := Lib.hid t5
        have VX := Lib.hid v5
        clear h5 t5 v5 c0 c1 c2
        refine wp_region_is [42, 43, 44, 45, 46, 47, 48, 49, 50, 51, 52, 53, 54, 55, 56, 57, 58, 59, 60, 61, 62, 6] (fun w' => Below w5.heap.size w5 w')
          [.pointer (some ⟨p, 0, none⟩), .string (bs IM), .string im, .agg #[.int .i64 p1, .int .i64 q1, .int .i64 r1], .int .i64 (N : Int), .string im, .int .i64 (im.size : Int), .int .i64 ((N : Int) - (im.size : Int)), .string (bs (rep (N - im.size) 255)), .string (bs IM), .bool true, .bool true, .pointer (some ⟨p, 0, none⟩), .bool false, .bool true, .bool true, .bool true, .pointer (some ⟨p, 0, none⟩), .int .i64 0, .bool true, .bool true, .bool true] (by kernel_rfl) (by kernel_rfl) rfl (by decide) (by simp) (Below.refl _ _).drew ?each ?done
        case each =>
          simp only [Each]
          repeat' (first | exact trivial | refine And.intro ?_ ?_)
          all_goals
            intro ys wx hBx hdeps
            simp only [Deps, Region.binds, List.getD_cons_zero, List.getD_cons_succ, forall_const, and_true] at hdeps
            have c0 : wx.cell? ⟨w.heap.size, 0, none⟩ = some (.int .i64 p1) := (VX.out.below hBx VX.out.lt).cell (j := 0) rfl
            have c1 : wx.cell? ⟨w.heap.size, 1, none⟩ = some (.int .i64 q1) := (VX.out.below hBx VX.out.lt).cell (j := 1) rfl
            have c2 : wx.cell? ⟨w.heap.size, 2, none⟩ = some (.int .i64 r1) := (VX.out.below hBx VX.out.lt).cell (j := 2) rfl
            simp only [hdeps, fill, List.foldl_cons, List.foldl_nil, Act.put, List.setIfInBounds_toArray, List.set_cons_succ, List.set_cons_zero]
            first
              | (go_wp2_with fail; exact ⟨_, rfl, rfl, hBx, Below.refl _ _⟩)
              | (go_wp2_with (go_at_call 21; (with_reducible refine (HI.out _ _ _ (HH.out.below hBx)).mono ?_); rintro e w3 ⟨rfl, hm⟩); exact ⟨_, rfl, rfl, hBx.trans (hm.mono hBx.size), hm⟩)
              | (go_wp2_with (go_at_call 12; (with_reducible refine (HSZ.out _).mono ?_); rintro e w3 ⟨rfl, hm⟩); exact ⟨_, rfl, rfl, hBx.trans (hm.mono hBx.size), hm⟩)
              | (go_wp2_with (go_at_call 22; (with_reducible refine (HF.out _).mono ?_); rintro e w3 ⟨rfl, hm⟩); exact ⟨_, rfl, rfl, hBx.trans (hm.mono hBx.size), hm⟩)
              | (go_wp2_with (go_at_call 23; (with_reducible refine (HDn.out _ _ _ (HH.out.below hBx)).mono ?_); rintro e w3 ⟨rfl, hm⟩); exact ⟨_, rfl, rfl, hBx.trans (hm.mono hBx.size), hm⟩)
              | (go_wp2_with (go_at_call 24; (with_reducible refine (HPe.out _ _ _ (HH.out.below hBx)).mono ?_); rintro e w3 ⟨rfl, hm⟩); exact ⟨_, rfl, rfl, hBx.trans (hm.mono hBx.size), hm⟩)
        case done =>
          intro ys wx hBx hV
          have h6 : ys 6 = .bool true := hV 21 (by decide)
          simp only [h6, fill, List.drop_succ_cons, List.drop_zero, List.foldl_cons, List.foldl_nil, Act.put, List.setIfInBounds_toArray, List.set_cons_succ, List.set_cons_zero]
          go_wp2
          go_ret
          exact ⟨rfl, (TS.out.below hBx).bel⟩
      · have u1 : decide ((N : Int) < (im.size : Int)) = true := by simp; omega
        have u2 : decide (N < im.size) = true := by simp; omega
        have HN := Lib.hid (fun w => fNew_bad ⟨p1, q1, r1⟩ im w (fun _ h => by rw [hsz] at h; omega))
        unfold Geom.gV at HN
        clear hN hsz hpg hpgs hrgs hrt
        have VN := HV0
        have BN := Lib.hid (Geom.bel_alloc w (.cells #[.int .i64 p1, .int .i64 q1, .int .i64 r1] 23))
        go_enter Try.func4, Try.ntmps4
        go_wp2_with (first
          | (go_at_call 13; (with_reducible refine (HN.out _).mono ?_); rintro e w2 ⟨rfl, b2⟩; have v2 := VN.out.below b2 VN.out.lt; have t2 := BN.out.trans (b2.mono BN.out.size))
          | (go_at_call 14; (with_reducible refine (HAL.out _).mono ?_); rintro e w3 ⟨rfl, b3⟩; have t3 := t2.trans (b3.mono t2.size); have v3 := v2.below b3 v2.lt; have c0 := v3.cell (j := 0) rfl; have c1 := v3.cell (j := 1) rfl; have c2 := v3.cell (j := 2) rfl; clear t2 v2)
          | (go_at_call 20; (with_reducible refine (HGR.out _).mono ?_); rintro e w4 ⟨rfl, b4⟩; have t4 := t3.trans (b4.mono t3.size); have v4 := v3.below b4 v3.lt; have c0 := v4.cell (j := 0) rfl; have c1 := v4.cell (j := 1) rfl; have c2 := v4.cell (j := 2) rfl; clear t3 v3)
          | (go_at_call 12; (with_reducible refine (HSZ.out _).mono ?_); rintro e w5 ⟨rfl, b5⟩; have t5 := t4.trans (b5.mono t4.size); clear t4))
        go_ret
        exact ⟨rfl, t5⟩
  · have HG := Lib.hid (fun w => Geom.geom_any ⟨p0, q0, r0⟩ w)
    obtain ⟨p1, q1, r1, hg1⟩ : ∃ p1 q1 r1, Geom.smallG ⟨p0, q0, r0⟩ = ⟨p1, q1, r1⟩ := ⟨_, _, _, rfl⟩
    rw [hg1] at HG
    unfold Geom.gV at HG ⊢
    clear hg1
    rcases hrt : Geom.rightG ⟨p1, q1, r1⟩ with _ | _
    · have HGR := Lib.hid (fun w => Geom.refRight_any ⟨p1, q1, r1⟩ w)
      rw [hrt] at HGR
      have HN := Lib.hid (fun w => fNew_bad ⟨p1, q1, r1⟩ im w (fun h => by rw [hrt] at h; simp at h))
      unfold Geom.gV at HGR HN
      clear hrt
      go_enter Try.func4, Try.ntmps4
      go_wp2_with (first
        | (go_at_call 10; (with_reducible refine (HG.out _).mono ?_); rintro e wg ⟨rfl, bg⟩; have vg := HV0.out.below bg HV0.out.lt; have c0 := vg.cell (j := 0) rfl; have c1 := vg.cell (j := 1) rfl; have c2 := vg.cell (j := 2) rfl; have f0 := vg.frozen 0; have f1 := vg.frozen 1; have f2 := vg.frozen 2; have vs := ((vg.set 0 (.int .i64 p1)).set 1 (.int .i64 q1)).set 2 (.int .i64 r1); have VN := Lib.hid vs; have k0 := vs.cell (j := 0) rfl; have k1 := vs.cell (j := 1) rfl; have k2 := vs.cell (j := 2) rfl; have BN := Lib.hid ((((bel2 (Geom.bel_alloc w (.cells #[.int .i64 p0, .int .i64 q0, .int .i64 r0] 23)) bg).setCell (p := ⟨w.heap.size, 0, none⟩) (Nat.le_refl _) (.int .i64 p1)).setCell (p := ⟨w.heap.size, 1, none⟩) (Nat.le_refl _) (.int .i64 q1)).setCell (p := ⟨w.heap.size, 2, none⟩) (Nat.le_refl _) (.int .i64 r1)); clear vg bg vs)
        | (go_at_call 13; (with_reducible refine (HN.out _).mono ?_); rintro e w2 ⟨rfl, b2⟩; have v2 := VN.out.below b2 VN.out.lt; have t2 := BN.out.trans (b2.mono BN.out.size))
        | (go_at_call 14; (with_reducible refine (HAL.out _).mono ?_); rintro e w3 ⟨rfl, b3⟩; have t3 := t2.trans (b3.mono t2.size); have v3 := v2.below b3 v2.lt; have c0 := v3.cell (j := 0) rfl; have c1 := v3.cell (j := 1) rfl; have c2 := v3.cell (j := 2) rfl; clear t2 v2)
        | (go_at_call 20; (with_reducible refine (HGR.out _).mono ?_); rintro e w4 ⟨rfl, b4⟩; have t4 := t3.trans (b4.mono t3.size); have v4 := v3.below b4 v3.lt; have c0 := v4.cell (j := 0) rfl; have c1 := v4.cell (j := 1) rfl; have c2 := v4.cell (j := 2) rfl; clear t3 v3))
      go_ret
      exact ⟨rfl, t4⟩
    · have hsm := Geom.right_small.1 hrt
      have HGR := Lib.hid (fun w => Geom.refRight_any ⟨p1, q1, r1⟩ w)
      rw [hrt] at HGR
      obtain ⟨a0, a1, a2, a3, a4, a5⟩ := hsm
      simp only at a0 a1 a2 a3 a4 a5
      obtain ⟨pg, hpg⟩ : ∃ n : Nat, p1 = (n : Int) := ⟨p1.toNat, by omega⟩
      obtain ⟨pgs, hpgs⟩ : ∃ n : Nat, q1 = (n : Int) := ⟨q1.toNat, by omega⟩
      obtain ⟨rgs, hrgs⟩ : ∃ n : Nat, r1 = (n : Int) := ⟨r1.toNat, by omega⟩
      obtain ⟨N, hN⟩ : ∃ N, N = pg * pgs * rgs := ⟨_, rfl⟩
      have hN1 : N ≤ 15360 := by rw [hN]; exact Nat.mul_le_mul (Nat.mul_le_mul (show pg ≤ 128 by omega) (show pgs ≤ 10 by omega)) (show rgs ≤ 12 by omega)
      have hsz : Geom.sizeG ⟨p1, q1, r1⟩ = (N : Int) := by unfold Geom.sizeG; rw [hN, hpg, hpgs, hrgs]; simp only [Int.natCast_mul]
      have HSZ := Lib.hid (fun w => Geom.refSize_any ⟨p1, q1, r1⟩ ⟨a0, a1, a2, a3, a4, a5⟩ w)
      rw [hsz] at HSZ
      unfold Geom.gV at HGR HSZ
      by_cases hfit : im.size ≤ N
      · have u1 : decide ((N : Int) < (im.size : Int)) = false := by simp; omega
        have u2 : decide (N < im.size) = false := by simp; omega
        have HN := Lib.hid (fun w => fNew_ok pg pgs rgs im (by rw [← hN]; exact hfit) (by omega) (by omega) (by omega) (by omega) (by omega) (by omega) w)
        rw [← hpg, ← hpgs, ← hrgs] at HN
        have okn : (newD pg pgs rgs im.data.toList).Ok := new_ok (by rw [← hN]; simpa using hfit) (by omega) (by omega) (by omega) (by omega) (by omega) (by omega)
        obtain ⟨IM, hIM⟩ : ∃ IM, IM = im.data.toList ++ rep (N - im.size) 255 := ⟨_, rfl⟩
        have hd : newD pg pgs rgs im.data.toList = ⟨pg, pgs, rgs, IM, [], none, false⟩ := by rw [hIM]; unfold newD rep; rw [← hN]; simp
        rw [hd] at HN okn
        have HI := Lib.hid (fun w p S (h : FHas w p ⟨pg, pgs, rgs, IM, [], none, false⟩ S) => fImage_any h okn)
        have HDn := Lib.hid (fun w p S (h : FHas w p ⟨pg, pgs, rgs, IM, [], none, false⟩ S) => fDown_any h okn)
        have HPe := Lib.hid (fun w p S (h : FHas w p ⟨pg, pgs, rgs, IM, [], none, false⟩ S) => fPending_any h okn)
        have HF := Lib.hid (fun w => fillC 255 ((N : Int) - (im.size : Int)) (N - im.size) (by omega) (by omega) 255 rfl w)
        have z1 : im ++ bs (rep (N - im.size) 255) = bs IM := by
          rw [hIM, ← bs_append, bs_list]
        have s1 : (bs (rep (N - im.size) 255)).size = N - im.size := by rw [bs_size]; simp [rep]
        clear okn hd hIM hN hsz hpg hpgs hrgs hrt
        go_enter Try.func4, Try.ntmps4
        go_wp2_with (first
          | (go_at_call 10; (with_reducible refine (HG.out _).mono ?_); rintro e wg ⟨rfl, bg⟩; have vg := HV0.out.below bg HV0.out.lt; have c0 := vg.cell (j := 0) rfl; have c1 := vg.cell (j := 1) rfl; have c2 := vg.cell (j := 2) rfl; have f0 := vg.frozen 0; have f1 := vg.frozen 1; have f2 := vg.frozen 2; have vs := ((vg.set 0 (.int .i64 p1)).set 1 (.int .i64 q1)).set 2 (.int .i64 r1); have VN := Lib.hid vs; have k0 := vs.cell (j := 0) rfl; have k1 := vs.cell (j := 1) rfl; have k2 := vs.cell (j := 2) rfl; have BN := Lib.hid ((((bel2 (Geom.bel_alloc w (.cells #[.int .i64 p0, .int .i64 q0, .int .i64 r0] 23)) bg).setCell (p := ⟨w.heap.size, 0, none⟩) (Nat.le_refl _) (.int .i64 p1)).setCell (p := ⟨w.heap.size, 1, none⟩) (Nat.le_refl _) (.int .i64 q1)).setCell (p := ⟨w.heap.size, 2, none⟩) (Nat.le_refl _) (.int .i64 r1)); clear vg bg vs)
          | (go_at_call 13; (with_reducible refine (HN.out _).mono ?_); rintro e w2 ⟨p, S2, rfl, h2, b2, s2⟩; have v2 := VN.out.below b2 VN.out.lt; have t2 : Safe w.heap.size w w2 S2 := ⟨BN.out.trans (b2.mono BN.out.size), Nat.le_trans BN.out.size b2.size, fun k hk => Nat.le_trans BN.out.size (s2 k hk)⟩)
          | (go_at_call 14; (with_reducible refine (HAL.out _).mono ?_); rintro e w3 ⟨rfl, b3⟩; have h3 := h2.below b3; have t3 := t2.below b3; have v3 := v2.below b3 v2.lt; have c0 := v3.cell (j := 0) rfl; have c1 := v3.cell (j := 1) rfl; have c2 := v3.cell (j := 2) rfl; clear h2 t2 v2)
          | (go_at_call 20; (with_reducible refine (HGR.out _).mono ?_); rintro e w4 ⟨rfl, b4⟩; have h4 := h3.below b4; have t4 := t3.below b4; have v4 := v3.below b4 v3.lt; have c0 := v4.cell (j := 0) rfl; have c1 := v4.cell (j := 1) rfl; have c2 := v4.cell (j := 2) rfl; clear h3 t3 v3)
          | (go_at_call 12; (with_reducible refine (HSZ.out _).mono ?_); rintro e w5 ⟨rfl, b5⟩; have h5 := h4.below b5; have t5 := t4.below b5; have v5 := v4.below b5 v4.lt; have c0 := v5.cell (j := 0) rfl; have c1 := v5.cell (j := 1) rfl; have c2 := v5.cell (j := 2) rfl; clear h4 t4 v4))
        have HH := Lib.hid h5
        have TS := Lib.hid t5
        have VX := Lib.hid v5
        clear h5 t5 v5 c0 c1 c2
        refine wp_region_is [42, 43, 44, 45, 46, 47, 48, 49, 50, 51, 52, 53, 54, 55, 56, 57, 58, 59, 60, 61, 62, 6] (fun w' => Below w5.heap.size w5 w')
          [.pointer (some ⟨p, 0, none⟩), .string (bs IM), .string im, .agg #[.int .i64 p1, .int .i64 q1, .int .i64 r1], .int .i64 (N : Int), .string im, .int .i64 (im.size : Int), .int .i64 ((N : Int) - (im.size : Int)), .string (bs (rep (N - im.size) 255)), .string (bs IM), .bool true, .bool true, .pointer (some ⟨p, 0, none⟩), .bool false, .bool true, .bool true, .bool true, .pointer (some ⟨p, 0, none⟩), .int .i64 0, .bool true, .bool true, .bool true] (by kernel_rfl) (by kernel_rfl) rfl (by decide) (by simp) (Below.refl _ _).drew ?each ?done
        case each =>
          simp only [Each]
          repeat' (first | exact trivial | refine And.intro ?_ ?_)
          all_goals
            intro ys wx hBx hdeps
            simp only [Deps, Region.binds, List.getD_cons_zero, List.getD_cons_succ, forall_const, and_true] at hdeps
            have c0 : wx.cell? ⟨w.heap.size, 0, none⟩ = some (.int .i64 p1) := (VX.out.below hBx VX.out.lt).cell (j := 0) rfl
            have c1 : wx.cell? ⟨w.heap.size, 1, none⟩ = some (.int .i64 q1) := (VX.out.below hBx VX.out.lt).cell (j := 1) rfl
            have c2 : wx.cell? ⟨w.heap.size, 2, none⟩ = some (.int .i64 r1) := (VX.out.below hBx VX.out.lt).cell (j := 2) rfl
            simp only [hdeps, fill, List.foldl_cons, List.foldl_nil, Act.put, List.setIfInBounds_toArray, List.set_cons_succ, List.set_cons_zero]
            first
              | (go_wp2_with fail; exact ⟨_, rfl, rfl, hBx, Below.refl _ _⟩)
              | (go_wp2_with (go_at_call 21; (with_reducible refine (HI.out _ _ _ (HH.out.below hBx)).mono ?_); rintro e w3 ⟨rfl, hm⟩); exact ⟨_, rfl, rfl, hBx.trans (hm.mono hBx.size), hm⟩)
              | (go_wp2_with (go_at_call 12; (with_reducible refine (HSZ.out _).mono ?_); rintro e w3 ⟨rfl, hm⟩); exact ⟨_, rfl, rfl, hBx.trans (hm.mono hBx.size), hm⟩)
              | (go_wp2_with (go_at_call 22; (with_reducible refine (HF.out _).mono ?_); rintro e w3 ⟨rfl, hm⟩); exact ⟨_, rfl, rfl, hBx.trans (hm.mono hBx.size), hm⟩)
              | (go_wp2_with (go_at_call 23; (with_reducible refine (HDn.out _ _ _ (HH.out.below hBx)).mono ?_); rintro e w3 ⟨rfl, hm⟩); exact ⟨_, rfl, rfl, hBx.trans (hm.mono hBx.size), hm⟩)
              | (go_wp2_with (go_at_call 24; (with_reducible refine (HPe.out _ _ _ (HH.out.below hBx)).mono ?_); rintro e w3 ⟨rfl, hm⟩); exact ⟨_, rfl, rfl, hBx.trans (hm.mono hBx.size), hm⟩)
        case done =>
          intro ys wx hBx hV
          have h6 : ys 6 = .bool true := hV 21 (by decide)
          simp only [h6, fill, List.drop_succ_cons, List.drop_zero, List.foldl_cons, List.foldl_nil, Act.put, List.setIfInBounds_toArray, List.set_cons_succ, List.set_cons_zero]
          go_wp2
          go_ret
          exact ⟨rfl, (TS.out.below hBx).bel⟩
      · have u1 : decide ((N : Int) < (im.size : Int)) = true := by simp; omega
        have u2 : decide (N < im.size) = true := by simp; omega
        have HN := Lib.hid (fun w => fNew_bad ⟨p1, q1, r1⟩ im w (fun _ h => by rw [hsz] at h; omega))
        unfold Geom.gV at HN
        clear hN hsz hpg hpgs hrgs hrt
        go_enter Try.func4, Try.ntmps4
        go_wp2_with (first
          | (go_at_call 10; (with_reducible refine (HG.out _).mono ?_); rintro e wg ⟨rfl, bg⟩; have vg := HV0.out.below bg HV0.out.lt; have c0 := vg.cell (j := 0) rfl; have c1 := vg.cell (j := 1) rfl; have c2 := vg.cell (j := 2) rfl; have f0 := vg.frozen 0; have f1 := vg.frozen 1; have f2 := vg.frozen 2; have vs := ((vg.set 0 (.int .i64 p1)).set 1 (.int .i64 q1)).set 2 (.int .i64 r1); have VN := Lib.hid vs; have k0 := vs.cell (j := 0) rfl; have k1 := vs.cell (j := 1) rfl; have k2 := vs.cell (j := 2) rfl; have BN := Lib.hid ((((bel2 (Geom.bel_alloc w (.cells #[.int .i64 p0, .int .i64 q0, .int .i64 r0] 23)) bg).setCell (p := ⟨w.heap.size, 0, none⟩) (Nat.le_refl _) (.int .i64 p1)).setCell (p := ⟨w.heap.size, 1, none⟩) (Nat.le_refl _) (.int .i64 q1)).setCell (p := ⟨w.heap.size, 2, none⟩) (Nat.le_refl _) (.int .i64 r1)); clear vg bg vs)
          | (go_at_call 13; (with_reducible refine (HN.out _).mono ?_); rintro e w2 ⟨rfl, b2⟩; have v2 := VN.out.below b2 VN.out.lt; have t2 := BN.out.trans (b2.mono BN.out.size))
          | (go_at_call 14; (with_reducible refine (HAL.out _).mono ?_); rintro e w3 ⟨rfl, b3⟩; have t3 := t2.trans (b3.mono t2.size); have v3 := v2.below b3 v2.lt; have c0 := v3.cell (j := 0) rfl; have c1 := v3.cell (j := 1) rfl; have c2 := v3.cell (j := 2) rfl; clear t2 v2)
          | (go_at_call 20; (with_reducible refine (HGR.out _).mono ?_); rintro e w4 ⟨rfl, b4⟩; have t4 := t3.trans (b4.mono t3.size); have v4 := v3.below b4 v3.lt; have c0 := v4.cell (j := 0) rfl; have c1 := v4.cell (j := 1) rfl; have c2 := v4.cell (j := 2) rfl; clear t3 v3)
          | (go_at_call 12; (with_reducible refine (HSZ.out _).mono ?_); rintro e w5 ⟨rfl, b5⟩; have t5 := t4.trans (b5.mono t4.size); clear t4))
        go_ret
        exact ⟨rfl, t5⟩
end Go.Proofs.Ytgcbdekdjdlfaaa.Flash
