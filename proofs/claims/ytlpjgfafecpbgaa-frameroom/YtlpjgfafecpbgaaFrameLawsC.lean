/-
  The walks of the laws of chapter 8: FrameTorn, FrameRoom.
-/
import Derived.Test.YtlpjgfafecpbgaaFrameLawsB
set_option linter.unusedVariables false
set_option linter.unusedSimpArgs false
namespace Go.Proofs.Ytlpjgfafecpbgaa.Frame
open Go.RowKit
open CrcM (W)
open Crc (le4 sumOf vl wd putS)
open Flash (bs bs_size bs_list list_bs)
open Tup Bytes Foot
open Go.Proofs.Ytlpjgfafecpbgaa.Region (fill Then Deps Each wp_region_is wp_region_is_tail wp_region_each wp_region_tail)

set_option maxRecDepth 100000 in
set_option maxHeartbeats 8000000 in
theorem torn_any (g : Geom.Gm) (f : Fr) (hs : f.body.length ≤ maxLen) (kk : Int) (w : World) : Calls Try.prog 8 #[Geom.gV g, fV f, .int .i64 kk] w fun e w' => e = .returned (.bool true) ∧ Below w.heap.size w w' := by
  have hsm := Geom.small_small g
  have HGE := Lib.hid (fun w => Geom.geom_any g w)
  generalize Geom.smallG g = g1 at *
  have HSP := Lib.hid (fun w => shaped_any g1 hsm f hs w)
  have hok := shape_ok hsm f
  have hby := shape_bytes hsm f
  obtain ⟨pg, hpg⟩ : ∃ pg, pg = g1.page.toNat := ⟨_, rfl⟩
  have hpgI : g1.page = (pg : Int) := by have := hsm.1; omega
  rw [← hpg] at hok hby
  have p0 := hok.p0
  have p1 := hok.p1
  have HRM := Lib.hid (fun w => Geom.refRoom_any g1 hsm w)
  unfold Geom.gV Geom.roomG at HRM
  rw [hpgI] at HRM
  obtain ⟨f3, hf3⟩ : ∃ f3 : Fr, f3 = { shapeF g1 f with body := (shapeF g1 f).body.take (pg - 16) } := ⟨_, rfl⟩
  have hok2 : f3.Ok pg := by
    rw [hf3]
    exact ⟨hok.k1, hok.k4, by simp only [List.length_take]; omega, p0, p1⟩
  have hb16 : f3.body.length + 16 ≤ pg := by rw [hf3]; simp only [List.length_take]; omega
  have hby2 : bytesG g1 f3 = (page pg f3, 0) := by
    have h1 := hok2.k1; have h4 := hok2.k4
    have := bytesG_ok (f := f3) (Geom.right_small.mpr hsm) (by omega) (by rw [← hpg]; omega)
    rw [← hpg] at this
    exact this
  have hsl : (shapeF g1 f).body.length ≤ maxLen := by have := hok.fits; unfold maxLen; omega
  have HSH := Lib.hid (fun w => Txt.shortB_any (bs (shapeF g1 f).body) (by rw [bs_size]; exact hsl) (pg - 16) (by omega) ((pg : Int) - 15 - 1) (by omega) w)
  rw [list_bs] at HSH
  have hpl := page_length hok2
  have HX := Lib.hid (fun w => fBytes_any g1 f3 (by have := hok2.fits; unfold maxLen; omega) w)
  rw [hby2] at HX
  obtain ⟨S, hS⟩ : ∃ S, S = bs (page pg f3) := ⟨_, rfl⟩
  rw [← hS] at HX
  have hSz : (S.size : Int) = (pg : Int) := by rw [hS, bs_size, hpl]
  have hSn : S.size = pg := by omega
  obtain ⟨k, hk⟩ : ∃ k : Nat, (k : Int) = kk % (pg : Int) := ⟨(kk % (pg : Int)).toNat, by have := Int.emod_nonneg kk (show (pg : Int) ≠ 0 by omega); omega⟩
  have hkp : k < pg := by have := Int.emod_lt_of_pos kk (show (0 : Int) < (pg : Int) by omega); omega
  have HP : Hid (∀ w, Calls Try.prog 11 #[.int .i64 kk, .int .i64 (pg : Int)] w fun e w' => e = .returned (.int .i64 (kk % (pg : Int))) ∧ w = w') := fun w => Book.pick_any kk pg (by omega) (by omega) w
  rw [← hk] at HP
  have htn := read_torn hok2 hb16 hkp
  obtain ⟨SK, hSK⟩ : ∃ SK, SK = bs ((page pg f3).take k) := ⟨_, rfl⟩
  obtain ⟨FF, hFF⟩ : ∃ FF, FF = bs (List.replicate (pg - k) (255 : UInt8)) := ⟨_, rfl⟩
  have HFL := Lib.hid (fun w => Flash.fill_any 255 ((pg : Int) - (k : Int)) (pg - k) (.inl (by omega)) (by omega) w)
  rw [show (((255 : UInt8).toNat : Int)) = 255 from rfl, ← hFF] at HFL
  have hcut := Txt.cutS (page pg f3) k (k : Int) rfl (by rw [hpl]; omega)
  rw [← hS, ← hSK] at hcut
  have hKs : SK.size = k := by rw [hSK, bs_size, List.length_take, hpl]; omega
  have hFs : FF.size = pg - k := by rw [hFF, bs_size, List.length_replicate]
  have hsum : k + (pg - k) ≤ 128 := by omega
  obtain ⟨T, hT⟩ : ∃ T, T = SK ++ FF := ⟨_, rfl⟩
  have hTl : T.data.toList = (page pg f3).take k ++ List.replicate (pg - k) 255 := by rw [hT, hSK, hFF]; simp [bs, ByteArray.data_append]
  have hTsz : T.size ≤ maxLen := by rw [hT, ByteArray.size_append, hKs, hFs]; unfold maxLen; omega
  have HR := Lib.hid (fun w => fRead_any T hTsz w)
  rw [← hTl] at htn
  have hTS : T = S ∨ ¬ T = S ∧ ¬ (((readF T.data.toList).2 : Int) = 0) := by
    rcases htn with h | h
    · left; rw [← bs_list T, h, hS]
    · by_cases e : T = S
      · exact .inl e
      · exact .inr ⟨e, by omega⟩
  have HT := Lib.hid hT
  generalize (readF T.data.toList).2 = cd at *
  generalize (readF T.data.toList).1 = F at *
  obtain ⟨kdr, ar, br, bodyr⟩ := F
  unfold fV at HR
  simp only at HR
  generalize bs bodyr = BR at *
  obtain ⟨B3, hB3⟩ : ∃ B3, B3 = bs f3.body := ⟨_, rfl⟩
  rw [show bs ((shapeF g1 f).body.take (pg - 16)) = B3 by rw [hB3, hf3]] at HSH
  have hfk : f3.kind = (shapeF g1 f).kind ∧ f3.a = (shapeF g1 f).a ∧ f3.b = (shapeF g1 f).b := by rw [hf3]; exact ⟨rfl, rfl, rfl⟩
  obtain ⟨e1, e2, e3⟩ := hfk
  unfold fV at HX HSP
  simp only at HX
  rw [← hB3, e1, e2, e3] at HX
  clear hby hby2 hok hok2 hpl hS hSK hFF hT hTl hTsz htn hB3 hf3 e1 e2 e3 hb16 hk hsl
  clear f3
  generalize shapeF g1 f = f2 at *
  obtain ⟨kd2, a2, b2', body2⟩ := f2
  obtain ⟨B2, hB2⟩ : ∃ B2, B2 = bs body2 := ⟨_, rfl⟩
  obtain ⟨hp, hq, hr⟩ := g1
  simp only at hpgI
  subst hpgI
  obtain ⟨gp, gs, gr⟩ := g
  obtain ⟨kd, a, b, body⟩ := f
  obtain ⟨B, hB⟩ : ∃ B, B = bs body := ⟨_, rfl⟩
  simp only at hs
  have HG := Lib.hid ((Var.new w 23 [.int .i64 gp, .int .i64 gs, .int .i64 gr]).alloc (.cells #[.int .i64 kd, .int .u32 (vl a), .int .u32 (vl b), .string B] 26))
  have HF := Lib.hid (Var.new (w.alloc (.cells #[.int .i64 gp, .int .i64 gs, .int .i64 gr] 23)) 26 [.int .i64 kd, .int .u32 (vl a), .int .u32 (vl b), .string B])
  have hsz1 : (w.alloc (.cells #[.int .i64 gp, .int .i64 gs, .int .i64 gr] 23)).heap.size = w.heap.size + 1 := by simp
  rw [hsz1] at HF
  obtain ⟨w1, hw1⟩ : ∃ w1, w1 = (w.alloc (.cells #[.int .i64 gp, .int .i64 gs, .int .i64 gr] 23)).alloc (.cells #[.int .i64 kd, .int .u32 (vl a), .int .u32 (vl b), .string B] 26) := ⟨_, rfl⟩
  have HB1 := Lib.hid (show Below w.heap.size w w1 by rw [hw1]; exact bel2 (Geom.bel_alloc _ _) (Geom.bel_alloc _ _))
  have HG1 := Lib.hid (show Var w1 w.heap.size 23 [.int .i64 gp, .int .i64 gs, .int .i64 gr] by rw [hw1]; exact HG.out)
  have HF1 := Lib.hid (show Var w1 (w.heap.size + 1) 26 [.int .i64 kd, .int .u32 (vl a), .int .u32 (vl b), .string B] by rw [hw1]; exact HF.out)
  have HAL := Lib.hid (fun w => alive_any w)
  unfold Geom.gV at HX HSP ⊢
  unfold fV
  unfold Geom.gV at HGE
  simp only at HX HSP HGE HSH HRM ⊢
  rw [← hB2] at HSP HSH
  rw [← hB] at HSP ⊢
  clear hB hB2 hpg hs
  rcases hTS with hTS | ⟨hTS, hcd⟩
  · have q1 : T.toList = S.toList := by rw [hTS]
    clear hTS
    go_enter Try.func8, Try.ntmps8
    go_wp2_with (first
      | (go_at_call 10; (with_reducible refine (HGE.out _).mono ?_); rintro e w2 ⟨rfl, b20⟩; have b2 : Below w1.heap.size w1 w2 := (by rw [hw1]; exact b20); clear b20; have vg := HG1.out.below b2 HG1.out.lt; have vf := HF1.out.below b2 HF1.out.lt; have y0 := vg.cell (j := 0) rfl; have y1 := vg.cell (j := 1) rfl; have y2 := vg.cell (j := 2) rfl; have x0 := vg.frozen 0; have x1 := vg.frozen 1; have x2 := vg.frozen 2; have vg3 := ((vg.set 0 (.int .i64 (pg : Int))).set 1 (.int .i64 hq)).set 2 (.int .i64 hr); have vf3 := Var.other (Var.other (Var.other vf ⟨w.heap.size, 0, none⟩ (.int .i64 (pg : Int)) (Nat.succ_ne_self _)) ⟨w.heap.size, 1, none⟩ (.int .i64 hq) (Nat.succ_ne_self _)) ⟨w.heap.size, 2, none⟩ (.int .i64 hr) (Nat.succ_ne_self _); have VG3 := Lib.hid vg3; have VF3 := Lib.hid vf3; have t0 := vf3.cell (j := 0) rfl; have t1 := vf3.cell (j := 1) rfl; have t2 := vf3.cell (j := 2) rfl; have t3 := vf3.cell (j := 3) rfl; have h0 := vg3.cell (j := 0) rfl; have h1 := vg3.cell (j := 1) rfl; have h2 := vg3.cell (j := 2) rfl; have BW3 := Lib.hid ((((bel2 HB1.out b2).setCell (p := ⟨w.heap.size, 0, none⟩) (Nat.le_refl _) (.int .i64 (pg : Int))).setCell (p := ⟨w.heap.size, 1, none⟩) (Nat.le_refl _) (.int .i64 hq)).setCell (p := ⟨w.heap.size, 2, none⟩) (Nat.le_refl _) (.int .i64 hr)); clear vg vf vf3 vg3)
      | (go_at_call 20; (with_reducible refine (HSP.out _).mono ?_); rintro e w4 ⟨rfl, b4⟩; have vg4 := VG3.out.below b4 VG3.out.lt; have vf4 := VF3.out.below b4 VF3.out.lt; have q0 := vf4.cell (j := 0) rfl; have q1 := vf4.cell (j := 1) rfl; have q2 := vf4.cell (j := 2) rfl; have q3 := vf4.cell (j := 3) rfl; have r0 := vf4.frozen 0; have r1 := vf4.frozen 1; have r2 := vf4.frozen 2; have r3 := vf4.frozen 3; have vf5 := (((vf4.set 0 (.int .i64 kd2)).set 1 (.int .u32 (vl a2))).set 2 (.int .u32 (vl b2'))).set 3 (.string B2); have vg5 := Var.other (Var.other (Var.other (Var.other vg4 ⟨w.heap.size + 1, 0, none⟩ (.int .i64 kd2) (Ne.symm (Nat.succ_ne_self _))) ⟨w.heap.size + 1, 1, none⟩ (.int .u32 (vl a2)) (Ne.symm (Nat.succ_ne_self _))) ⟨w.heap.size + 1, 2, none⟩ (.int .u32 (vl b2')) (Ne.symm (Nat.succ_ne_self _))) ⟨w.heap.size + 1, 3, none⟩ (.string B2) (Ne.symm (Nat.succ_ne_self _)); have VG5 := Lib.hid vg5; have VF5 := Lib.hid vf5; have BW5 := Lib.hid (((((bel2 BW3.out b4).setCell (p := ⟨w.heap.size + 1, 0, none⟩) (Nat.le_succ _) (.int .i64 kd2)).setCell (p := ⟨w.heap.size + 1, 1, none⟩) (Nat.le_succ _) (.int .u32 (vl a2))).setCell (p := ⟨w.heap.size + 1, 2, none⟩) (Nat.le_succ _) (.int .u32 (vl b2'))).setCell (p := ⟨w.heap.size + 1, 3, none⟩) (Nat.le_succ _) (.string B2)); clear vg4 vf4 vf5 vg5))
    obtain ⟨w5, hw5⟩ : ∃ w5, w5 = (((w4.setCell ⟨w.heap.size + 1, 0, none⟩ (.int .i64 kd2)).setCell ⟨w.heap.size + 1, 1, none⟩ (.int .u32 (vl a2))).setCell ⟨w.heap.size + 1, 2, none⟩ (.int .u32 (vl b2'))).setCell ⟨w.heap.size + 1, 3, none⟩ (.string B2) := ⟨_, rfl⟩
    rw [← hw5] at VG5 VF5 BW5 ⊢
    clear hw5 t0 t1 t2 t3 h0 h1 h2 y0 y1 y2 x0 x1 x2 q0 q1 q2 q3 r0 r1 r2 r3
    refine wp_region_is_tail 6 [17, 18, 19, 20, 21, 22] (fun w' => Below w5.heap.size w5 w')
      [.pointer (some ⟨w.heap.size + 1, 3, none⟩), .string B2, .agg #[.int .i64 (pg : Int), .int .i64 hq, .int .i64 hr], .int .i64 ((pg : Int) - 15), .int .i64 ((pg : Int) - 15 - 1), .string B3] (by kernel_rfl) (by kernel_rfl) (by kernel_rfl) (by decide) rfl (by decide) (by simp) (Below.refl _ _).drew ?each ?done
    case each =>
      simp only [List.take_succ_cons, List.take_zero, Each]
      repeat' (first | exact trivial | refine And.intro ?_ ?_)
      all_goals
        intro ys wx hBx hdeps
        simp only [Deps, Region.binds, List.getD_cons_zero, List.getD_cons_succ, forall_const, and_true] at hdeps
        have g0 := (VG5.out.below hBx VG5.out.lt).cell (j := 0) rfl
        have g1 := (VG5.out.below hBx VG5.out.lt).cell (j := 1) rfl
        have g2 := (VG5.out.below hBx VG5.out.lt).cell (j := 2) rfl
        have k3 := (VF5.out.below hBx VF5.out.lt).cell (j := 3) rfl
        simp only [hdeps, fill, List.foldl_cons, List.foldl_nil, Act.put, List.setIfInBounds_toArray, List.set_cons_succ, List.set_cons_zero]
        first
          | (go_wp2_with fail; exact ⟨_, rfl, rfl, hBx, Below.refl _ _⟩)
          | (go_wp2_with (go_at_call 24; (with_reducible refine (HRM.out _).mono ?_); rintro e w3 ⟨rfl, hm⟩); exact ⟨_, rfl, rfl, hBx.trans (hm.mono hBx.size), hm⟩)
          | (go_wp2_with (go_at_call 23; (with_reducible refine (HSH.out _).mono ?_); rintro e w3 ⟨rfl, rfl⟩); exact ⟨_, rfl, rfl, hBx, Below.refl _ _⟩)
    case done =>
      intro ys wx hBx hV
      have h22 : ys 22 = .string B3 := hV 5 (by decide)
      have vf6 := VF5.out.below hBx VF5.out.lt
      have c3 := vf6.cell (j := 3) rfl
      have f3 := vf6.frozen 3
      have vf7 := vf6.set 3 (.string B3)
      have vg7 := Var.other (VG5.out.below hBx VG5.out.lt) ⟨w.heap.size + 1, 3, none⟩ (.string B3) (Ne.symm (Nat.succ_ne_self _))
      have VF7 := Lib.hid vf7
      have VG7 := Lib.hid vg7
      have BW7 := Lib.hid ((bel2 BW5.out hBx).setCell (p := ⟨w.heap.size + 1, 3, none⟩) (Nat.le_succ _) (.string B3))
      have h0 := vg7.cell (j := 0) rfl
      have h1 := vg7.cell (j := 1) rfl
      have h2 := vg7.cell (j := 2) rfl
      have t0 := vf7.cell (j := 0) rfl
      have t1 := vf7.cell (j := 1) rfl
      have t2 := vf7.cell (j := 2) rfl
      have t3 := vf7.cell (j := 3) rfl
      clear vf6 vf7 vg7 hBx hV
      simp only [h22, fill, List.drop_succ_cons, List.drop_zero, List.foldl_cons, List.foldl_nil, Act.put, List.setIfInBounds_toArray, List.set_cons_succ, List.set_cons_zero]
      go_wp2_with (first
        | (go_at_call 12; (with_reducible refine (HX.out _).mono ?_); rintro e w8 ⟨rfl, b8⟩; have VG8 := Lib.hid (VG7.out.below b8 VG7.out.lt); have BW8 := Lib.hid (bel2 BW7.out b8))
        | (go_at_call 14; (with_reducible refine (HAL.out _).mono ?_); rintro e w9 ⟨rfl, b9⟩; have VG9 := Lib.hid (VG8.out.below b9 VG8.out.lt); have i0 := VG9.out.cell (j := 0) rfl; have BW9 := Lib.hid (bel2 BW8.out b9))
        | (go_at_call 11; (with_reducible refine (HP.out _).mono ?_); rintro e w10 ⟨rfl, rfl⟩))
      refine wp_region_is [47, 48, 49, 50, 51, 52, 53, 54, 55, 9] (fun w' => Below w9.heap.size w9 w')
        [.string S, .int .i64 (k : Int), .string SK, .pointer (some ⟨w.heap.size, 0, none⟩), .int .i64 (pg : Int), .int .i64 (k : Int), .int .i64 ((pg : Int) - (k : Int)), .string FF, .string (SK ++ FF), .string (SK ++ FF)] (by kernel_rfl) (by kernel_rfl) rfl (by decide) (by simp) (Below.refl _ _).drew ?each ?done
      case each =>
        simp only [Each]
        repeat' (first | exact trivial | refine And.intro ?_ ?_)
        all_goals
          intro ys wx hBx hdeps
          simp only [Deps, Region.binds, List.getD_cons_zero, List.getD_cons_succ, forall_const, and_true] at hdeps
          have i0 := (VG9.out.below hBx VG9.out.lt).cell (j := 0) rfl
          simp only [hdeps, fill, List.foldl_cons, List.foldl_nil, Act.put, List.setIfInBounds_toArray, List.set_cons_succ, List.set_cons_zero]
          first
            | (go_wp2_with fail; exact ⟨_, rfl, rfl, hBx, Below.refl _ _⟩)
            | (go_wp2_with (go_at_call 15; (with_reducible refine (HFL.out _).mono ?_); rintro e w3 ⟨rfl, hm⟩); exact ⟨_, rfl, rfl, hBx.trans (hm.mono hBx.size), hm⟩)
      case done =>
        intro ys wx hBx hV
        have h9 : ys 9 = .string (SK ++ FF) := hV 9 (by decide)
        rw [← HT.out] at h9
        have BW10 := Lib.hid (bel2 BW9.out hBx)
        clear hBx hV
        simp only [h9, fill, List.drop_succ_cons, List.drop_zero, List.foldl_cons, List.foldl_nil, Act.put, List.setIfInBounds_toArray, List.set_cons_succ, List.set_cons_zero]
        go_wp2_with (go_at_call 16; (with_reducible refine (HR.out _).mono ?_); rintro e w11 ⟨rfl, b11⟩; have BW11 := Lib.hid (bel2 BW10.out b11))
        all_goals go_ret
        all_goals exact ⟨rfl, BW11.out.alloc BW11.out.size _⟩
  · clear hTS
    have q2 : ((cd : Int) != 0) = true := by simp; omega
    have q3 : ((cd : Int) == 0) = false := by simp; omega
    have q4 : (cd == 0) = false := by simp; omega
    go_enter Try.func8, Try.ntmps8
    go_wp2_with (first
      | (go_at_call 10; (with_reducible refine (HGE.out _).mono ?_); rintro e w2 ⟨rfl, b20⟩; have b2 : Below w1.heap.size w1 w2 := (by rw [hw1]; exact b20); clear b20; have vg := HG1.out.below b2 HG1.out.lt; have vf := HF1.out.below b2 HF1.out.lt; have y0 := vg.cell (j := 0) rfl; have y1 := vg.cell (j := 1) rfl; have y2 := vg.cell (j := 2) rfl; have x0 := vg.frozen 0; have x1 := vg.frozen 1; have x2 := vg.frozen 2; have vg3 := ((vg.set 0 (.int .i64 (pg : Int))).set 1 (.int .i64 hq)).set 2 (.int .i64 hr); have vf3 := Var.other (Var.other (Var.other vf ⟨w.heap.size, 0, none⟩ (.int .i64 (pg : Int)) (Nat.succ_ne_self _)) ⟨w.heap.size, 1, none⟩ (.int .i64 hq) (Nat.succ_ne_self _)) ⟨w.heap.size, 2, none⟩ (.int .i64 hr) (Nat.succ_ne_self _); have VG3 := Lib.hid vg3; have VF3 := Lib.hid vf3; have t0 := vf3.cell (j := 0) rfl; have t1 := vf3.cell (j := 1) rfl; have t2 := vf3.cell (j := 2) rfl; have t3 := vf3.cell (j := 3) rfl; have h0 := vg3.cell (j := 0) rfl; have h1 := vg3.cell (j := 1) rfl; have h2 := vg3.cell (j := 2) rfl; have BW3 := Lib.hid ((((bel2 HB1.out b2).setCell (p := ⟨w.heap.size, 0, none⟩) (Nat.le_refl _) (.int .i64 (pg : Int))).setCell (p := ⟨w.heap.size, 1, none⟩) (Nat.le_refl _) (.int .i64 hq)).setCell (p := ⟨w.heap.size, 2, none⟩) (Nat.le_refl _) (.int .i64 hr)); clear vg vf vf3 vg3)
      | (go_at_call 20; (with_reducible refine (HSP.out _).mono ?_); rintro e w4 ⟨rfl, b4⟩; have vg4 := VG3.out.below b4 VG3.out.lt; have vf4 := VF3.out.below b4 VF3.out.lt; have q0 := vf4.cell (j := 0) rfl; have q1 := vf4.cell (j := 1) rfl; have q2 := vf4.cell (j := 2) rfl; have q3 := vf4.cell (j := 3) rfl; have r0 := vf4.frozen 0; have r1 := vf4.frozen 1; have r2 := vf4.frozen 2; have r3 := vf4.frozen 3; have vf5 := (((vf4.set 0 (.int .i64 kd2)).set 1 (.int .u32 (vl a2))).set 2 (.int .u32 (vl b2'))).set 3 (.string B2); have vg5 := Var.other (Var.other (Var.other (Var.other vg4 ⟨w.heap.size + 1, 0, none⟩ (.int .i64 kd2) (Ne.symm (Nat.succ_ne_self _))) ⟨w.heap.size + 1, 1, none⟩ (.int .u32 (vl a2)) (Ne.symm (Nat.succ_ne_self _))) ⟨w.heap.size + 1, 2, none⟩ (.int .u32 (vl b2')) (Ne.symm (Nat.succ_ne_self _))) ⟨w.heap.size + 1, 3, none⟩ (.string B2) (Ne.symm (Nat.succ_ne_self _)); have VG5 := Lib.hid vg5; have VF5 := Lib.hid vf5; have BW5 := Lib.hid (((((bel2 BW3.out b4).setCell (p := ⟨w.heap.size + 1, 0, none⟩) (Nat.le_succ _) (.int .i64 kd2)).setCell (p := ⟨w.heap.size + 1, 1, none⟩) (Nat.le_succ _) (.int .u32 (vl a2))).setCell (p := ⟨w.heap.size + 1, 2, none⟩) (Nat.le_succ _) (.int .u32 (vl b2'))).setCell (p := ⟨w.heap.size + 1, 3, none⟩) (Nat.le_succ _) (.string B2)); clear vg4 vf4 vf5 vg5))
    obtain ⟨w5, hw5⟩ : ∃ w5, w5 = (((w4.setCell ⟨w.heap.size + 1, 0, none⟩ (.int .i64 kd2)).setCell ⟨w.heap.size + 1, 1, none⟩ (.int .u32 (vl a2))).setCell ⟨w.heap.size + 1, 2, none⟩ (.int .u32 (vl b2'))).setCell ⟨w.heap.size + 1, 3, none⟩ (.string B2) := ⟨_, rfl⟩
    rw [← hw5] at VG5 VF5 BW5 ⊢
    clear hw5 t0 t1 t2 t3 h0 h1 h2 y0 y1 y2 x0 x1 x2 q0 q1 q2 q3 r0 r1 r2 r3
    refine wp_region_is_tail 6 [17, 18, 19, 20, 21, 22] (fun w' => Below w5.heap.size w5 w')
      [.pointer (some ⟨w.heap.size + 1, 3, none⟩), .string B2, .agg #[.int .i64 (pg : Int), .int .i64 hq, .int .i64 hr], .int .i64 ((pg : Int) - 15), .int .i64 ((pg : Int) - 15 - 1), .string B3] (by kernel_rfl) (by kernel_rfl) (by kernel_rfl) (by decide) rfl (by decide) (by simp) (Below.refl _ _).drew ?each ?done
    case each =>
      simp only [List.take_succ_cons, List.take_zero, Each]
      repeat' (first | exact trivial | refine And.intro ?_ ?_)
      all_goals
        intro ys wx hBx hdeps
        simp only [Deps, Region.binds, List.getD_cons_zero, List.getD_cons_succ, forall_const, and_true] at hdeps
        have g0 := (VG5.out.below hBx VG5.out.lt).cell (j := 0) rfl
        have g1 := (VG5.out.below hBx VG5.out.lt).cell (j := 1) rfl
        have g2 := (VG5.out.below hBx VG5.out.lt).cell (j := 2) rfl
        have k3 := (VF5.out.below hBx VF5.out.lt).cell (j := 3) rfl
        simp only [hdeps, fill, List.foldl_cons, List.foldl_nil, Act.put, List.setIfInBounds_toArray, List.set_cons_succ, List.set_cons_zero]
        first
          | (go_wp2_with fail; exact ⟨_, rfl, rfl, hBx, Below.refl _ _⟩)
          | (go_wp2_with (go_at_call 24; (with_reducible refine (HRM.out _).mono ?_); rintro e w3 ⟨rfl, hm⟩); exact ⟨_, rfl, rfl, hBx.trans (hm.mono hBx.size), hm⟩)
          | (go_wp2_with (go_at_call 23; (with_reducible refine (HSH.out _).mono ?_); rintro e w3 ⟨rfl, rfl⟩); exact ⟨_, rfl, rfl, hBx, Below.refl _ _⟩)
    case done =>
      intro ys wx hBx hV
      have h22 : ys 22 = .string B3 := hV 5 (by decide)
      have vf6 := VF5.out.below hBx VF5.out.lt
      have c3 := vf6.cell (j := 3) rfl
      have f3 := vf6.frozen 3
      have vf7 := vf6.set 3 (.string B3)
      have vg7 := Var.other (VG5.out.below hBx VG5.out.lt) ⟨w.heap.size + 1, 3, none⟩ (.string B3) (Ne.symm (Nat.succ_ne_self _))
      have VF7 := Lib.hid vf7
      have VG7 := Lib.hid vg7
      have BW7 := Lib.hid ((bel2 BW5.out hBx).setCell (p := ⟨w.heap.size + 1, 3, none⟩) (Nat.le_succ _) (.string B3))
      have h0 := vg7.cell (j := 0) rfl
      have h1 := vg7.cell (j := 1) rfl
      have h2 := vg7.cell (j := 2) rfl
      have t0 := vf7.cell (j := 0) rfl
      have t1 := vf7.cell (j := 1) rfl
      have t2 := vf7.cell (j := 2) rfl
      have t3 := vf7.cell (j := 3) rfl
      clear vf6 vf7 vg7 hBx hV
      simp only [h22, fill, List.drop_succ_cons, List.drop_zero, List.foldl_cons, List.foldl_nil, Act.put, List.setIfInBounds_toArray, List.set_cons_succ, List.set_cons_zero]
      go_wp2_with (first
        | (go_at_call 12; (with_reducible refine (HX.out _).mono ?_); rintro e w8 ⟨rfl, b8⟩; have VG8 := Lib.hid (VG7.out.below b8 VG7.out.lt); have BW8 := Lib.hid (bel2 BW7.out b8))
        | (go_at_call 14; (with_reducible refine (HAL.out _).mono ?_); rintro e w9 ⟨rfl, b9⟩; have VG9 := Lib.hid (VG8.out.below b9 VG8.out.lt); have i0 := VG9.out.cell (j := 0) rfl; have BW9 := Lib.hid (bel2 BW8.out b9))
        | (go_at_call 11; (with_reducible refine (HP.out _).mono ?_); rintro e w10 ⟨rfl, rfl⟩))
      refine wp_region_is [47, 48, 49, 50, 51, 52, 53, 54, 55, 9] (fun w' => Below w9.heap.size w9 w')
        [.string S, .int .i64 (k : Int), .string SK, .pointer (some ⟨w.heap.size, 0, none⟩), .int .i64 (pg : Int), .int .i64 (k : Int), .int .i64 ((pg : Int) - (k : Int)), .string FF, .string (SK ++ FF), .string (SK ++ FF)] (by kernel_rfl) (by kernel_rfl) rfl (by decide) (by simp) (Below.refl _ _).drew ?each ?done
      case each =>
        simp only [Each]
        repeat' (first | exact trivial | refine And.intro ?_ ?_)
        all_goals
          intro ys wx hBx hdeps
          simp only [Deps, Region.binds, List.getD_cons_zero, List.getD_cons_succ, forall_const, and_true] at hdeps
          have i0 := (VG9.out.below hBx VG9.out.lt).cell (j := 0) rfl
          simp only [hdeps, fill, List.foldl_cons, List.foldl_nil, Act.put, List.setIfInBounds_toArray, List.set_cons_succ, List.set_cons_zero]
          first
            | (go_wp2_with fail; exact ⟨_, rfl, rfl, hBx, Below.refl _ _⟩)
            | (go_wp2_with (go_at_call 15; (with_reducible refine (HFL.out _).mono ?_); rintro e w3 ⟨rfl, hm⟩); exact ⟨_, rfl, rfl, hBx.trans (hm.mono hBx.size), hm⟩)
      case done =>
        intro ys wx hBx hV
        have h9 : ys 9 = .string (SK ++ FF) := hV 9 (by decide)
        rw [← HT.out] at h9
        have BW10 := Lib.hid (bel2 BW9.out hBx)
        clear hBx hV
        simp only [h9, fill, List.drop_succ_cons, List.drop_zero, List.foldl_cons, List.foldl_nil, Act.put, List.setIfInBounds_toArray, List.set_cons_succ, List.set_cons_zero]
        go_wp2_with (go_at_call 16; (with_reducible refine (HR.out _).mono ?_); rintro e w11 ⟨rfl, b11⟩; have BW11 := Lib.hid (bel2 BW10.out b11))
        all_goals go_ret
        all_goals exact ⟨rfl, BW11.out.alloc BW11.out.size _⟩
set_option maxRecDepth 100000 in
set_option maxHeartbeats 8000000 in
theorem room_any (g : Geom.Gm) (a b : W) (c : UInt8) (w : World) : Calls Try.prog 9 #[Geom.gV g, .int .u32 (vl a), .int .u32 (vl b), .int .u8 (c.toNat : Int)] w fun e w' => e = .returned (.bool true) ∧ Below w.heap.size w w' := by
  have hsm := Geom.small_small g
  have HGE := Lib.hid (fun w => Geom.geom_any g w)
  generalize Geom.smallG g = g1 at *
  have HRM := Lib.hid (fun w => Geom.refRoom_any g1 hsm w)
  obtain ⟨pg, hpg⟩ : ∃ pg, pg = g1.page.toNat := ⟨_, rfl⟩
  have hpgI : g1.page = (pg : Int) := by have := hsm.1; omega
  have p0 : 32 ≤ pg := by have := hsm.1; omega
  have p1 : pg ≤ 128 := by obtain ⟨_, h, -⟩ := hsm; omega
  unfold Geom.roomG at HRM
  rw [hpgI] at HRM
  obtain ⟨L, hL⟩ : ∃ L, L = List.replicate (pg - 15) c := ⟨_, rfl⟩
  have hLl : L.length = pg - 15 := by rw [hL, List.length_replicate]
  have HFL := Lib.hid (fun w => Flash.fill_any c ((pg : Int) - 15) (pg - 15) (.inl (by omega)) (by omega) w)
  rw [← hL] at HFL
  obtain ⟨f1, hf1⟩ : ∃ f1 : Fr, f1 = ⟨2, a, b, L⟩ := ⟨_, rfl⟩
  obtain ⟨f2, hf2⟩ : ∃ f2 : Fr, f2 = ⟨2, a, b, L ++ [120]⟩ := ⟨_, rfl⟩
  have hok : f1.Ok pg := by rw [hf1]; exact ⟨by simp only; omega, by simp only; omega, by simp only; omega, p0, p1⟩
  have hby : bytesG g1 f1 = (page pg f1, 0) := by
    have h1 := hok.k1; have h4 := hok.k4; have hf := hok.fits
    have := bytesG_ok (f := f1) (Geom.right_small.mpr hsm) (by omega) (by omega)
    rw [← hpg] at this
    exact this
  have hby2 : bytesG g1 f2 = ([], 4) := bytesG_long (Geom.right_small.mpr hsm) (by rw [hf2]; simp only; omega) (by rw [hf2, ← hpg]; simp only [List.length_append, List.length_singleton]; omega)
  have HX := Lib.hid (fun w => fBytes_any g1 f1 (by have := hok.fits; unfold maxLen; omega) w)
  have HX2 := Lib.hid (fun w => fBytes_any g1 f2 (by rw [hf2]; simp only [List.length_append, List.length_singleton]; unfold maxLen; omega) w)
  rw [hby] at HX
  rw [hby2] at HX2
  have hpl := page_length hok
  have hrp := read_page hok
  have HR := Lib.hid (fun w => fRead_any (bs (page pg f1)) (by rw [bs_size, hpl]; unfold maxLen; omega) w)
  rw [list_bs, hrp] at HR
  generalize page pg f1 = PG at *
  obtain ⟨S, hS⟩ : ∃ S, S = bs PG := ⟨_, rfl⟩
  simp only at HX HX2 HR
  rw [← hS] at HX HR
  unfold fV at HX HX2 HR
  rw [hf1] at HX HR
  rw [hf2] at HX2
  simp only at HX HX2 HR
  obtain ⟨B, hB⟩ : ∃ B, B = bs L := ⟨_, rfl⟩
  have hBx : bs (L ++ [120]) = B ++ ⟨#[120]⟩ := by rw [hB]; exact (Flash.bs_append L [120]).symm
  rw [hBx] at HX2
  rw [← hB] at HX HR HFL
  have hBs : B.size = pg - 15 := by rw [hB, bs_size, hLl]
  have hx1 : (ByteArray.mk #[120]).size = 1 := rfl
  have hsum : pg - 15 + 1 ≤ 128 := by omega
  have HAL := Lib.hid (fun w => alive_any w)
  have va := Crc.vl_range a
  have vb := Crc.vl_range b
  clear hby hby2 hok hf1 hf2 hpl hrp hS hB hBx hL hLl hpg
  clear f1 f2
  obtain ⟨hp, hq, hr⟩ := g1
  obtain ⟨gp, gs, gr⟩ := g
  simp only at hpgI
  subst hpgI
  unfold Geom.gV at HGE HX HX2 HRM ⊢
  simp only at HGE HX HX2 HRM ⊢
  have HG1 := Lib.hid (Var.new w 23 [.int .i64 gp, .int .i64 gs, .int .i64 gr])
  obtain ⟨w1, hw1⟩ : ∃ w1, w1 = w.alloc (.cells #[.int .i64 gp, .int .i64 gs, .int .i64 gr] 23) := ⟨_, rfl⟩
  have HB1 := Lib.hid (show Below w.heap.size w w1 by rw [hw1]; exact Geom.bel_alloc _ _)
  rw [show w.alloc (.cells [.int .i64 gp, .int .i64 gs, .int .i64 gr].toArray 23) = w1 from hw1.symm] at HG1
  go_enter Try.func9, Try.ntmps9
  go_wp2_with (first
    | (go_at_call 10; (with_reducible refine (HGE.out _).mono ?_); rintro e w2 ⟨rfl, b20⟩; have b2 : Below w1.heap.size w1 w2 := (by rw [hw1]; exact b20); clear b20; have vg := HG1.out.below b2 HG1.out.lt; have y0 := vg.cell (j := 0) rfl; have y1 := vg.cell (j := 1) rfl; have y2 := vg.cell (j := 2) rfl; have x0 := vg.frozen 0; have x1 := vg.frozen 1; have x2 := vg.frozen 2; have vg3 := ((vg.set 0 (.int .i64 (pg : Int))).set 1 (.int .i64 hq)).set 2 (.int .i64 hr); have VG3 := Lib.hid vg3; have h0 := vg3.cell (j := 0) rfl; have h1 := vg3.cell (j := 1) rfl; have h2 := vg3.cell (j := 2) rfl; have BW3 := Lib.hid ((((bel2 HB1.out b2).setCell (p := ⟨w.heap.size, 0, none⟩) (Nat.le_refl _) (.int .i64 (pg : Int))).setCell (p := ⟨w.heap.size, 1, none⟩) (Nat.le_refl _) (.int .i64 hq)).setCell (p := ⟨w.heap.size, 2, none⟩) (Nat.le_refl _) (.int .i64 hr)); clear vg vg3)
    | (go_at_call 24; (with_reducible refine (HRM.out _).mono ?_); rintro e w4 ⟨rfl, b4⟩; have VG4 := Lib.hid (VG3.out.below b4 VG3.out.lt); have BW4 := Lib.hid (bel2 BW3.out b4))
    | (go_at_call 15; (with_reducible refine (HFL.out _).mono ?_); rintro e w5 ⟨rfl, b5⟩; have VG5 := Lib.hid (VG4.out.below b5 VG4.out.lt); have BW5 := Lib.hid (bel2 BW4.out b5); have i0 := VG5.out.cell (j := 0) rfl; have i1 := VG5.out.cell (j := 1) rfl; have i2 := VG5.out.cell (j := 2) rfl)
    | (go_at_call 12; (with_reducible refine (HX.out _).mono ?_); rintro e w6 ⟨rfl, b6⟩; have VG6 := Lib.hid (VG5.out.below b6 VG5.out.lt); have BW6 := Lib.hid (bel2 BW5.out b6); have k0 := VG6.out.cell (j := 0) rfl; have k1 := VG6.out.cell (j := 1) rfl; have k2 := VG6.out.cell (j := 2) rfl)
    | (go_at_call 12; (with_reducible refine (HX2.out _).mono ?_); rintro e w7 ⟨rfl, b7⟩; have BW7 := Lib.hid (bel2 BW6.out b7))
    | (go_at_call 16; (with_reducible refine (HR.out _).mono ?_); rintro e w8 ⟨rfl, b8⟩; have BW8 := Lib.hid (bel2 BW7.out b8); have VH8 := Lib.hid (Var.new w8 26 [.int .i64 2, .int .u32 (vl a), .int .u32 (vl b), .string B]))
    | (go_at_call 14; (with_reducible refine (HAL.out _).mono ?_); rintro e w9 ⟨rfl, b9⟩; have BW9 := Lib.hid (bel2 (bel2 BW8.out (Geom.bel_alloc _ _)) b9); have vh := VH8.out.below b9 VH8.out.lt; have l0 := vh.cell (j := 0) rfl; have l1 := vh.cell (j := 1) rfl; have l2 := vh.cell (j := 2) rfl; have l3 := vh.cell (j := 3) rfl))
  go_ret
  exact ⟨rfl, BW9.out⟩
end Go.Proofs.Ytlpjgfafecpbgaa.Frame
