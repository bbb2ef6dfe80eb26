/-
  The walks of the laws of chapter 8: FrameBent.
-/
import Derived.Test.YtlpjgfafecpbgaaFrameLawsC
set_option linter.unusedVariables false
set_option linter.unusedSimpArgs false
namespace Go.Proofs.Ytlpjgfafecpbgaa.Frame
open Go.RowKit
open CrcM (W)
open Crc (le4 sumOf vl wd putS)
open Flash (bs bs_size bs_list list_bs)
open Tup Bytes Foot
open Go.Proofs.Ytlpjgfafecpbgaa.Region (fill Then Deps Each wp_region_is wp_region_is_tail wp_region_each wp_region_tail)

set_option maxRecDepth 100000 in
set_option maxHeartbeats 16000000 in
theorem bent_any (g : Geom.Gm) (f : Fr) (hs : f.body.length ≤ maxLen) (p0 p1 p2 : Int) (c0 c1 c2 : UInt8) (right : Bool) (w : World) : Calls Try.prog 6 #[Geom.gV g, fV f, .agg #[.int .i64 p0, .int .i64 p1, .int .i64 p2], .agg #[.int .u8 (c0.toNat : Int), .int .u8 (c1.toNat : Int), .int .u8 (c2.toNat : Int)], .bool right] w fun e w' => e = .returned (.bool true) ∧ Below w.heap.size w w' := by
  have hsm := Geom.small_small g
  have HGE := Lib.hid (fun w => Geom.geom_any g w)
  generalize Geom.smallG g = g1 at *
  have HSP := Lib.hid (fun w => shaped_any g1 hsm f hs w)
  have hok := shape_ok hsm f
  have hby := shape_bytes hsm f
  obtain ⟨pg, hpg⟩ : ∃ pg, pg = g1.page.toNat := ⟨_, rfl⟩
  have hpgI : g1.page = (pg : Int) := by have := hsm.1; omega
  rw [← hpg] at hok hby
  have hp0 := hok.p0
  have hp1 := hok.p1
  have hpl := page_length hok
  have hrp := read_page hok
  have hbl : (shapeF g1 f).body.length ≤ maxLen := by have := hok.fits; unfold maxLen; omega
  have HX := Lib.hid (fun w => refBytes_any g1 (shapeF g1 f) hbl w)
  rw [hby] at HX
  obtain ⟨S, hS⟩ : ∃ S, S = bs (page pg (shapeF g1 f)) := ⟨_, rfl⟩
  have hSL : S.data.toList = page pg (shapeF g1 f) := by rw [hS, list_bs]
  rw [← hS] at HX
  have hSz : (S.size : Int) = (pg : Int) := by rw [hS, bs_size, hpl]
  have hSn : S.size = pg := by omega
  have hSll : S.data.toList.length = pg := by simpa using hSn
  have hcv := fun w => Lib.run_convert_string_bytes (P := Try.prog) w 9 43 5 S Try.underlying9 Try.underlying43 Try.underlying5
  have HRW0 := Lib.hid (fun w => show Row8 (Lib.bytesWorld w 5 S) w.heap.size S.data.toList from Row8.of_string w 5 S)
  have HSll := Lib.hid hSll
  clear hby hok hrp hpl hbl hS hSL hSll
  generalize shapeF g1 f = f2 at *
  obtain ⟨kd2, a2, b2', body2⟩ := f2
  obtain ⟨B2, hB2⟩ : ∃ B2, B2 = bs body2 := ⟨_, rfl⟩
  obtain ⟨hp, hq, hr⟩ := g1
  simp only at hpgI
  subst hpgI
  obtain ⟨gp, gs, gr⟩ := g
  obtain ⟨kd, a, b, body⟩ := f
  obtain ⟨B, hB⟩ : ∃ B, B = bs body := ⟨_, rfl⟩
  simp only at hs
  obtain ⟨w1, hw1⟩ : ∃ w1, w1 = (((w.alloc (.cells #[.int .i64 gp, .int .i64 gs, .int .i64 gr] 23)).alloc (.cells #[.int .i64 kd, .int .u32 (vl a), .int .u32 (vl b), .string B] 26)).alloc (.cells #[.int .i64 p0, .int .i64 p1, .int .i64 p2] 41)).alloc (.cells #[.int .u8 (c0.toNat : Int), .int .u8 (c1.toNat : Int), .int .u8 (c2.toNat : Int)] 42) := ⟨_, rfl⟩
  have HB1 := Lib.hid (show Below w.heap.size w w1 by rw [hw1]; exact bel2 (bel2 (bel2 (Geom.bel_alloc _ _) (Geom.bel_alloc _ _)) (Geom.bel_alloc _ _)) (Geom.bel_alloc _ _))
  have HG1 := Lib.hid (show Var w1 w.heap.size 23 [.int .i64 gp, .int .i64 gs, .int .i64 gr] by rw [hw1]; exact (((Var.new w _ _).alloc _).alloc _).alloc _)
  have HF1 := Lib.hid (show Var w1 (w.heap.size + 1) 26 [.int .i64 kd, .int .u32 (vl a), .int .u32 (vl b), .string B] by
    have := ((Var.new (w.alloc (.cells #[.int .i64 gp, .int .i64 gs, .int .i64 gr] 23)) 26 [.int .i64 kd, .int .u32 (vl a), .int .u32 (vl b), .string B]).alloc (.cells #[.int .i64 p0, .int .i64 p1, .int .i64 p2] 41)).alloc (.cells #[.int .u8 (c0.toNat : Int), .int .u8 (c1.toNat : Int), .int .u8 (c2.toNat : Int)] 42)
    rw [show (w.alloc (.cells #[.int .i64 gp, .int .i64 gs, .int .i64 gr] 23)).heap.size = w.heap.size + 1 by simp] at this
    rw [hw1]; exact this)
  have HA1 := Lib.hid (show Var w1 (w.heap.size + 2) 41 [.int .i64 p0, .int .i64 p1, .int .i64 p2] by
    have := (Var.new ((w.alloc (.cells #[.int .i64 gp, .int .i64 gs, .int .i64 gr] 23)).alloc (.cells #[.int .i64 kd, .int .u32 (vl a), .int .u32 (vl b), .string B] 26)) 41 [.int .i64 p0, .int .i64 p1, .int .i64 p2]).alloc (.cells #[.int .u8 (c0.toNat : Int), .int .u8 (c1.toNat : Int), .int .u8 (c2.toNat : Int)] 42)
    rw [show ((w.alloc (.cells #[.int .i64 gp, .int .i64 gs, .int .i64 gr] 23)).alloc (.cells #[.int .i64 kd, .int .u32 (vl a), .int .u32 (vl b), .string B] 26)).heap.size = w.heap.size + 2 by simp] at this
    rw [hw1]; exact this)
  have HY1 := Lib.hid (show Var w1 (w.heap.size + 3) 42 [.int .u8 (c0.toNat : Int), .int .u8 (c1.toNat : Int), .int .u8 (c2.toNat : Int)] by
    have := Var.new (((w.alloc (.cells #[.int .i64 gp, .int .i64 gs, .int .i64 gr] 23)).alloc (.cells #[.int .i64 kd, .int .u32 (vl a), .int .u32 (vl b), .string B] 26)).alloc (.cells #[.int .i64 p0, .int .i64 p1, .int .i64 p2] 41)) 42 [.int .u8 (c0.toNat : Int), .int .u8 (c1.toNat : Int), .int .u8 (c2.toNat : Int)]
    rw [show (((w.alloc (.cells #[.int .i64 gp, .int .i64 gs, .int .i64 gr] 23)).alloc (.cells #[.int .i64 kd, .int .u32 (vl a), .int .u32 (vl b), .string B] 26)).alloc (.cells #[.int .i64 p0, .int .i64 p1, .int .i64 p2] 41)).heap.size = w.heap.size + 3 by simp] at this
    rw [hw1]; exact this)
  have HAL := Lib.hid (fun w => alive_any w)
  unfold Geom.gV fV at HX HSP ⊢
  unfold Geom.gV at HGE
  simp only at HX HSP HGE ⊢
  rw [← hB2] at HX HSP
  rw [← hB] at HSP ⊢
  clear hB hB2 hpg hs
  go_enter Try.func6, Try.ntmps6
  go_wp2_with (go_at_call 10; (with_reducible refine (HGE.out _).mono ?_); rintro e w2 ⟨rfl, b20⟩; have b2 : Below w1.heap.size w1 w2 := (by rw [hw1]; exact b20); clear b20; have vg := HG1.out.below b2 HG1.out.lt; have vf := HF1.out.below b2 HF1.out.lt; have y0 := vg.cell (j := 0) rfl; have y1 := vg.cell (j := 1) rfl; have y2 := vg.cell (j := 2) rfl; have x0 := vg.frozen 0; have x1 := vg.frozen 1; have x2 := vg.frozen 2; have vg3 := ((vg.set 0 (.int .i64 (pg : Int))).set 1 (.int .i64 hq)).set 2 (.int .i64 hr); have vf3 := Var.other (Var.other (Var.other vf ⟨w.heap.size, 0, none⟩ (.int .i64 (pg : Int)) (Nat.succ_ne_self _)) ⟨w.heap.size, 1, none⟩ (.int .i64 hq) (Nat.succ_ne_self _)) ⟨w.heap.size, 2, none⟩ (.int .i64 hr) (Nat.succ_ne_self _); have VG3 := Lib.hid vg3; have VF3 := Lib.hid vf3; have t0 := vf3.cell (j := 0) rfl; have t1 := vf3.cell (j := 1) rfl; have t2 := vf3.cell (j := 2) rfl; have t3 := vf3.cell (j := 3) rfl; have h0 := vg3.cell (j := 0) rfl; have h1 := vg3.cell (j := 1) rfl; have h2 := vg3.cell (j := 2) rfl; have BW3 := Lib.hid ((((bel2 HB1.out b2).setCell (p := ⟨w.heap.size, 0, none⟩) (Nat.le_refl _) (.int .i64 (pg : Int))).setCell (p := ⟨w.heap.size, 1, none⟩) (Nat.le_refl _) (.int .i64 hq)).setCell (p := ⟨w.heap.size, 2, none⟩) (Nat.le_refl _) (.int .i64 hr)); have va3 := Var.other (Var.other (Var.other (HA1.out.below b2 HA1.out.lt) ⟨w.heap.size, 0, none⟩ (.int .i64 (pg : Int)) (by simp only; omega)) ⟨w.heap.size, 1, none⟩ (.int .i64 hq) (by simp only; omega)) ⟨w.heap.size, 2, none⟩ (.int .i64 hr) (by simp only; omega); have vy3 := Var.other (Var.other (Var.other (HY1.out.below b2 HY1.out.lt) ⟨w.heap.size, 0, none⟩ (.int .i64 (pg : Int)) (by simp only; omega)) ⟨w.heap.size, 1, none⟩ (.int .i64 hq) (by simp only; omega)) ⟨w.heap.size, 2, none⟩ (.int .i64 hr) (by simp only; omega); have VA3 := Lib.hid va3; have VY3 := Lib.hid vy3; clear vg vf vf3 vg3 va3 vy3)
  obtain ⟨w3, hw3⟩ : ∃ w3, w3 = ((w2.setCell ⟨w.heap.size, 0, none⟩ (.int .i64 (pg : Int))).setCell ⟨w.heap.size, 1, none⟩ (.int .i64 hq)).setCell ⟨w.heap.size, 2, none⟩ (.int .i64 hr) := ⟨_, rfl⟩
  rw [← hw3] at VG3 VF3 VA3 VY3 BW3 ⊢
  clear hw3 t0 t1 t2 t3 h0 h1 h2 y0 y1 y2 x0 x1 x2
  refine wp_region_is [23, 24, 25, 26, 27, 22, 28, 29, 11, 12] (fun w' => Below w3.heap.size w3 w')
    [.agg #[.int .i64 (pg : Int), .int .i64 hq, .int .i64 hr], .agg #[.int .i64 (pg : Int), .int .i64 hq, .int .i64 hr], .agg #[.int .i64 kd, .int .u32 (vl a), .int .u32 (vl b), .string B], .agg #[.int .i64 kd2, .int .u32 (vl a2), .int .u32 (vl b2'), .string B2], .tuple #[.string S, .int .i64 0], .tuple #[.string S, .int .i64 0], .string S, .int .i64 0, .string S, .int .i64 0] (by kernel_rfl) (by kernel_rfl) rfl (by decide) (by simp) (Below.refl _ _).drew ?each ?done
  case each =>
    simp only [Each]
    repeat' (first | exact trivial | refine And.intro ?_ ?_)
    all_goals
      intro ys wx hBx hdeps
      simp only [Deps, Region.binds, List.getD_cons_zero, List.getD_cons_succ, forall_const, and_true] at hdeps
      have g0 := (VG3.out.below hBx VG3.out.lt).cell (j := 0) rfl
      have g1 := (VG3.out.below hBx VG3.out.lt).cell (j := 1) rfl
      have g2 := (VG3.out.below hBx VG3.out.lt).cell (j := 2) rfl
      have k0 := (VF3.out.below hBx VF3.out.lt).cell (j := 0) rfl
      have k1 := (VF3.out.below hBx VF3.out.lt).cell (j := 1) rfl
      have k2 := (VF3.out.below hBx VF3.out.lt).cell (j := 2) rfl
      have k3 := (VF3.out.below hBx VF3.out.lt).cell (j := 3) rfl
      simp only [hdeps, fill, List.foldl_cons, List.foldl_nil, Act.put, List.setIfInBounds_toArray, List.set_cons_succ, List.set_cons_zero]
      first
        | (go_wp2_with fail; exact ⟨_, rfl, rfl, hBx, Below.refl _ _⟩)
        | (go_wp2_with (go_at_call 20; (with_reducible refine (HSP.out _).mono ?_); rintro e w3 ⟨rfl, hm⟩); exact ⟨_, rfl, rfl, hBx.trans (hm.mono hBx.size), hm⟩)
        | (go_wp2_with (go_at_call 13; (with_reducible refine (HX.out _).mono ?_); rintro e w3 ⟨rfl, hm⟩); exact ⟨_, rfl, rfl, hBx.trans (hm.mono hBx.size), hm⟩)
  case done =>
    intro ys wx hBx hV
    have h11 : ys 11 = .string S := hV 8 (by decide)
    have h12 : ys 12 = .int .i64 0 := hV 9 (by decide)
    have BW4 := Lib.hid (bel2 BW3.out hBx)
    have VA4 := Lib.hid (VA3.out.below hBx VA3.out.lt)
    have VY4 := Lib.hid (VY3.out.below hBx VY3.out.lt)
    clear hBx hV
    simp only [h11, h12, fill, List.drop_succ_cons, List.drop_zero, List.foldl_cons, List.foldl_nil, Act.put, List.setIfInBounds_toArray, List.set_cons_succ, List.set_cons_zero]
    go_wp2_with (go_at_call 14; (with_reducible refine (HAL.out _).mono ?_); rintro e w7 ⟨rfl, b7⟩; have BW7 := Lib.hid (bel2 BW4.out b7); have VA7 := Lib.hid ((VA4.out.below b7 VA4.out.lt).below (bytes_below w7 5 S) (VA4.out.below b7 VA4.out.lt).lt); have VY7 := Lib.hid ((VY4.out.below b7 VY4.out.lt).below (bytes_below w7 5 S) (VY4.out.below b7 VY4.out.lt).lt); have HR7 := Lib.hid (HRW0.out w7))
    have BW8 := Lib.hid (bel2 BW7.out (bytes_below w7 5 S))
    have HB8 := Lib.hid (show w.heap.size + 4 ≤ w7.heap.size by have := (VY4.out.below b7 VY4.out.lt).lt; omega)
    generalize grownCap w7 pg 0 5 = cap8 at *
    obtain ⟨B8, hB8⟩ : ∃ B8, B8 = w7.heap.size := ⟨_, rfl⟩
    rw [← hB8] at HB8 HR7 ⊢
    obtain ⟨w8, hw8⟩ : ∃ w8, w8 = Lib.bytesWorld w7 5 S := ⟨_, rfl⟩
    rw [← hw8] at BW8 VA7 VY7 HR7 ⊢
    clear hw8 hB8 b7
    go_loopw [14] (fun v wr => ∃ k : Nat, v = .int .i64 (k : Int) ∧ k ≤ 3 ∧ Below w.heap.size w wr ∧ Var wr (w.heap.size + 2) 41 [.int .i64 p0, .int .i64 p1, .int .i64 p2] ∧ Var wr (w.heap.size + 3) 42 [.int .u8 (c0.toNat : Int), .int .u8 (c1.toNat : Int), .int .u8 (c2.toNat : Int)] ∧ ∃ L, Row8 wr B8 L ∧ L.length = pg) (fun v _ => 3 - (intOf v).toNat)
    case atStart => exact ⟨0, rfl, by omega, BW8.out, VA7.out, VY7.out, _, HR7.out, HSll.out⟩
    case round =>
      obtain ⟨k, rfl, hk3, hBW, hVA, hVY, L, hR, hL⟩ := hrel
      clear BW8 VA7 VY7 HR7 HRW0 hcv
      rcases (show k = 0 ∨ k = 1 ∨ k = 2 ∨ k = 3 by omega) with rfl | rfl | rfl | rfl
      · rw [show ((0 : Nat) : Int) = 0 from rfl]
        obtain ⟨i, hi⟩ : ∃ i : Nat, (i : Int) = p0 % (pg : Int) := ⟨(p0 % (pg : Int)).toNat, by have := Int.emod_nonneg p0 (show (pg : Int) ≠ 0 by omega); omega⟩
        have hip : i < pg := by have := Int.emod_lt_of_pos p0 (show (0 : Int) < (pg : Int) by omega); omega
        have hip2 : (i : Int) < (pg : Int) := by omega
        have HP : Hid (∀ w, Calls Try.prog 11 #[.int .i64 p0, .int .i64 (pg : Int)] w fun e w' => e = .returned (.int .i64 (p0 % (pg : Int))) ∧ w = w') := fun w => Book.pick_any p0 pg (by omega) (by omega) w
        rw [← hi] at HP
        obtain ⟨y, hy⟩ : ∃ y, y = L.getD i 0 := ⟨_, rfl⟩
        obtain ⟨z, hz⟩ : ∃ z, z = y ^^^ c0 := ⟨_, rfl⟩
        have hxr : bits .xor .u8 (y.toNat : Int) (c0.toNat : Int) = (z.toNat : Int) := by rw [hz]; exact xor_u8 y c0
        have HRW := Lib.hid hR
        have HLL := Lib.hid hL
        have HYY := Lib.hid hy
        have BWr := Lib.hid hBW
        have VAr := Lib.hid hVA
        have VYr := Lib.hid hVY
        clear hi hy hz hR hL hBW hVA hVY
        go_wp2
        refine wp_region_is_tail 14 [42, 43, 44, 45, 46, 47, 48, 49, 50, 51, 52, 53, 54, 55] (fun w' => Below wr.heap.size wr w')
          [.slice (some ⟨B8, 0, none⟩) pg cap8, .int .i64 0, .pointer (some ⟨w.heap.size + 2, 0, none⟩), .int .i64 p0, .slice (some ⟨B8, 0, none⟩) pg cap8, .int .i64 (pg : Int), .int .i64 (i : Int), .pointer (some ⟨B8, i, none⟩), .int .u8 (y.toNat : Int), .int .i64 0, .pointer (some ⟨w.heap.size + 3, 0, none⟩), .int .u8 (c0.toNat : Int), .int .u8 (z.toNat : Int), .pointer (some ⟨B8, i, none⟩)] (by kernel_rfl) (by kernel_rfl) (by kernel_rfl) (by decide) rfl (by decide) (by simp) (Below.refl _ _).drew ?each ?done
        case each =>
          simp only [List.take_succ_cons, List.take_zero, Each]
          repeat' (first | exact trivial | refine And.intro ?_ ?_)
          all_goals
            intro ys wx hBx hdeps
            simp only [Deps, Region.binds, List.getD_cons_zero, List.getD_cons_succ, forall_const, and_true] at hdeps
            have a0 := (VAr.out.below hBx VAr.out.lt).cell (j := 0) rfl
            have d0 := (VYr.out.below hBx VYr.out.lt).cell (j := 0) rfl
            have r0 : wx.cell? ⟨B8, i, none⟩ = some (.int .u8 (y.toNat : Int)) := by have := ((HRW.out.below hBx) i (by rw [HLL.out]; exact hip)).1; rw [← HYY.out] at this; exact this
            simp only [hdeps, fill, List.foldl_cons, List.foldl_nil, Act.put, List.setIfInBounds_toArray, List.set_cons_succ, List.set_cons_zero]
            first
              | (go_wp2_with fail; exact ⟨_, rfl, rfl, hBx, Below.refl _ _⟩)
              | (go_wp2_with (go_at_call 11; (with_reducible refine (HP.out _).mono ?_); rintro e w3 ⟨rfl, rfl⟩); exact ⟨_, rfl, rfl, hBx, Below.refl _ _⟩)
        case done =>
          intro ys wx hBx hV
          have h54 : ys 54 = .int .u8 (z.toNat : Int) := hV 12 (by decide)
          have h55 : ys 55 = .pointer (some ⟨B8, i, none⟩) := hV 13 (by decide)
          have hRx := HRW.out.below hBx
          have r0 := (hRx i (by rw [HLL.out]; exact hip)).1
          have r1 := (hRx i (by rw [HLL.out]; exact hip)).2
          have HS9 := Lib.hid (hRx.set i z (by rw [HLL.out]; exact hip))
          have VA9 := Lib.hid (Var.other (VAr.out.below hBx VAr.out.lt) ⟨B8, i, none⟩ (.int .u8 (z.toNat : Int)) (by have := HB8.out; simp only; omega))
          have VY9 := Lib.hid (Var.other (VYr.out.below hBx VYr.out.lt) ⟨B8, i, none⟩ (.int .u8 (z.toNat : Int)) (by have := HB8.out; simp only; omega))
          have BW9 := Lib.hid ((bel2 BWr.out hBx).setCell (p := ⟨B8, i, none⟩) (by have := HB8.out; simp only; omega) (.int .u8 (z.toNat : Int)))
          clear hRx hBx hV
          simp only [h54, h55, fill, List.drop_succ_cons, List.drop_zero, List.foldl_cons, List.foldl_nil, Act.put, List.setIfInBounds_toArray, List.set_cons_succ, List.set_cons_zero]
          go_wp2
          exact ⟨⟨0 + 1, by go_num, by omega, BW9.out, VA9.out, VY9.out, L.set i z, HS9.out, by rw [List.length_set]; exact HLL.out⟩, by simp [intOf]⟩
      · rw [show ((1 : Nat) : Int) = 1 from rfl]
        obtain ⟨i, hi⟩ : ∃ i : Nat, (i : Int) = p1 % (pg : Int) := ⟨(p1 % (pg : Int)).toNat, by have := Int.emod_nonneg p1 (show (pg : Int) ≠ 0 by omega); omega⟩
        have hip : i < pg := by have := Int.emod_lt_of_pos p1 (show (0 : Int) < (pg : Int) by omega); omega
        have hip2 : (i : Int) < (pg : Int) := by omega
        have HP : Hid (∀ w, Calls Try.prog 11 #[.int .i64 p1, .int .i64 (pg : Int)] w fun e w' => e = .returned (.int .i64 (p1 % (pg : Int))) ∧ w = w') := fun w => Book.pick_any p1 pg (by omega) (by omega) w
        rw [← hi] at HP
        obtain ⟨y, hy⟩ : ∃ y, y = L.getD i 0 := ⟨_, rfl⟩
        obtain ⟨z, hz⟩ : ∃ z, z = y ^^^ c1 := ⟨_, rfl⟩
        have hxr : bits .xor .u8 (y.toNat : Int) (c1.toNat : Int) = (z.toNat : Int) := by rw [hz]; exact xor_u8 y c1
        have HRW := Lib.hid hR
        have HLL := Lib.hid hL
        have HYY := Lib.hid hy
        have BWr := Lib.hid hBW
        have VAr := Lib.hid hVA
        have VYr := Lib.hid hVY
        clear hi hy hz hR hL hBW hVA hVY
        go_wp2
        refine wp_region_is_tail 14 [42, 43, 44, 45, 46, 47, 48, 49, 50, 51, 52, 53, 54, 55] (fun w' => Below wr.heap.size wr w')
          [.slice (some ⟨B8, 0, none⟩) pg cap8, .int .i64 1, .pointer (some ⟨w.heap.size + 2, 1, none⟩), .int .i64 p1, .slice (some ⟨B8, 0, none⟩) pg cap8, .int .i64 (pg : Int), .int .i64 (i : Int), .pointer (some ⟨B8, i, none⟩), .int .u8 (y.toNat : Int), .int .i64 1, .pointer (some ⟨w.heap.size + 3, 1, none⟩), .int .u8 (c1.toNat : Int), .int .u8 (z.toNat : Int), .pointer (some ⟨B8, i, none⟩)] (by kernel_rfl) (by kernel_rfl) (by kernel_rfl) (by decide) rfl (by decide) (by simp) (Below.refl _ _).drew ?each ?done
        case each =>
          simp only [List.take_succ_cons, List.take_zero, Each]
          repeat' (first | exact trivial | refine And.intro ?_ ?_)
          all_goals
            intro ys wx hBx hdeps
            simp only [Deps, Region.binds, List.getD_cons_zero, List.getD_cons_succ, forall_const, and_true] at hdeps
            have a1 := (VAr.out.below hBx VAr.out.lt).cell (j := 1) rfl
            have d1 := (VYr.out.below hBx VYr.out.lt).cell (j := 1) rfl
            have r0 : wx.cell? ⟨B8, i, none⟩ = some (.int .u8 (y.toNat : Int)) := by have := ((HRW.out.below hBx) i (by rw [HLL.out]; exact hip)).1; rw [← HYY.out] at this; exact this
            simp only [hdeps, fill, List.foldl_cons, List.foldl_nil, Act.put, List.setIfInBounds_toArray, List.set_cons_succ, List.set_cons_zero]
            first
              | (go_wp2_with fail; exact ⟨_, rfl, rfl, hBx, Below.refl _ _⟩)
              | (go_wp2_with (go_at_call 11; (with_reducible refine (HP.out _).mono ?_); rintro e w3 ⟨rfl, rfl⟩); exact ⟨_, rfl, rfl, hBx, Below.refl _ _⟩)
        case done =>
          intro ys wx hBx hV
          have h54 : ys 54 = .int .u8 (z.toNat : Int) := hV 12 (by decide)
          have h55 : ys 55 = .pointer (some ⟨B8, i, none⟩) := hV 13 (by decide)
          have hRx := HRW.out.below hBx
          have r0 := (hRx i (by rw [HLL.out]; exact hip)).1
          have r1 := (hRx i (by rw [HLL.out]; exact hip)).2
          have HS9 := Lib.hid (hRx.set i z (by rw [HLL.out]; exact hip))
          have VA9 := Lib.hid (Var.other (VAr.out.below hBx VAr.out.lt) ⟨B8, i, none⟩ (.int .u8 (z.toNat : Int)) (by have := HB8.out; simp only; omega))
          have VY9 := Lib.hid (Var.other (VYr.out.below hBx VYr.out.lt) ⟨B8, i, none⟩ (.int .u8 (z.toNat : Int)) (by have := HB8.out; simp only; omega))
          have BW9 := Lib.hid ((bel2 BWr.out hBx).setCell (p := ⟨B8, i, none⟩) (by have := HB8.out; simp only; omega) (.int .u8 (z.toNat : Int)))
          clear hRx hBx hV
          simp only [h54, h55, fill, List.drop_succ_cons, List.drop_zero, List.foldl_cons, List.foldl_nil, Act.put, List.setIfInBounds_toArray, List.set_cons_succ, List.set_cons_zero]
          go_wp2
          exact ⟨⟨1 + 1, by go_num, by omega, BW9.out, VA9.out, VY9.out, L.set i z, HS9.out, by rw [List.length_set]; exact HLL.out⟩, by simp [intOf]⟩
      · rw [show ((2 : Nat) : Int) = 2 from rfl]
        obtain ⟨i, hi⟩ : ∃ i : Nat, (i : Int) = p2 % (pg : Int) := ⟨(p2 % (pg : Int)).toNat, by have := Int.emod_nonneg p2 (show (pg : Int) ≠ 0 by omega); omega⟩
        have hip : i < pg := by have := Int.emod_lt_of_pos p2 (show (0 : Int) < (pg : Int) by omega); omega
        have hip2 : (i : Int) < (pg : Int) := by omega
        have HP : Hid (∀ w, Calls Try.prog 11 #[.int .i64 p2, .int .i64 (pg : Int)] w fun e w' => e = .returned (.int .i64 (p2 % (pg : Int))) ∧ w = w') := fun w => Book.pick_any p2 pg (by omega) (by omega) w
        rw [← hi] at HP
        obtain ⟨y, hy⟩ : ∃ y, y = L.getD i 0 := ⟨_, rfl⟩
        obtain ⟨z, hz⟩ : ∃ z, z = y ^^^ c2 := ⟨_, rfl⟩
        have hxr : bits .xor .u8 (y.toNat : Int) (c2.toNat : Int) = (z.toNat : Int) := by rw [hz]; exact xor_u8 y c2
        have HRW := Lib.hid hR
        have HLL := Lib.hid hL
        have HYY := Lib.hid hy
        have BWr := Lib.hid hBW
        have VAr := Lib.hid hVA
        have VYr := Lib.hid hVY
        clear hi hy hz hR hL hBW hVA hVY
        go_wp2
        refine wp_region_is_tail 14 [42, 43, 44, 45, 46, 47, 48, 49, 50, 51, 52, 53, 54, 55] (fun w' => Below wr.heap.size wr w')
          [.slice (some ⟨B8, 0, none⟩) pg cap8, .int .i64 2, .pointer (some ⟨w.heap.size + 2, 2, none⟩), .int .i64 p2, .slice (some ⟨B8, 0, none⟩) pg cap8, .int .i64 (pg : Int), .int .i64 (i : Int), .pointer (some ⟨B8, i, none⟩), .int .u8 (y.toNat : Int), .int .i64 2, .pointer (some ⟨w.heap.size + 3, 2, none⟩), .int .u8 (c2.toNat : Int), .int .u8 (z.toNat : Int), .pointer (some ⟨B8, i, none⟩)] (by kernel_rfl) (by kernel_rfl) (by kernel_rfl) (by decide) rfl (by decide) (by simp) (Below.refl _ _).drew ?each ?done
        case each =>
          simp only [List.take_succ_cons, List.take_zero, Each]
          repeat' (first | exact trivial | refine And.intro ?_ ?_)
          all_goals
            intro ys wx hBx hdeps
            simp only [Deps, Region.binds, List.getD_cons_zero, List.getD_cons_succ, forall_const, and_true] at hdeps
            have a2 := (VAr.out.below hBx VAr.out.lt).cell (j := 2) rfl
            have d2 := (VYr.out.below hBx VYr.out.lt).cell (j := 2) rfl
            have r0 : wx.cell? ⟨B8, i, none⟩ = some (.int .u8 (y.toNat : Int)) := by have := ((HRW.out.below hBx) i (by rw [HLL.out]; exact hip)).1; rw [← HYY.out] at this; exact this
            simp only [hdeps, fill, List.foldl_cons, List.foldl_nil, Act.put, List.setIfInBounds_toArray, List.set_cons_succ, List.set_cons_zero]
            first
              | (go_wp2_with fail; exact ⟨_, rfl, rfl, hBx, Below.refl _ _⟩)
              | (go_wp2_with (go_at_call 11; (with_reducible refine (HP.out _).mono ?_); rintro e w3 ⟨rfl, rfl⟩); exact ⟨_, rfl, rfl, hBx, Below.refl _ _⟩)
        case done =>
          intro ys wx hBx hV
          have h54 : ys 54 = .int .u8 (z.toNat : Int) := hV 12 (by decide)
          have h55 : ys 55 = .pointer (some ⟨B8, i, none⟩) := hV 13 (by decide)
          have hRx := HRW.out.below hBx
          have r0 := (hRx i (by rw [HLL.out]; exact hip)).1
          have r1 := (hRx i (by rw [HLL.out]; exact hip)).2
          have HS9 := Lib.hid (hRx.set i z (by rw [HLL.out]; exact hip))
          have VA9 := Lib.hid (Var.other (VAr.out.below hBx VAr.out.lt) ⟨B8, i, none⟩ (.int .u8 (z.toNat : Int)) (by have := HB8.out; simp only; omega))
          have VY9 := Lib.hid (Var.other (VYr.out.below hBx VYr.out.lt) ⟨B8, i, none⟩ (.int .u8 (z.toNat : Int)) (by have := HB8.out; simp only; omega))
          have BW9 := Lib.hid ((bel2 BWr.out hBx).setCell (p := ⟨B8, i, none⟩) (by have := HB8.out; simp only; omega) (.int .u8 (z.toNat : Int)))
          clear hRx hBx hV
          simp only [h54, h55, fill, List.drop_succ_cons, List.drop_zero, List.foldl_cons, List.foldl_nil, Act.put, List.setIfInBounds_toArray, List.set_cons_succ, List.set_cons_zero]
          go_wp2
          exact ⟨⟨2 + 1, by go_num, by omega, BW9.out, VA9.out, VY9.out, L.set i z, HS9.out, by rw [List.length_set]; exact HLL.out⟩, by simp [intOf]⟩
      · obtain ⟨T, hT⟩ : ∃ T, T = bs L := ⟨_, rfl⟩
        have htx := hR.text (P := Try.prog) 43 9 5 cap8 Try.underlying43 Try.underlying5 Try.underlying9 pg hL
        rw [show (⟨L.toArray⟩ : ByteArray) = T from hT.symm] at htx
        have hTn : T.size = pg := by rw [hT, bs_size, hL]
        have BWr := Lib.hid hBW
        have HT := Lib.hid hT
        clear hR hBW hVA hVY hT
        cases right with
        | false =>
          have hTs : T.size ≤ maxLen := by rw [hTn]; unfold maxLen; omega
          have BWT := BWr
          have HRD := Lib.hid (fun w => fRead_any (T) hTs w)
          have HRR := Lib.hid (fun w => refRead_any (T) hTs w)
          generalize (readF (T).data.toList).2 = cd at *
          generalize (readF (T).data.toList).1 = FR at *
          obtain ⟨kdr, ar, br, bodyr⟩ := FR
          unfold fV at HRD HRR
          simp only at HRD HRR
          generalize bs bodyr = BR at *
          clear hTs
          go_wp2_with (first
            | (go_at_call 16; (with_reducible refine (HRD.out _).mono ?_); rintro e w12 ⟨rfl, b12⟩; have BW12 := Lib.hid (bel2 BWT.out b12); have HV12 := Lib.hid (Var.new w12 26 [.int .i64 kdr, .int .u32 (vl ar), .int .u32 (vl br), .string BR]))
            | (go_at_call 17; (with_reducible refine (HRR.out _).mono ?_); rintro e w13 ⟨rfl, b13⟩; have BW13 := Lib.hid ((bel2 (BW12.out.alloc BW12.out.size _) b13)); have va := (HV12.out.below b13 HV12.out.lt).alloc (.cells #[.int .i64 kdr, .int .u32 (vl ar), .int .u32 (vl br), .string BR] 26); have vb := Var.new w13 26 [.int .i64 kdr, .int .u32 (vl ar), .int .u32 (vl br), .string BR]; have k0 := va.cell (j := 0) rfl; have k1 := va.cell (j := 1) rfl; have k2 := va.cell (j := 2) rfl; have k3 := va.cell (j := 3) rfl; have m0 := vb.cell (j := 0) rfl; have m1 := vb.cell (j := 1) rfl; have m2 := vb.cell (j := 2) rfl; have m3 := vb.cell (j := 3) rfl; clear va vb))
          go_ret
          exact ⟨rfl, BW13.out.alloc BW13.out.size _⟩
        | true =>
          obtain ⟨n, hn⟩ : ∃ n, n = pg - 4 := ⟨_, rfl⟩
          have hn4 : (pg : Int) - 4 = (n : Int) := by omega
          have hcut := Txt.cutS L n (n : Int) rfl (by omega)
          rw [← HT.out] at hcut
          obtain ⟨TC, hTC⟩ : ∃ TC, TC = bs (L.take n) := ⟨_, rfl⟩
          rw [← hTC] at hcut
          have hTCs : TC.size = n := by rw [hTC, bs_size, List.length_take]; omega
          have HC := Lib.hid (fun w => Crc.refCrc_any TC (by rw [hTCs]; unfold maxLen; omega) w)
          unfold sumOf at HC
          have HPU := Lib.hid (fun w => refPut_any (CrcM.sum TC.data.toList) w)
          obtain ⟨PT, hPT⟩ : ∃ PT, PT = putS (CrcM.sum TC.data.toList) := ⟨_, rfl⟩
          have hPs : PT.size = 4 := by rw [hPT]; rfl
          rw [← hPT] at HPU
          have hsum : n + 4 ≤ 128 := by omega
          have hTs : (TC ++ PT).size ≤ maxLen := by rw [ByteArray.size_append, hTCs, hPs]; unfold maxLen; omega
          generalize CrcM.sum TC.data.toList = sm at *
          have HRD := Lib.hid (fun w => fRead_any (TC ++ PT) hTs w)
          have HRR := Lib.hid (fun w => refRead_any (TC ++ PT) hTs w)
          generalize (readF (TC ++ PT).data.toList).2 = cd at *
          generalize (readF (TC ++ PT).data.toList).1 = FR at *
          obtain ⟨kdr, ar, br, bodyr⟩ := FR
          unfold fV at HRD HRR
          simp only at HRD HRR
          generalize bs bodyr = BR at *
          clear hTs hTC hPT hn
          go_wp2_with (first
            | (go_at_call 22; (with_reducible refine (HC.out _).mono ?_); rintro e w10 ⟨rfl, rfl⟩)
            | (go_at_call 21; (with_reducible refine (HPU.out _).mono ?_); rintro e w11 ⟨rfl, b11⟩; have BWT := Lib.hid (bel2 BWr.out b11))
            | (go_at_call 16; (with_reducible refine (HRD.out _).mono ?_); rintro e w12 ⟨rfl, b12⟩; have BW12 := Lib.hid (bel2 BWT.out b12); have HV12 := Lib.hid (Var.new w12 26 [.int .i64 kdr, .int .u32 (vl ar), .int .u32 (vl br), .string BR]))
            | (go_at_call 17; (with_reducible refine (HRR.out _).mono ?_); rintro e w13 ⟨rfl, b13⟩; have BW13 := Lib.hid ((bel2 (BW12.out.alloc BW12.out.size _) b13)); have va := (HV12.out.below b13 HV12.out.lt).alloc (.cells #[.int .i64 kdr, .int .u32 (vl ar), .int .u32 (vl br), .string BR] 26); have vb := Var.new w13 26 [.int .i64 kdr, .int .u32 (vl ar), .int .u32 (vl br), .string BR]; have k0 := va.cell (j := 0) rfl; have k1 := va.cell (j := 1) rfl; have k2 := va.cell (j := 2) rfl; have k3 := va.cell (j := 3) rfl; have m0 := vb.cell (j := 0) rfl; have m1 := vb.cell (j := 1) rfl; have m2 := vb.cell (j := 2) rfl; have m3 := vb.cell (j := 3) rfl; clear va vb))
          go_ret
          exact ⟨rfl, BW13.out.alloc BW13.out.size _⟩
end Go.Proofs.Ytlpjgfafecpbgaa.Frame
