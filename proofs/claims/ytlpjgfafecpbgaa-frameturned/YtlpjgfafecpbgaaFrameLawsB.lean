/-
  The walks of the laws of chapter 8: FrameBack, FrameTurned.
-/
import Derived.Test.YtlpjgfafecpbgaaFrameLaws
set_option linter.unusedVariables false
set_option linter.unusedSimpArgs false
namespace Go.Proofs.Ytlpjgfafecpbgaa.Frame
open Go.RowKit
open CrcM (W)
open Crc (le4 sumOf vl wd putS)
open Flash (bs bs_size bs_list list_bs)
open Tup Bytes Foot
open Go.Proofs.Ytlpjgfafecpbgaa.Region (fill Then Deps Each wp_region_is wp_region_is_tail wp_region_each wp_region_tail)

theorem zero_eq (f : Fr) : fV zeroF = .agg #[.int .i64 0, .int .u32 0, .int .u32 0, .string ⟨#[]⟩] := rfl
set_option maxRecDepth 100000 in
set_option maxHeartbeats 8000000 in
theorem back_any (g : Geom.Gm) (f : Fr) (hs : f.body.length ≤ maxLen) (w : World) : Calls Try.prog 5 #[Geom.gV g, fV f] w fun e w' => e = .returned (.bool true) ∧ Below w.heap.size w w' := by
  have hsm := Geom.small_small g
  have HGE := Lib.hid (fun w => Geom.geom_any g w)
  generalize Geom.smallG g = g1 at *
  have HSP := Lib.hid (fun w => shaped_any g1 hsm f hs w)
  have hok := shape_ok hsm f
  have hby := shape_bytes hsm f
  obtain ⟨pg, hpg⟩ : ∃ pg, pg = g1.page.toNat := ⟨_, rfl⟩
  have hpgI : g1.page = (pg : Int) := by have := hsm.1; omega
  rw [← hpg] at hok hby
  have p0 := hok.p0
  have p1 := hok.p1
  have hpl := page_length hok
  have hrp := read_page hok
  have hnb := page_not_blank hok
  have hbl : (shapeF g1 f).body.length ≤ maxLen := by have := hok.fits; unfold maxLen; omega
  have HX := Lib.hid (fun w => fBytes_any g1 (shapeF g1 f) hbl w)
  rw [hby] at HX
  have hsz : (bs (page pg (shapeF g1 f))).size ≤ maxLen := by rw [bs_size, hpl]; unfold maxLen; omega
  have HR := Lib.hid (fun w => fRead_any (bs (page pg (shapeF g1 f))) hsz w)
  have HBL := Lib.hid (fun w => fBlank_any (bs (page pg (shapeF g1 f))) hsz w)
  rw [list_bs] at HR HBL
  rw [hrp] at HR
  rw [hnb] at HBL
  obtain ⟨S, hS⟩ : ∃ S, S = bs (page pg (shapeF g1 f)) := ⟨_, rfl⟩
  rw [← hS] at HX HR HBL
  have hSz : (S.size : Int) = (pg : Int) := by rw [hS, bs_size, hpl]
  have hSn : S.size = pg := by omega
  clear hby hok hrp hnb hpl hsz hbl hS
  generalize shapeF g1 f = f2 at *
  obtain ⟨kd2, a2, b2', body2⟩ := f2
  obtain ⟨B2, hB2⟩ : ∃ B2, B2 = bs body2 := ⟨_, rfl⟩
  obtain ⟨hp, hq, hr⟩ := g1
  simp only at hpgI
  subst hpgI
  obtain ⟨gp, gs, gr⟩ := g
  obtain ⟨kd, a, b, body⟩ := f
  obtain ⟨B, hB⟩ : ∃ B, B = bs body := ⟨_, rfl⟩
  simp only at hs
  have HG := Lib.hid ((Var.new w 23 [.int .i64 gp, .int .i64 gs, .int .i64 gr]).alloc (.cells #[.int .i64 kd, .int .u32 (vl a), .int .u32 (vl b), .string B] 26))
  have HF := Lib.hid (Var.new (w.alloc (.cells #[.int .i64 gp, .int .i64 gs, .int .i64 gr] 23)) 26 [.int .i64 kd, .int .u32 (vl a), .int .u32 (vl b), .string B])
  have hsz1 : (w.alloc (.cells #[.int .i64 gp, .int .i64 gs, .int .i64 gr] 23)).heap.size = w.heap.size + 1 := by simp
  rw [hsz1] at HF
  obtain ⟨w1, hw1⟩ : ∃ w1, w1 = (w.alloc (.cells #[.int .i64 gp, .int .i64 gs, .int .i64 gr] 23)).alloc (.cells #[.int .i64 kd, .int .u32 (vl a), .int .u32 (vl b), .string B] 26) := ⟨_, rfl⟩
  have HB1 := Lib.hid (show Below w.heap.size w w1 by rw [hw1]; exact bel2 (Geom.bel_alloc _ _) (Geom.bel_alloc _ _))
  have HG1 := Lib.hid (show Var w1 w.heap.size 23 [.int .i64 gp, .int .i64 gs, .int .i64 gr] by rw [hw1]; exact HG.out)
  have HF1 := Lib.hid (show Var w1 (w.heap.size + 1) 26 [.int .i64 kd, .int .u32 (vl a), .int .u32 (vl b), .string B] by rw [hw1]; exact HF.out)
  have HAL := Lib.hid (fun w => alive_any w)
  unfold Geom.gV fV at HX HSP ⊢
  unfold fV at HR
  unfold Geom.gV at HGE
  simp only at HX HSP HR HGE ⊢
  rw [← hB2] at HX HSP HR
  rw [← hB] at HSP ⊢
  clear hB hB2 hpg
  go_enter Try.func5, Try.ntmps5
  go_wp2_with (first
    | (go_at_call 10; (with_reducible refine (HGE.out _).mono ?_); rintro e w2 ⟨rfl, b20⟩; have b2 : Below w1.heap.size w1 w2 := (by rw [hw1]; exact b20); clear b20; have vg := HG1.out.below b2 HG1.out.lt; have vf := HF1.out.below b2 HF1.out.lt; have y0 := vg.cell (j := 0) rfl; have y1 := vg.cell (j := 1) rfl; have y2 := vg.cell (j := 2) rfl; have x0 := vg.frozen 0; have x1 := vg.frozen 1; have x2 := vg.frozen 2; have vg3 := ((vg.set 0 (.int .i64 (pg : Int))).set 1 (.int .i64 hq)).set 2 (.int .i64 hr); have vf3 := Var.other (Var.other (Var.other vf ⟨w.heap.size, 0, none⟩ (.int .i64 (pg : Int)) (Nat.succ_ne_self _)) ⟨w.heap.size, 1, none⟩ (.int .i64 hq) (Nat.succ_ne_self _)) ⟨w.heap.size, 2, none⟩ (.int .i64 hr) (Nat.succ_ne_self _); have VG3 := Lib.hid vg3; have VF3 := Lib.hid vf3; have t0 := vf3.cell (j := 0) rfl; have t1 := vf3.cell (j := 1) rfl; have t2 := vf3.cell (j := 2) rfl; have t3 := vf3.cell (j := 3) rfl; have h0 := vg3.cell (j := 0) rfl; have h1 := vg3.cell (j := 1) rfl; have h2 := vg3.cell (j := 2) rfl; have BW3 := Lib.hid ((((bel2 HB1.out b2).setCell (p := ⟨w.heap.size, 0, none⟩) (Nat.le_refl _) (.int .i64 (pg : Int))).setCell (p := ⟨w.heap.size, 1, none⟩) (Nat.le_refl _) (.int .i64 hq)).setCell (p := ⟨w.heap.size, 2, none⟩) (Nat.le_refl _) (.int .i64 hr)); clear vg vf vf3 vg3)
    | (go_at_call 20; (with_reducible refine (HSP.out _).mono ?_); rintro e w4 ⟨rfl, b4⟩; have vg4 := VG3.out.below b4 VG3.out.lt; have vf4 := VF3.out.below b4 VF3.out.lt; have q0 := vf4.cell (j := 0) rfl; have q1 := vf4.cell (j := 1) rfl; have q2 := vf4.cell (j := 2) rfl; have q3 := vf4.cell (j := 3) rfl; have r0 := vf4.frozen 0; have r1 := vf4.frozen 1; have r2 := vf4.frozen 2; have r3 := vf4.frozen 3; have vf5 := (((vf4.set 0 (.int .i64 kd2)).set 1 (.int .u32 (vl a2))).set 2 (.int .u32 (vl b2'))).set 3 (.string B2); have vg5 := Var.other (Var.other (Var.other (Var.other vg4 ⟨w.heap.size + 1, 0, none⟩ (.int .i64 kd2) (Ne.symm (Nat.succ_ne_self _))) ⟨w.heap.size + 1, 1, none⟩ (.int .u32 (vl a2)) (Ne.symm (Nat.succ_ne_self _))) ⟨w.heap.size + 1, 2, none⟩ (.int .u32 (vl b2')) (Ne.symm (Nat.succ_ne_self _))) ⟨w.heap.size + 1, 3, none⟩ (.string B2) (Ne.symm (Nat.succ_ne_self _)); have VG5 := Lib.hid vg5; have VF5 := Lib.hid vf5; have BW5 := Lib.hid (((((bel2 BW3.out b4).setCell (p := ⟨w.heap.size + 1, 0, none⟩) (Nat.le_succ _) (.int .i64 kd2)).setCell (p := ⟨w.heap.size + 1, 1, none⟩) (Nat.le_succ _) (.int .u32 (vl a2))).setCell (p := ⟨w.heap.size + 1, 2, none⟩) (Nat.le_succ _) (.int .u32 (vl b2'))).setCell (p := ⟨w.heap.size + 1, 3, none⟩) (Nat.le_succ _) (.string B2)); clear t0 t1 t2 t3 h0 h1 h2 y0 y1 y2 x0 x1 x2; have t0 := vf5.cell (j := 0) rfl; have t1 := vf5.cell (j := 1) rfl; have t2 := vf5.cell (j := 2) rfl; have t3 := vf5.cell (j := 3) rfl; have h0 := vg5.cell (j := 0) rfl; have h1 := vg5.cell (j := 1) rfl; have h2 := vg5.cell (j := 2) rfl; clear vg4 vf4 vf5 vg5)
    | (go_at_call 12; (with_reducible refine (HX.out _).mono ?_); rintro e w6 ⟨rfl, b6⟩; have VG6 := Lib.hid (VG5.out.below b6 VG5.out.lt); have VF6 := Lib.hid (VF5.out.below b6 VF5.out.lt); have BW6 := Lib.hid (bel2 BW5.out b6))
    | (go_at_call 16; (with_reducible refine (HR.out _).mono ?_); rintro e w7 ⟨rfl, b7⟩; have VG7 := Lib.hid (VG6.out.below b7 VG6.out.lt); have VF7 := Lib.hid (VF6.out.below b7 VF6.out.lt); have BW7 := Lib.hid (bel2 BW6.out b7); have VH7 := Lib.hid (Var.new w7 26 [.int .i64 kd2, .int .u32 (vl a2), .int .u32 (vl b2'), .string B2]))
    | (go_at_call 14; (with_reducible refine (HAL.out _).mono ?_); rintro e w8 ⟨rfl, b8⟩; have BW8 := Lib.hid (bel2 (bel2 BW7.out (Geom.bel_alloc _ _)) b8); have vg8 := (VG7.out.alloc (.cells #[.int .i64 kd2, .int .u32 (vl a2), .int .u32 (vl b2'), .string B2] 26)).below b8 (Nat.lt_of_lt_of_le VG7.out.lt (Geom.bel_alloc _ _).size); have vf8 := (VF7.out.alloc (.cells #[.int .i64 kd2, .int .u32 (vl a2), .int .u32 (vl b2'), .string B2] 26)).below b8 (Nat.lt_of_lt_of_le VF7.out.lt (Geom.bel_alloc _ _).size); have vh8 := VH7.out.below b8 VH7.out.lt; have i0 := vg8.cell (j := 0) rfl; have l0 := vf8.cell (j := 0) rfl; have l1 := vf8.cell (j := 1) rfl; have l2 := vf8.cell (j := 2) rfl; have l3 := vf8.cell (j := 3) rfl; have m0 := vh8.cell (j := 0) rfl; have m1 := vh8.cell (j := 1) rfl; have m2 := vh8.cell (j := 2) rfl; have m3 := vh8.cell (j := 3) rfl; clear vg8 vf8 vh8)
    | (go_at_call 18; (with_reducible refine (HBL.out _).mono ?_); rintro e w9 ⟨rfl, b9⟩; have BW9 := Lib.hid (bel2 BW8.out b9)))
  go_ret
  exact ⟨rfl, BW9.out⟩
set_option maxRecDepth 100000 in
set_option maxHeartbeats 8000000 in
theorem turned_at (g : Geom.Gm) (f : Fr) (hs : f.body.length ≤ maxLen) (at_ : Int) (xa x : UInt8) (hxa : xa = 0 ∧ x = 1 ∨ xa ≠ 0 ∧ x = xa) (w : World) : Calls Try.prog 7 #[Geom.gV g, fV f, .int .i64 at_, .int .u8 (xa.toNat : Int)] w fun e w' => e = .returned (.bool true) ∧ Below w.heap.size w w' := by
  have hx0 : x ≠ 0 := by
    rcases hxa with ⟨_, rfl⟩ | ⟨h, rfl⟩
    · decide
    · exact h
  have hsm := Geom.small_small g
  have HGE := Lib.hid (fun w => Geom.geom_any g w)
  generalize Geom.smallG g = g1 at *
  have HSP := Lib.hid (fun w => shaped_any g1 hsm f hs w)
  have hok := shape_ok hsm f
  have hby := shape_bytes hsm f
  obtain ⟨pg, hpg⟩ : ∃ pg, pg = g1.page.toNat := ⟨_, rfl⟩
  have hpgI : g1.page = (pg : Int) := by have := hsm.1; omega
  rw [← hpg] at hok hby
  have p0 := hok.p0
  have p1 := hok.p1
  have hpl := page_length hok
  have hrp := read_page hok
  have hbl : (shapeF g1 f).body.length ≤ maxLen := by have := hok.fits; unfold maxLen; omega
  have HX := Lib.hid (fun w => fBytes_any g1 (shapeF g1 f) hbl w)
  rw [hby] at HX
  obtain ⟨S, hS⟩ : ∃ S, S = bs (page pg (shapeF g1 f)) := ⟨_, rfl⟩
  have hSL : S.data.toList = page pg (shapeF g1 f) := by rw [hS, list_bs]
  rw [← hS] at HX
  have hSz : (S.size : Int) = (pg : Int) := by rw [hS, bs_size, hpl]
  have hSn : S.size = pg := by omega
  obtain ⟨i, hi⟩ : ∃ i : Nat, (i : Int) = at_ % (pg : Int) := ⟨(at_ % (pg : Int)).toNat, by have := Int.emod_nonneg at_ (show (pg : Int) ≠ 0 by omega); omega⟩
  have hip : i < pg := by have := Int.emod_lt_of_pos at_ (show (0 : Int) < (pg : Int) by omega); omega
  have HP : Hid (∀ w, Calls Try.prog 11 #[.int .i64 at_, .int .i64 (pg : Int)] w fun e w' => e = .returned (.int .i64 (at_ % (pg : Int))) ∧ w = w') := fun w => Book.pick_any at_ pg (by omega) (by omega) w
  rw [← hi] at HP
  have hrt := read_turned hok hip hx0
  rw [← hSL] at hrt
  obtain ⟨y, hy⟩ : ∃ y, y = S.data.toList.getD i 0 := ⟨_, rfl⟩
  obtain ⟨z, hz⟩ : ∃ z, z = y ^^^ x := ⟨_, rfl⟩
  rw [← hy, ← hz] at hrt
  have hxr : bits .xor .u8 (y.toNat : Int) (x.toNat : Int) = (z.toNat : Int) := by rw [hz]; exact xor_u8 y x
  have hSll : S.data.toList.length = pg := by simpa using hSn
  obtain ⟨S2, hS2⟩ : ∃ S2, S2 = bs (S.data.toList.set i z) := ⟨_, rfl⟩
  have HR := Lib.hid (fun w => fRead_any S2 (by rw [hS2, bs_size, List.length_set, hSll]; unfold maxLen; omega) w)
  rw [show S2.data.toList = S.data.toList.set i z by rw [hS2, list_bs], hrt] at HR
  unfold fV zeroF at HR
  simp only at HR
  rw [show vl 0#32 = 0 from rfl, show bs [] = ⟨#[]⟩ from rfl] at HR
  have hcv := fun w => Lib.run_convert_string_bytes (P := Try.prog) w 9 43 5 S Try.underlying9 Try.underlying43 Try.underlying5
  have HRW := Lib.hid (fun w => show Row8 (Lib.bytesWorld w 5 S) w.heap.size S.data.toList from Row8.of_string w 5 S)
  have HC1 := Lib.hid (fun w => show (Lib.bytesWorld w 5 S).cell? ⟨w.heap.size, i, none⟩ = some (.int .u8 (y.toNat : Int)) ∧ (Lib.bytesWorld w 5 S).frozen? ⟨w.heap.size, i, none⟩ = false by rw [hy]; exact HRW.out w i (by omega))
  have HTX := Lib.hid (fun w cap => show (convert 43 9 (.slice (some ⟨w.heap.size, 0, none⟩) pg cap)).run Try.prog ((Lib.bytesWorld w 5 S).setCell ⟨w.heap.size, i, none⟩ (.int .u8 (z.toNat : Int))) = .ok (.string S2) ((Lib.bytesWorld w 5 S).setCell ⟨w.heap.size, i, none⟩ (.int .u8 (z.toNat : Int))) by
    rw [hS2]
    exact ((HRW.out w).set i z (by omega)).text (P := Try.prog) 43 9 5 cap Try.underlying43 Try.underlying5 Try.underlying9 pg (by rw [List.length_set, hSll]))
  have hip2 : (i : Int) < (pg : Int) := by omega
  have hx1 : ((1 : UInt8).toNat : Int) = 1 := rfl
  clear hby hok hrp hpl hbl hS hSL hrt hy hz hS2 hSll hi hx0
  generalize shapeF g1 f = f2 at *
  obtain ⟨kd2, a2, b2', body2⟩ := f2
  obtain ⟨B2, hB2⟩ : ∃ B2, B2 = bs body2 := ⟨_, rfl⟩
  obtain ⟨hp, hq, hr⟩ := g1
  simp only at hpgI
  subst hpgI
  obtain ⟨gp, gs, gr⟩ := g
  obtain ⟨kd, a, b, body⟩ := f
  obtain ⟨B, hB⟩ : ∃ B, B = bs body := ⟨_, rfl⟩
  simp only at hs
  have HG := Lib.hid ((Var.new w 23 [.int .i64 gp, .int .i64 gs, .int .i64 gr]).alloc (.cells #[.int .i64 kd, .int .u32 (vl a), .int .u32 (vl b), .string B] 26))
  have HF := Lib.hid (Var.new (w.alloc (.cells #[.int .i64 gp, .int .i64 gs, .int .i64 gr] 23)) 26 [.int .i64 kd, .int .u32 (vl a), .int .u32 (vl b), .string B])
  have hsz1 : (w.alloc (.cells #[.int .i64 gp, .int .i64 gs, .int .i64 gr] 23)).heap.size = w.heap.size + 1 := by simp
  rw [hsz1] at HF
  obtain ⟨w1, hw1⟩ : ∃ w1, w1 = (w.alloc (.cells #[.int .i64 gp, .int .i64 gs, .int .i64 gr] 23)).alloc (.cells #[.int .i64 kd, .int .u32 (vl a), .int .u32 (vl b), .string B] 26) := ⟨_, rfl⟩
  have HB1 := Lib.hid (show Below w.heap.size w w1 by rw [hw1]; exact bel2 (Geom.bel_alloc _ _) (Geom.bel_alloc _ _))
  have HG1 := Lib.hid (show Var w1 w.heap.size 23 [.int .i64 gp, .int .i64 gs, .int .i64 gr] by rw [hw1]; exact HG.out)
  have HF1 := Lib.hid (show Var w1 (w.heap.size + 1) 26 [.int .i64 kd, .int .u32 (vl a), .int .u32 (vl b), .string B] by rw [hw1]; exact HF.out)
  have HAL := Lib.hid (fun w => alive_any w)
  unfold Geom.gV fV at HX HSP ⊢
  unfold Geom.gV at HGE
  simp only at HX HSP HGE ⊢
  rw [← hB2] at HX HSP
  rw [← hB] at HSP ⊢
  clear hB hB2 hpg hs
  rcases hxa with ⟨rfl, rfl⟩ | ⟨hxa, rfl⟩
  · have c0 : (((0 : UInt8).toNat : Int) == 0) = true := rfl
    have c1 : (((0 : UInt8).toNat : Int)) = 0 := rfl
    rw [hx1] at hxr
    rw [c1]
    go_enter Try.func7, Try.ntmps7
    go_wp2_with (go_at_call 10; (with_reducible refine (HGE.out _).mono ?_); rintro e w2 ⟨rfl, b20⟩; have b2 : Below w1.heap.size w1 w2 := (by rw [hw1]; exact b20); clear b20; have vg := HG1.out.below b2 HG1.out.lt; have vf := HF1.out.below b2 HF1.out.lt; have y0 := vg.cell (j := 0) rfl; have y1 := vg.cell (j := 1) rfl; have y2 := vg.cell (j := 2) rfl; have x0 := vg.frozen 0; have x1 := vg.frozen 1; have x2 := vg.frozen 2; have vg3 := ((vg.set 0 (.int .i64 (pg : Int))).set 1 (.int .i64 hq)).set 2 (.int .i64 hr); have vf3 := Var.other (Var.other (Var.other vf ⟨w.heap.size, 0, none⟩ (.int .i64 (pg : Int)) (Nat.succ_ne_self _)) ⟨w.heap.size, 1, none⟩ (.int .i64 hq) (Nat.succ_ne_self _)) ⟨w.heap.size, 2, none⟩ (.int .i64 hr) (Nat.succ_ne_self _); have VG3 := Lib.hid vg3; have VF3 := Lib.hid vf3; have t0 := vf3.cell (j := 0) rfl; have t1 := vf3.cell (j := 1) rfl; have t2 := vf3.cell (j := 2) rfl; have t3 := vf3.cell (j := 3) rfl; have h0 := vg3.cell (j := 0) rfl; have h1 := vg3.cell (j := 1) rfl; have h2 := vg3.cell (j := 2) rfl; have BW3 := Lib.hid ((((bel2 HB1.out b2).setCell (p := ⟨w.heap.size, 0, none⟩) (Nat.le_refl _) (.int .i64 (pg : Int))).setCell (p := ⟨w.heap.size, 1, none⟩) (Nat.le_refl _) (.int .i64 hq)).setCell (p := ⟨w.heap.size, 2, none⟩) (Nat.le_refl _) (.int .i64 hr)); clear vg vf vf3 vg3)
    obtain ⟨w3, hw3⟩ : ∃ w3, w3 = ((w2.setCell ⟨w.heap.size, 0, none⟩ (.int .i64 (pg : Int))).setCell ⟨w.heap.size, 1, none⟩ (.int .i64 hq)).setCell ⟨w.heap.size, 2, none⟩ (.int .i64 hr) := ⟨_, rfl⟩
    rw [← hw3] at VG3 VF3 BW3 ⊢
    clear hw3 t0 t1 t2 t3 h0 h1 h2 y0 y1 y2 x0 x1 x2
    refine wp_region_is [17, 18, 19, 20, 21, 16, 22, 23, 9, 10] (fun w' => Below w3.heap.size w3 w')
      [.agg #[.int .i64 (pg : Int), .int .i64 hq, .int .i64 hr], .agg #[.int .i64 (pg : Int), .int .i64 hq, .int .i64 hr], .agg #[.int .i64 kd, .int .u32 (vl a), .int .u32 (vl b), .string B], .agg #[.int .i64 kd2, .int .u32 (vl a2), .int .u32 (vl b2'), .string B2], .tuple #[.string S, .int .i64 0], .tuple #[.string S, .int .i64 0], .string S, .int .i64 0, .string S, .int .i64 0] (by kernel_rfl) (by kernel_rfl) rfl (by decide) (by simp) (Below.refl _ _).drew ?each ?done
    case each =>
      simp only [Each]
      repeat' (first | exact trivial | refine And.intro ?_ ?_)
      all_goals
        intro ys wx hBx hdeps
        simp only [Deps, Region.binds, List.getD_cons_zero, List.getD_cons_succ, forall_const, and_true] at hdeps
        have g0 := (VG3.out.below hBx VG3.out.lt).cell (j := 0) rfl
        have g1 := (VG3.out.below hBx VG3.out.lt).cell (j := 1) rfl
        have g2 := (VG3.out.below hBx VG3.out.lt).cell (j := 2) rfl
        have k0 := (VF3.out.below hBx VF3.out.lt).cell (j := 0) rfl
        have k1 := (VF3.out.below hBx VF3.out.lt).cell (j := 1) rfl
        have k2 := (VF3.out.below hBx VF3.out.lt).cell (j := 2) rfl
        have k3 := (VF3.out.below hBx VF3.out.lt).cell (j := 3) rfl
        simp only [hdeps, fill, List.foldl_cons, List.foldl_nil, Act.put, List.setIfInBounds_toArray, List.set_cons_succ, List.set_cons_zero]
        first
          | (go_wp2_with fail; exact ⟨_, rfl, rfl, hBx, Below.refl _ _⟩)
          | (go_wp2_with (go_at_call 20; (with_reducible refine (HSP.out _).mono ?_); rintro e w3 ⟨rfl, hm⟩); exact ⟨_, rfl, rfl, hBx.trans (hm.mono hBx.size), hm⟩)
          | (go_wp2_with (go_at_call 12; (with_reducible refine (HX.out _).mono ?_); rintro e w3 ⟨rfl, hm⟩); exact ⟨_, rfl, rfl, hBx.trans (hm.mono hBx.size), hm⟩)
    case done =>
      intro ys wx hBx hV
      have h9 : ys 9 = .string S := hV 8 (by decide)
      have h10 : ys 10 = .int .i64 0 := hV 9 (by decide)
      have BW4 := Lib.hid (bel2 BW3.out hBx)
      have VG4 := Lib.hid (VG3.out.below hBx VG3.out.lt)
      clear hBx hV
      simp only [h9, h10, fill, List.drop_succ_cons, List.drop_zero, List.foldl_cons, List.foldl_nil, Act.put, List.setIfInBounds_toArray, List.set_cons_succ, List.set_cons_zero]
      go_wp2_with (first
        | (go_at_call 14; (with_reducible refine (HAL.out _).mono ?_); rintro e w7 ⟨rfl, b7⟩; have BW7 := Lib.hid (bel2 BW4.out b7); have i0 := (VG4.out.below b7 VG4.out.lt).cell (j := 0) rfl; have e1 := (HC1.out w7).1; have e2 := (HC1.out w7).2; have htx := HTX.out w7; have BW8 := Lib.hid ((bel2 BW7.out (bytes_below w7 5 S)).setCell (p := ⟨w7.heap.size, i, none⟩) BW7.out.size (.int .u8 (z.toNat : Int))))
        | (go_at_call 11; (with_reducible refine (HP.out _).mono ?_); rintro e w8 ⟨rfl, rfl⟩)
        | (go_at_call 16; (with_reducible refine (HR.out _).mono ?_); rintro e w9 ⟨rfl, b9⟩; have BW9 := Lib.hid (bel2 BW8.out b9)))
      go_ret
      exact ⟨rfl, BW9.out.alloc BW9.out.size _⟩
  · have hxn : x.toNat ≠ 0 := fun e => hxa (UInt8.toNat_inj.1 (by rw [e]; rfl))
    have c0 : ((x.toNat : Int) == 0) = false := by simp; omega
    have c2 : (x.toNat == 0) = false := by simp; omega
    clear hxa hxn
    go_enter Try.func7, Try.ntmps7
    go_wp2_with (go_at_call 10; (with_reducible refine (HGE.out _).mono ?_); rintro e w2 ⟨rfl, b20⟩; have b2 : Below w1.heap.size w1 w2 := (by rw [hw1]; exact b20); clear b20; have vg := HG1.out.below b2 HG1.out.lt; have vf := HF1.out.below b2 HF1.out.lt; have y0 := vg.cell (j := 0) rfl; have y1 := vg.cell (j := 1) rfl; have y2 := vg.cell (j := 2) rfl; have x0 := vg.frozen 0; have x1 := vg.frozen 1; have x2 := vg.frozen 2; have vg3 := ((vg.set 0 (.int .i64 (pg : Int))).set 1 (.int .i64 hq)).set 2 (.int .i64 hr); have vf3 := Var.other (Var.other (Var.other vf ⟨w.heap.size, 0, none⟩ (.int .i64 (pg : Int)) (Nat.succ_ne_self _)) ⟨w.heap.size, 1, none⟩ (.int .i64 hq) (Nat.succ_ne_self _)) ⟨w.heap.size, 2, none⟩ (.int .i64 hr) (Nat.succ_ne_self _); have VG3 := Lib.hid vg3; have VF3 := Lib.hid vf3; have t0 := vf3.cell (j := 0) rfl; have t1 := vf3.cell (j := 1) rfl; have t2 := vf3.cell (j := 2) rfl; have t3 := vf3.cell (j := 3) rfl; have h0 := vg3.cell (j := 0) rfl; have h1 := vg3.cell (j := 1) rfl; have h2 := vg3.cell (j := 2) rfl; have BW3 := Lib.hid ((((bel2 HB1.out b2).setCell (p := ⟨w.heap.size, 0, none⟩) (Nat.le_refl _) (.int .i64 (pg : Int))).setCell (p := ⟨w.heap.size, 1, none⟩) (Nat.le_refl _) (.int .i64 hq)).setCell (p := ⟨w.heap.size, 2, none⟩) (Nat.le_refl _) (.int .i64 hr)); clear vg vf vf3 vg3)
    obtain ⟨w3, hw3⟩ : ∃ w3, w3 = ((w2.setCell ⟨w.heap.size, 0, none⟩ (.int .i64 (pg : Int))).setCell ⟨w.heap.size, 1, none⟩ (.int .i64 hq)).setCell ⟨w.heap.size, 2, none⟩ (.int .i64 hr) := ⟨_, rfl⟩
    rw [← hw3] at VG3 VF3 BW3 ⊢
    clear hw3 t0 t1 t2 t3 h0 h1 h2 y0 y1 y2 x0 x1 x2
    refine wp_region_is [17, 18, 19, 20, 21, 16, 22, 23, 9, 10] (fun w' => Below w3.heap.size w3 w')
      [.agg #[.int .i64 (pg : Int), .int .i64 hq, .int .i64 hr], .agg #[.int .i64 (pg : Int), .int .i64 hq, .int .i64 hr], .agg #[.int .i64 kd, .int .u32 (vl a), .int .u32 (vl b), .string B], .agg #[.int .i64 kd2, .int .u32 (vl a2), .int .u32 (vl b2'), .string B2], .tuple #[.string S, .int .i64 0], .tuple #[.string S, .int .i64 0], .string S, .int .i64 0, .string S, .int .i64 0] (by kernel_rfl) (by kernel_rfl) rfl (by decide) (by simp) (Below.refl _ _).drew ?each ?done
    case each =>
      simp only [Each]
      repeat' (first | exact trivial | refine And.intro ?_ ?_)
      all_goals
        intro ys wx hBx hdeps
        simp only [Deps, Region.binds, List.getD_cons_zero, List.getD_cons_succ, forall_const, and_true] at hdeps
        have g0 := (VG3.out.below hBx VG3.out.lt).cell (j := 0) rfl
        have g1 := (VG3.out.below hBx VG3.out.lt).cell (j := 1) rfl
        have g2 := (VG3.out.below hBx VG3.out.lt).cell (j := 2) rfl
        have k0 := (VF3.out.below hBx VF3.out.lt).cell (j := 0) rfl
        have k1 := (VF3.out.below hBx VF3.out.lt).cell (j := 1) rfl
        have k2 := (VF3.out.below hBx VF3.out.lt).cell (j := 2) rfl
        have k3 := (VF3.out.below hBx VF3.out.lt).cell (j := 3) rfl
        simp only [hdeps, fill, List.foldl_cons, List.foldl_nil, Act.put, List.setIfInBounds_toArray, List.set_cons_succ, List.set_cons_zero]
        first
          | (go_wp2_with fail; exact ⟨_, rfl, rfl, hBx, Below.refl _ _⟩)
          | (go_wp2_with (go_at_call 20; (with_reducible refine (HSP.out _).mono ?_); rintro e w3 ⟨rfl, hm⟩); exact ⟨_, rfl, rfl, hBx.trans (hm.mono hBx.size), hm⟩)
          | (go_wp2_with (go_at_call 12; (with_reducible refine (HX.out _).mono ?_); rintro e w3 ⟨rfl, hm⟩); exact ⟨_, rfl, rfl, hBx.trans (hm.mono hBx.size), hm⟩)
    case done =>
      intro ys wx hBx hV
      have h9 : ys 9 = .string S := hV 8 (by decide)
      have h10 : ys 10 = .int .i64 0 := hV 9 (by decide)
      have BW4 := Lib.hid (bel2 BW3.out hBx)
      have VG4 := Lib.hid (VG3.out.below hBx VG3.out.lt)
      clear hBx hV
      simp only [h9, h10, fill, List.drop_succ_cons, List.drop_zero, List.foldl_cons, List.foldl_nil, Act.put, List.setIfInBounds_toArray, List.set_cons_succ, List.set_cons_zero]
      go_wp2_with (first
        | (go_at_call 14; (with_reducible refine (HAL.out _).mono ?_); rintro e w7 ⟨rfl, b7⟩; have BW7 := Lib.hid (bel2 BW4.out b7); have i0 := (VG4.out.below b7 VG4.out.lt).cell (j := 0) rfl; have e1 := (HC1.out w7).1; have e2 := (HC1.out w7).2; have htx := HTX.out w7; have BW8 := Lib.hid ((bel2 BW7.out (bytes_below w7 5 S)).setCell (p := ⟨w7.heap.size, i, none⟩) BW7.out.size (.int .u8 (z.toNat : Int))))
        | (go_at_call 11; (with_reducible refine (HP.out _).mono ?_); rintro e w8 ⟨rfl, rfl⟩)
        | (go_at_call 16; (with_reducible refine (HR.out _).mono ?_); rintro e w9 ⟨rfl, b9⟩; have BW9 := Lib.hid (bel2 BW8.out b9)))
      go_ret
      exact ⟨rfl, BW9.out.alloc BW9.out.size _⟩
end Go.Proofs.Ytlpjgfafecpbgaa.Frame
