/-
  FlashPlays' walk: any calls on a device are answered as the document says.
-/
import Derived.Test.YtgcbdekdjdlfaaaFlashK
import Derived.Test.YtgcbdekdjdlfaaaFlashL6
import Derived.Test.YtgcbdekdjdlfaaaPick
set_option linter.unusedVariables false
set_option linter.unusedSimpArgs false
namespace Go.Proofs.Ytgcbdekdjdlfaaa.Flash
open Go.RowKit
open Go.Proofs.Ytgcbdekdjdlfaaa.Own
open Tup Bytes Foot
open Go.Proofs.Ytgcbdekdjdlfaaa.Region (fill Then Deps Each wp_region_is wp_region_is_tail Deps2 Each2 Owes upd put wp_region_each3 slots)
set_option maxRecDepth 100000 in
set_option maxHeartbeats 32000000 in
theorem plays_any (p0 q0 r0 : Int) (im : ByteArray) (hi : im.size ≤ maxLen) (la : Option Addr) (l : List StM) (lc : Nat) (w : World) (hS : Steps w la l) (hll : l.length ≤ maxLen) :
    Calls Try.prog 3 #[Geom.gV ⟨p0, q0, r0⟩, .string im, .slice la l.length lc] w fun e w' => e = .returned (.bool true) ∧ Below w.heap.size w w' := by
  have HAL := Lib.hid (fun w => alive_any w)
  have HV0 := Lib.hid (Var.new w 23 [.int .i64 p0, .int .i64 q0, .int .i64 r0])
  have HG := Lib.hid (fun w => Geom.geom_any ⟨p0, q0, r0⟩ w)
  have hsm := Geom.small_small ⟨p0, q0, r0⟩
  obtain ⟨p1, q1, r1, hg1⟩ : ∃ p1 q1 r1, Geom.smallG ⟨p0, q0, r0⟩ = ⟨p1, q1, r1⟩ := ⟨_, _, _, rfl⟩
  rw [hg1] at HG hsm
  unfold Geom.gV at HG ⊢
  have HSZ := Lib.hid (fun w => Geom.refSize_any ⟨p1, q1, r1⟩ hsm w)
  obtain ⟨a0, a1, a2, a3, a4, a5⟩ := hsm
  simp only at a0 a1 a2 a3 a4 a5
  obtain ⟨pg, hpg⟩ : ∃ n : Nat, p1 = (n : Int) := ⟨p1.toNat, by omega⟩
  obtain ⟨pgs, hpgs⟩ : ∃ n : Nat, q1 = (n : Int) := ⟨q1.toNat, by omega⟩
  obtain ⟨rgs, hrgs⟩ : ∃ n : Nat, r1 = (n : Int) := ⟨r1.toNat, by omega⟩
  obtain ⟨N, hN⟩ : ∃ N, N = pg * pgs * rgs := ⟨_, rfl⟩
  have hN1 : N ≤ 15360 := by rw [hN]; exact Nat.mul_le_mul (Nat.mul_le_mul (show pg ≤ 128 by omega) (show pgs ≤ 10 by omega)) (show rgs ≤ 12 by omega)
  have hsz : Geom.sizeG ⟨p1, q1, r1⟩ = (N : Int) := by unfold Geom.sizeG; rw [hN, hpg, hpgs, hrgs]; simp only [Int.natCast_mul]
  rw [hsz] at HSZ
  unfold Geom.gV at HSZ
  obtain ⟨n, hn⟩ : ∃ n, n = pgs * rgs := ⟨_, rfl⟩
  have hn1 : n ≤ 120 := by rw [hn]; exact Nat.mul_le_mul (show pgs ≤ 10 by omega) (show rgs ≤ 12 by omega)
  have hn0 : 0 < n := by rw [hn]; exact Nat.mul_pos (by omega) (by omega)
  have hnm : q1 * r1 = (n : Int) := by rw [hn, hpgs, hrgs, Int.natCast_mul]
  have HSh := Lib.hid (fun w => shortB_any im hi N (by omega) (N : Int) rfl w)
  obtain ⟨i1, hi1⟩ : ∃ i1, i1 = im.data.toList.take N := ⟨_, rfl⟩
  have li : i1.length ≤ N := by rw [hi1, List.length_take]; omega
  rw [← hi1] at HSh
  have HN := Lib.hid (fun w => fNew_ok pg pgs rgs (bs i1) (by rw [← hN, bs_size]; exact li) (by omega) (by omega) (by omega) (by omega) (by omega) (by omega) w)
  have HNR := Lib.hid (fun w => refNew_any pg pgs rgs (bs i1) (by rw [← hN, bs_size]; exact li) (by omega) (by omega) (by omega) (by omega) (by omega) (by omega) w)
  have OKN := Lib.hid (show (newD pg pgs rgs i1).Ok from new_ok (by rw [← hN]; exact li) (by omega) (by omega) (by omega) (by omega) (by omega) (by omega))
  rw [list_bs] at HN HNR
  have HGe := Lib.hid (fun w p S (h : FHas w p (newD pg pgs rgs i1) S) => fGeom_any h OKN.out)
  rw [show (newD pg pgs rgs i1).pg = pg from rfl, show (newD pg pgs rgs i1).pgs = pgs from rfl, show (newD pg pgs rgs i1).rgs = rgs from rfl] at HGe
  unfold Geom.gV at HGe
  unfold ptr at HNR
  rw [← hpg, ← hpgs, ← hrgs] at HN HNR HGe
  have HPK : Hid (∀ ta w, Calls Try.prog 19 #[.int .i64 ta, .int .i64 (n : Int)] w fun e w' => e = .returned (.int .i64 (ta % (n : Int))) ∧ w = w') := fun ta w => Book.pick_any ta n hn0 (by omega) w
  have HSTEPS := Lib.hid hS
  obtain ⟨L, hL⟩ : ∃ L, l.length = L := ⟨_, rfl⟩
  rw [hL] at hll ⊢
  have HLL := Lib.hid hL
  unfold maxLen at hll
  clear hg1 hsz hN hn hi1 hS hL hi hpg hpgs hrgs
  go_enter Try.func3, Try.ntmps3
  go_wp2_with (first
    | (go_at_call 10; (with_reducible refine (HG.out _).mono ?_); rintro e wg ⟨rfl, bg⟩; have vg := HV0.out.below bg HV0.out.lt; have c0 := vg.cell (j := 0) rfl; have c1 := vg.cell (j := 1) rfl; have c2 := vg.cell (j := 2) rfl; have f0 := vg.frozen 0; have f1 := vg.frozen 1; have f2 := vg.frozen 2; have vs := ((vg.set 0 (.int .i64 p1)).set 1 (.int .i64 q1)).set 2 (.int .i64 r1); have VN := Lib.hid vs; have k0 := vs.cell (j := 0) rfl; have k1 := vs.cell (j := 1) rfl; have k2 := vs.cell (j := 2) rfl; have BN := Lib.hid ((((bel2 (Geom.bel_alloc w (.cells #[.int .i64 p0, .int .i64 q0, .int .i64 r0] 23)) bg).setCell (p := ⟨w.heap.size, 0, none⟩) (Nat.le_refl _) (.int .i64 p1)).setCell (p := ⟨w.heap.size, 1, none⟩) (Nat.le_refl _) (.int .i64 q1)).setCell (p := ⟨w.heap.size, 2, none⟩) (Nat.le_refl _) (.int .i64 r1)); clear vg bg vs)
    | (go_at_call 12; (with_reducible refine (HSZ.out _).mono ?_); rintro e w1 ⟨rfl, b1⟩; have v1 := VN.out.below b1 VN.out.lt; have c0 := v1.cell (j := 0) rfl; have c1 := v1.cell (j := 1) rfl; have c2 := v1.cell (j := 2) rfl; have VBX := Lib.hid v1; have BW1 := Lib.hid (BN.out.trans (b1.mono BN.out.size)); have LW1 := Lib.hid (show w.heap.size + 1 ≤ w1.heap.size from v1.lt); clear v1)
    | (go_at_call 11; (with_reducible refine (HSh.out _).mono ?_); rintro e wz ⟨rfl, rfl⟩)
    | (go_at_call 13; (with_reducible refine (HN.out _).mono ?_); rintro e w2 ⟨p, S2, rfl, h2, b2, s2⟩; have v2 := VBX.out.below b2 VBX.out.lt; have V2 := Lib.hid v2; have H2 := Lib.hid h2; have B2 := Lib.hid b2; have S2L := Lib.hid s2; clear v2 h2 b2 s2))
  refine wp_region_is [23, 24, 25, 26, 27, 28, 29, 30, 31, 32, 33, 34, 35, 36, 37, 38] (fun w' => Below w2.heap.size w2 w')
    [.bool true, .bool false, .bool false, .int .i64 0, .bool false, .bool false, .bool false, .pointer (some ⟨p, 0, none⟩), .bool false, .bool false, .bool false, .pointer (some ⟨p, 0, none⟩), .agg #[.int .i64 p1, .int .i64 q1, .int .i64 r1], .agg #[.int .i64 p1, .int .i64 q1, .int .i64 r1], .bool false, .bool false] (by kernel_rfl) (by kernel_rfl) rfl (by decide) (by simp) (Below.refl _ _).drew ?each ?done
  case each =>
    simp only [Each]
    repeat' (first | exact trivial | refine And.intro ?_ ?_)
    all_goals
      intro ys wx hBx hdeps
      simp only [Deps, Region.binds, List.getD_cons_zero, List.getD_cons_succ, forall_const, and_true] at hdeps
      have c0 : wx.cell? ⟨w.heap.size, 0, none⟩ = some (.int .i64 p1) := (V2.out.below hBx V2.out.lt).cell (j := 0) rfl
      have c1 : wx.cell? ⟨w.heap.size, 1, none⟩ = some (.int .i64 q1) := (V2.out.below hBx V2.out.lt).cell (j := 1) rfl
      have c2 : wx.cell? ⟨w.heap.size, 2, none⟩ = some (.int .i64 r1) := (V2.out.below hBx V2.out.lt).cell (j := 2) rfl
      simp only [hdeps, fill, List.foldl_cons, List.foldl_nil, Act.put, List.setIfInBounds_toArray, List.set_cons_succ, List.set_cons_zero]
      first
        | (go_wp2_with fail; exact ⟨_, rfl, rfl, hBx, Below.refl _ _⟩)
        | (go_wp2_with (go_at_call 14; (with_reducible refine (HAL.out _).mono ?_); rintro e w3 ⟨rfl, hm⟩); exact ⟨_, rfl, rfl, hBx.trans (hm.mono hBx.size), hm⟩)
        | (go_wp2_with (go_at_call 15; (with_reducible refine (HGe.out _ _ _ (H2.out.below hBx)).mono ?_); rintro e w3 ⟨rfl, hm⟩); exact ⟨_, rfl, rfl, hBx.trans (hm.mono hBx.size), hm⟩)
  case done =>
    intro ys wx hBx hV
    have h38 : ys 38 = .bool false := hV 15 (by decide)
    have B3 := Lib.hid hBx
    have V3 := Lib.hid (V2.out.below hBx V2.out.lt)
    have c0 := V3.out.cell (j := 0) rfl
    have c1 := V3.out.cell (j := 1) rfl
    have c2 := V3.out.cell (j := 2) rfl
    clear hBx hV
    simp only [h38, fill, List.drop_succ_cons, List.drop_zero, List.foldl_cons, List.foldl_nil, Act.put, List.setIfInBounds_toArray, List.set_cons_succ, List.set_cons_zero]
    go_wp2_with (go_at_call 16; (with_reducible refine (HNR.out _).mono ?_); rintro e w4 ⟨r, R4, rfl, h4, b4, s4⟩)
    have HBL := Lib.hid (show ∀ wx, Below (w.heap.size + 1) w1 wx → Below w.heap.size w wx from fun wx hb => BW1.out.trans (hb.mono (Nat.le_succ _)))
    have S24 := Lib.hid (bel2 (bel2 B2.out B3.out) b4)
    have TW0 := Lib.hid (show Two w4 p r (newD pg pgs rgs i1) (newD pg pgs rgs i1) S2 R4 from ⟨H2.out.below (bel2 B3.out b4), h4, fun k hs hr => by have e1 := H2.out.lt k hs; have e2 := s4 k hr; have e3 := B3.out.size; omega⟩)
    have SF0 := Lib.hid (show Safe (w.heap.size + 1) w1 w4 (both S2 R4) from ⟨S24.out.mono LW1.out, Nat.le_trans LW1.out S24.out.size, by rintro k (x | x); exact Nat.le_trans LW1.out (S2L.out k x); exact Nat.le_trans LW1.out (Nat.le_trans (Nat.le_trans B2.out.size B3.out.size) (s4 k x))⟩)
    clear h4 b4 s4 H2 B2 S2L B3 V2 V3 c0 c1 c2 k0 k1 k2 f0 f1 f2
    go_loopw [10] (fun v wr => ∃ i : Nat, v = .int .i64 (i : Int) ∧ i ≤ L ∧ i ≤ 60 ∧ ∃ d S R, d.Ok ∧ Two wr p r d d S R ∧ Safe (w.heap.size + 1) w1 wr (both S R)) (fun v _ => L - (intOf v).toNat)
    case atStart => exact ⟨0, rfl, by omega, by omega, _, _, _, OKN.out, TW0.out, SF0.out⟩
    case round =>
      obtain ⟨i, rfl, hiL, hi60, d, S, R, hok, htwo, hsafe⟩ := hrel
      have hOK := Lib.hid hok
      have TWO := Lib.hid htwo
      have SAFE := Lib.hid hsafe
      clear hok htwo hsafe TW0 SF0 OKN
      by_cases hlt : i < L
      · have d1 : decide ((i : Int) < (L : Int)) = true := by simp; omega
        have d2 : decide (i < L) = true := by simp; omega
        by_cases h60 : i < 60
        · have d3 : decide ((i : Int) < 60) = true := by simp; omega
          have d4 : decide (i < 60) = true := by simp; omega
          have hil : i < l.length := by rw [HLL.out]; exact hlt
          obtain ⟨lb, off, hla, hlb, hcell⟩ := HSTEPS.out.get hil
          subst hla
          have HTX := Lib.hid (HSTEPS.out.text l[i] (List.getElem_mem hil))
          have HMK := Lib.hid (HSTEPS.out.mask l[i] (List.getElem_mem hil))
          have HNU := Lib.hid (HSTEPS.out.nums l[i] (List.getElem_mem hil))
          have HLN := Lib.hid (HSTEPS.out.len l[i] (List.getElem_mem hil))
          obtain ⟨tw, ta, tb, ts, tx, tm, tn, tma, tmc, hx⟩ : ∃ tw ta tb ts tx tm tn tma tmc, l[i] = ⟨⟨tw, ta, tb, ts, tx, tm, tn⟩, tma, tmc⟩ := ⟨_, _, _, _, _, _, _, _, _, rfl⟩
          rw [hx] at hcell HTX HMK HNU HLN
          simp only [StM.cells] at hcell
          simp only at HTX HMK HNU HLN
          have hCell : ∀ wx, Below w.heap.size w wx → ∀ j, j < 7 → ∀ c, [.int .i64 tw, .int .i64 ta, .int .i64 tb, .string ts, .int .u8 (tx.toNat : Int), .slice tma tm.length tmc, .bool tn][j]? = some c → wx.cell? ⟨lb, off + i * 7 + j, none⟩ = some c := fun wx hb j hj c hc => by rw [hb.cell (p := ⟨lb, off + i * 7 + j, none⟩) hlb]; exact hcell j hj c hc
          have hOK2 := Lib.hid (step_keeps hOK.out ⟨tw, ta, tb, ts, tx, tm, tn⟩)
          have HCELL := Lib.hid hCell
          clear hcell hCell HSTEPS hx
          go_wp2
          refine wp_region_each3 [some 52, some 53, some 54, some 55, some 56, some 57, some 58, some 59, some 60, some 61, some 62, some 63, some 64, some 65, some 66, some 67, some 68, some 69, some 70, some 71, some 72, some 73, some 74, some 75, some 76] (PJ w1 (w.heap.size + 1) p r d (stepD d ⟨tw, ta, tb, ts, tx, tm, tn⟩) [.pointer (some ⟨p, 0, none⟩), .pointer (some ⟨r, 0, none⟩), .slice (some ⟨lb, off, none⟩) L lc, .int .i64 (i : Int), .pointer (some ⟨lb, off + i * 7, none⟩), .agg #[.int .i64 tw, .int .i64 ta, .int .i64 tb, .string ts, .int .u8 (tx.toNat : Int), .slice tma tm.length tmc, .bool tn], .bool true, .bool false, .bool false, .pointer (some ⟨p, 0, none⟩), .pointer (some ⟨r, 0, none⟩), .slice (some ⟨lb, off, none⟩) L lc, .int .i64 (i : Int), .pointer (some ⟨lb, off + i * 7, none⟩), .pointer (some ⟨lb, off + i * 7 + 1, none⟩), .int .i64 ta, .pointer (some ⟨w.heap.size, 1, none⟩), .int .i64 q1, .pointer (some ⟨w.heap.size, 2, none⟩), .int .i64 r1, .int .i64 (n : Int), .int .i64 (ta % (n : Int)), .bool true, .bool false, .bool false]) (by kernel_rfl) (by kernel_rfl) (by simp [slots]) ?start ?each ?done
          case start => exact ⟨by simp, by simp, by simp, S, R, TWO.out.below (below_drewN _ 1), SAFE.out.below (below_drewN _ 1)⟩
          case each =>
            simp only [Each2]
            refine ⟨?o0, ?o1, ?o2, ?o3, ?o4, ?o5, ?o6, ?o7, ?o8, ?o9, ?o10, ?o11, ?o12, ?o13, ?o14, ?o15, ?o16, ?o17, ?o18, ?o19, ?o20, ?o21, ?o22, ?o23, ?o24, trivial⟩
            case o0 =>
              intro d0 ys wx hJ hdi hw hdeps
              simp only [List.getD_cons_succ, List.getD_cons_zero, fill, slots, List.filterMap_cons, List.filterMap_nil, id, List.foldl_cons, List.foldl_nil, Act.put, List.setIfInBounds_toArray, List.set_cons_succ, List.set_cons_zero]
              go_wp2_with fail
              exact ⟨_, rfl, hJ.plain (i := 0) (by decide) (by intro e; exact absurd e (by decide)) (by intro e; exact absurd e (by decide)) rfl (Below.refl _ _)⟩
            case o1 =>
              intro d0 ys wx hJ hdi hw hdeps
              simp only [List.getD_cons_succ, List.getD_cons_zero, fill, slots, List.filterMap_cons, List.filterMap_nil, id, List.foldl_cons, List.foldl_nil, Act.put, List.setIfInBounds_toArray, List.set_cons_succ, List.set_cons_zero]
              go_wp2_with fail
              exact ⟨_, rfl, hJ.plain (i := 1) (by decide) (by intro e; exact absurd e (by decide)) (by intro e; exact absurd e (by decide)) rfl (Below.refl _ _)⟩
            case o2 =>
              intro d0 ys wx hJ hdi hw hdeps
              simp only [List.getD_cons_succ, List.getD_cons_zero, fill, slots, List.filterMap_cons, List.filterMap_nil, id, List.foldl_cons, List.foldl_nil, Act.put, List.setIfInBounds_toArray, List.set_cons_succ, List.set_cons_zero]
              go_wp2_with fail
              exact ⟨_, rfl, hJ.plain (i := 2) (by decide) (by intro e; exact absurd e (by decide)) (by intro e; exact absurd e (by decide)) rfl (Below.refl _ _)⟩
            case o3 =>
              intro d0 ys wx hJ hdi hw hdeps
              simp only [List.getD_cons_succ, List.getD_cons_zero, fill, slots, List.filterMap_cons, List.filterMap_nil, id, List.foldl_cons, List.foldl_nil, Act.put, List.setIfInBounds_toArray, List.set_cons_succ, List.set_cons_zero]
              go_wp2_with fail
              exact ⟨_, rfl, hJ.plain (i := 3) (by decide) (by intro e; exact absurd e (by decide)) (by intro e; exact absurd e (by decide)) rfl (Below.refl _ _)⟩
            case o4 =>
              intro d0 ys wx hJ hdi hw hdeps
              have q2 : d0 2 = true := by simp [Region.Deps2, Go.Region.binds] at hdeps; simp [hdeps]
              have y2 : ys 54 = .slice (some ⟨lb, off, none⟩) L lc := hJ.1 2 (by decide) q2
              have q3 : d0 3 = true := by simp [Region.Deps2, Go.Region.binds] at hdeps; simp [hdeps]
              have y3 : ys 55 = .int .i64 (i : Int) := hJ.1 3 (by decide) q3
              simp only [y2, y3, List.getD_cons_succ, List.getD_cons_zero, fill, slots, List.filterMap_cons, List.filterMap_nil, id, List.foldl_cons, List.foldl_nil, Act.put, List.setIfInBounds_toArray, List.set_cons_succ, List.set_cons_zero]
              go_wp2_with fail
              exact ⟨_, rfl, hJ.plain (i := 4) (by decide) (by intro e; exact absurd e (by decide)) (by intro e; exact absurd e (by decide)) rfl (Below.refl _ _)⟩
            case o5 =>
              intro d0 ys wx hJ hdi hw hdeps
              have q4 : d0 4 = true := by simp [Region.Deps2, Go.Region.binds] at hdeps; simp [hdeps]
              have y4 : ys 56 = .pointer (some ⟨lb, off + i * 7, none⟩) := hJ.1 4 (by decide) q4
              have hEx := hJ.2.2.2
              with_reducible refine Exists.elim hEx ?_
              clear hEx
              intro S3 h3a
              with_reducible refine Exists.elim h3a ?_
              intro R3 h3b
              have t3 := h3b.1
              have s3 := h3b.2
              clear h3a h3b
              have hBl := HBL.out wx s3.bel
              have e0 : wx.cell? ⟨lb, off + i * 7, none⟩ = some (.int .i64 tw) := by have := HCELL.out wx hBl 0 (by omega) (.int .i64 tw) rfl; exact this
              have e1 : wx.cell? ⟨lb, off + i * 7 + 1, none⟩ = some (.int .i64 ta) := by have := HCELL.out wx hBl 1 (by omega) (.int .i64 ta) rfl; exact this
              have e2 : wx.cell? ⟨lb, off + i * 7 + 2, none⟩ = some (.int .i64 tb) := by have := HCELL.out wx hBl 2 (by omega) (.int .i64 tb) rfl; exact this
              have e3 : wx.cell? ⟨lb, off + i * 7 + 3, none⟩ = some (.string ts) := by have := HCELL.out wx hBl 3 (by omega) (.string ts) rfl; exact this
              have e4 : wx.cell? ⟨lb, off + i * 7 + 4, none⟩ = some (.int .u8 (tx.toNat : Int)) := by have := HCELL.out wx hBl 4 (by omega) (.int .u8 (tx.toNat : Int)) rfl; exact this
              have e5 : wx.cell? ⟨lb, off + i * 7 + 5, none⟩ = some (.slice tma tm.length tmc) := by have := HCELL.out wx hBl 5 (by omega) (.slice tma tm.length tmc) rfl; exact this
              have e6 : wx.cell? ⟨lb, off + i * 7 + 6, none⟩ = some (.bool tn) := by have := HCELL.out wx hBl 6 (by omega) (.bool tn) rfl; exact this
              clear t3 s3 hBl
              simp only [y4, List.getD_cons_succ, List.getD_cons_zero, fill, slots, List.filterMap_cons, List.filterMap_nil, id, List.foldl_cons, List.foldl_nil, Act.put, List.setIfInBounds_toArray, List.set_cons_succ, List.set_cons_zero]
              go_wp2_with fail
              exact ⟨_, rfl, hJ.plain (i := 5) (by decide) (by intro e; exact absurd e (by decide)) (by intro e; exact absurd e (by decide)) rfl (Below.refl _ _)⟩
            case o6 =>
              intro d0 ys wx hJ hdi hw hdeps
              have q0 : d0 0 = true := by simp [Region.Deps2, Go.Region.binds] at hdeps; simp [hdeps]
              have y0 : ys 52 = .pointer (some ⟨p, 0, none⟩) := hJ.1 0 (by decide) q0
              have q1 : d0 1 = true := by simp [Region.Deps2, Go.Region.binds] at hdeps; simp [hdeps]
              have y1 : ys 53 = .pointer (some ⟨r, 0, none⟩) := hJ.1 1 (by decide) q1
              have q5 : d0 5 = true := by simp [Region.Deps2, Go.Region.binds] at hdeps; simp [hdeps]
              have y5 : ys 57 = .agg #[.int .i64 tw, .int .i64 ta, .int .i64 tb, .string ts, .int .u8 (tx.toNat : Int), .slice tma tm.length tmc, .bool tn] := hJ.1 5 (by decide) q5
              have hEx := hJ.2.2.2
              with_reducible refine Exists.elim hEx ?_
              clear hEx
              intro S3 h3a
              with_reducible refine Exists.elim h3a ?_
              intro R3 h3b
              have t3 := h3b.1
              have s3 := h3b.2
              clear h3a h3b
              rw [hdi, if_neg (by simp)] at t3
              have T3 := Lib.hid t3
              have S3s := Lib.hid s3
              have HJ := Lib.hid hJ
              have HST := Lib.hid (step_any T3.out hOK.out ⟨tw, ta, tb, ts, tx, tm, tn⟩ tma tm.length tmc HTX.out ((Ints.mask (show Ints w tma tm from HMK.out) (HBL.out wx s3.bel) (fun k hk => by have := s3.foot k hk; omega))) HNU.out rfl HLN.out)
              clear t3 s3 hJ
              simp only [y0, y1, y5, List.getD_cons_succ, List.getD_cons_zero, fill, slots, List.filterMap_cons, List.filterMap_nil, id, List.foldl_cons, List.foldl_nil, Act.put, List.setIfInBounds_toArray, List.set_cons_succ, List.set_cons_zero]
              go_wp2_with (go_at_call 17; (with_reducible refine HST.out.mono ?_); rintro e wy ⟨rfl, S4, R4, t4, a4⟩)
              exact ⟨_, rfl, HJ.out.step t4 (S3s.out.after a4) rfl⟩
            case o7 =>
              intro d0 ys wx hJ hdi hw hdeps
              have q6 : d0 6 = true := by simp [Region.Deps2, Go.Region.binds] at hdeps; simp [hdeps]
              have y6 : ys 58 = .bool true := hJ.1 6 (by decide) q6
              simp only [y6, List.getD_cons_succ, List.getD_cons_zero, fill, slots, List.filterMap_cons, List.filterMap_nil, id, List.foldl_cons, List.foldl_nil, Act.put, List.setIfInBounds_toArray, List.set_cons_succ, List.set_cons_zero]
              go_wp2_with fail
              exact ⟨_, rfl, hJ.plain (i := 7) (by decide) (by intro _; exact q6) (by intro e; exact absurd e (by decide)) rfl (Below.refl _ _)⟩
            case o8 =>
              intro d0 ys wx hJ hdi hw hdeps
              have q7 : d0 7 = true := by simp [Region.Deps2, Go.Region.binds] at hdeps; simp [hdeps]
              have y7 : ys 59 = .bool false := hJ.1 7 (by decide) q7
              simp only [y7, List.getD_cons_succ, List.getD_cons_zero, fill, slots, List.filterMap_cons, List.filterMap_nil, id, List.foldl_cons, List.foldl_nil, Act.put, List.setIfInBounds_toArray, List.set_cons_succ, List.set_cons_zero]
              go_wp2_with fail
              exact ⟨_, rfl, hJ.plain (i := 8) (by decide) (by intro e; exact absurd e (by decide)) (by intro _; exact q7) rfl (Below.refl _ _)⟩
            case o9 =>
              intro d0 ys wx hJ hdi hw hdeps
              have q8 : d0 8 = true := by simp [Region.Deps2, Go.Region.binds] at hdeps; simp [hdeps]
              have y8 : ys 60 = .bool false := hJ.1 8 (by decide) q8
              simp only [y8, List.getD_cons_succ, List.getD_cons_zero, fill, slots, List.filterMap_cons, List.filterMap_nil, id, List.foldl_cons, List.foldl_nil, Act.put, List.setIfInBounds_toArray, List.set_cons_succ, List.set_cons_zero]
              go_wp2_with fail
              exact ⟨_, rfl, hJ.plain (i := 9) (by decide) (by intro e; exact absurd e (by decide)) (by intro e; exact absurd e (by decide)) rfl (Below.refl _ _)⟩
            case o10 =>
              intro d0 ys wx hJ hdi hw hdeps
              have q8 : d0 8 = true := by simp [Region.Deps2, Go.Region.binds] at hdeps; simp [hdeps]
              have y8 : ys 60 = .bool false := hJ.1 8 (by decide) q8
              simp only [y8, List.getD_cons_succ, List.getD_cons_zero, fill, slots, List.filterMap_cons, List.filterMap_nil, id, List.foldl_cons, List.foldl_nil, Act.put, List.setIfInBounds_toArray, List.set_cons_succ, List.set_cons_zero]
              go_wp2_with fail
              exact ⟨_, rfl, hJ.plain (i := 10) (by decide) (by intro e; exact absurd e (by decide)) (by intro e; exact absurd e (by decide)) rfl (Below.refl _ _)⟩
            case o11 =>
              intro d0 ys wx hJ hdi hw hdeps
              have q8 : d0 8 = true := by simp [Region.Deps2, Go.Region.binds] at hdeps; simp [hdeps]
              have y8 : ys 60 = .bool false := hJ.1 8 (by decide) q8
              simp only [y8, List.getD_cons_succ, List.getD_cons_zero, fill, slots, List.filterMap_cons, List.filterMap_nil, id, List.foldl_cons, List.foldl_nil, Act.put, List.setIfInBounds_toArray, List.set_cons_succ, List.set_cons_zero]
              go_wp2_with fail
              exact ⟨_, rfl, hJ.plain (i := 11) (by decide) (by intro e; exact absurd e (by decide)) (by intro e; exact absurd e (by decide)) rfl (Below.refl _ _)⟩
            case o12 =>
              intro d0 ys wx hJ hdi hw hdeps
              have q8 : d0 8 = true := by simp [Region.Deps2, Go.Region.binds] at hdeps; simp [hdeps]
              have y8 : ys 60 = .bool false := hJ.1 8 (by decide) q8
              simp only [y8, List.getD_cons_succ, List.getD_cons_zero, fill, slots, List.filterMap_cons, List.filterMap_nil, id, List.foldl_cons, List.foldl_nil, Act.put, List.setIfInBounds_toArray, List.set_cons_succ, List.set_cons_zero]
              go_wp2_with fail
              exact ⟨_, rfl, hJ.plain (i := 12) (by decide) (by intro e; exact absurd e (by decide)) (by intro e; exact absurd e (by decide)) rfl (Below.refl _ _)⟩
            case o13 =>
              intro d0 ys wx hJ hdi hw hdeps
              have q11 : d0 11 = true := by simp [Region.Deps2, Go.Region.binds] at hdeps; simp [hdeps]
              have y11 : ys 63 = .slice (some ⟨lb, off, none⟩) L lc := hJ.1 11 (by decide) q11
              have q12 : d0 12 = true := by simp [Region.Deps2, Go.Region.binds] at hdeps; simp [hdeps]
              have y12 : ys 64 = .int .i64 (i : Int) := hJ.1 12 (by decide) q12
              have q8 : d0 8 = true := by simp [Region.Deps2, Go.Region.binds] at hdeps; simp [hdeps]
              have y8 : ys 60 = .bool false := hJ.1 8 (by decide) q8
              simp only [y11, y12, y8, List.getD_cons_succ, List.getD_cons_zero, fill, slots, List.filterMap_cons, List.filterMap_nil, id, List.foldl_cons, List.foldl_nil, Act.put, List.setIfInBounds_toArray, List.set_cons_succ, List.set_cons_zero]
              go_wp2_with fail
              exact ⟨_, rfl, hJ.plain (i := 13) (by decide) (by intro e; exact absurd e (by decide)) (by intro e; exact absurd e (by decide)) rfl (Below.refl _ _)⟩
            case o14 =>
              intro d0 ys wx hJ hdi hw hdeps
              have q13 : d0 13 = true := by simp [Region.Deps2, Go.Region.binds] at hdeps; simp [hdeps]
              have y13 : ys 65 = .pointer (some ⟨lb, off + i * 7, none⟩) := hJ.1 13 (by decide) q13
              have q8 : d0 8 = true := by simp [Region.Deps2, Go.Region.binds] at hdeps; simp [hdeps]
              have y8 : ys 60 = .bool false := hJ.1 8 (by decide) q8
              simp only [y13, y8, List.getD_cons_succ, List.getD_cons_zero, fill, slots, List.filterMap_cons, List.filterMap_nil, id, List.foldl_cons, List.foldl_nil, Act.put, List.setIfInBounds_toArray, List.set_cons_succ, List.set_cons_zero]
              go_wp2_with fail
              exact ⟨_, rfl, hJ.plain (i := 14) (by decide) (by intro e; exact absurd e (by decide)) (by intro e; exact absurd e (by decide)) rfl (Below.refl _ _)⟩
            case o15 =>
              intro d0 ys wx hJ hdi hw hdeps
              have q14 : d0 14 = true := by simp [Region.Deps2, Go.Region.binds] at hdeps; simp [hdeps]
              have y14 : ys 66 = .pointer (some ⟨lb, off + i * 7 + 1, none⟩) := hJ.1 14 (by decide) q14
              have q8 : d0 8 = true := by simp [Region.Deps2, Go.Region.binds] at hdeps; simp [hdeps]
              have y8 : ys 60 = .bool false := hJ.1 8 (by decide) q8
              have hEx := hJ.2.2.2
              with_reducible refine Exists.elim hEx ?_
              clear hEx
              intro S3 h3a
              with_reducible refine Exists.elim h3a ?_
              intro R3 h3b
              have t3 := h3b.1
              have s3 := h3b.2
              clear h3a h3b
              have hBl := HBL.out wx s3.bel
              have e1 : wx.cell? ⟨lb, off + i * 7 + 1, none⟩ = some (.int .i64 ta) := by have := HCELL.out wx hBl 1 (by omega) (.int .i64 ta) rfl; exact this
              clear t3 s3 hBl
              simp only [y14, y8, List.getD_cons_succ, List.getD_cons_zero, fill, slots, List.filterMap_cons, List.filterMap_nil, id, List.foldl_cons, List.foldl_nil, Act.put, List.setIfInBounds_toArray, List.set_cons_succ, List.set_cons_zero]
              go_wp2_with fail
              exact ⟨_, rfl, hJ.plain (i := 15) (by decide) (by intro e; exact absurd e (by decide)) (by intro e; exact absurd e (by decide)) rfl (Below.refl _ _)⟩
            case o16 =>
              intro d0 ys wx hJ hdi hw hdeps
              have q8 : d0 8 = true := by simp [Region.Deps2, Go.Region.binds] at hdeps; simp [hdeps]
              have y8 : ys 60 = .bool false := hJ.1 8 (by decide) q8
              simp only [y8, List.getD_cons_succ, List.getD_cons_zero, fill, slots, List.filterMap_cons, List.filterMap_nil, id, List.foldl_cons, List.foldl_nil, Act.put, List.setIfInBounds_toArray, List.set_cons_succ, List.set_cons_zero]
              go_wp2_with fail
              exact ⟨_, rfl, hJ.plain (i := 16) (by decide) (by intro e; exact absurd e (by decide)) (by intro e; exact absurd e (by decide)) rfl (Below.refl _ _)⟩
            case o17 =>
              intro d0 ys wx hJ hdi hw hdeps
              have q16 : d0 16 = true := by simp [Region.Deps2, Go.Region.binds] at hdeps; simp [hdeps]
              have y16 : ys 68 = .pointer (some ⟨w.heap.size, 1, none⟩) := hJ.1 16 (by decide) q16
              have q8 : d0 8 = true := by simp [Region.Deps2, Go.Region.binds] at hdeps; simp [hdeps]
              have y8 : ys 60 = .bool false := hJ.1 8 (by decide) q8
              have hEx := hJ.2.2.2
              with_reducible refine Exists.elim hEx ?_
              clear hEx
              intro S3 h3a
              with_reducible refine Exists.elim h3a ?_
              intro R3 h3b
              have t3 := h3b.1
              have s3 := h3b.2
              clear h3a h3b
              have hBl := HBL.out wx s3.bel
              have c1 := (VBX.out.below s3.bel (by omega)).cell (j := 1) rfl
              clear t3 s3 hBl
              simp only [y16, y8, List.getD_cons_succ, List.getD_cons_zero, fill, slots, List.filterMap_cons, List.filterMap_nil, id, List.foldl_cons, List.foldl_nil, Act.put, List.setIfInBounds_toArray, List.set_cons_succ, List.set_cons_zero]
              go_wp2_with fail
              exact ⟨_, rfl, hJ.plain (i := 17) (by decide) (by intro e; exact absurd e (by decide)) (by intro e; exact absurd e (by decide)) rfl (Below.refl _ _)⟩
            case o18 =>
              intro d0 ys wx hJ hdi hw hdeps
              have q8 : d0 8 = true := by simp [Region.Deps2, Go.Region.binds] at hdeps; simp [hdeps]
              have y8 : ys 60 = .bool false := hJ.1 8 (by decide) q8
              simp only [y8, List.getD_cons_succ, List.getD_cons_zero, fill, slots, List.filterMap_cons, List.filterMap_nil, id, List.foldl_cons, List.foldl_nil, Act.put, List.setIfInBounds_toArray, List.set_cons_succ, List.set_cons_zero]
              go_wp2_with fail
              exact ⟨_, rfl, hJ.plain (i := 18) (by decide) (by intro e; exact absurd e (by decide)) (by intro e; exact absurd e (by decide)) rfl (Below.refl _ _)⟩
            case o19 =>
              intro d0 ys wx hJ hdi hw hdeps
              have q18 : d0 18 = true := by simp [Region.Deps2, Go.Region.binds] at hdeps; simp [hdeps]
              have y18 : ys 70 = .pointer (some ⟨w.heap.size, 2, none⟩) := hJ.1 18 (by decide) q18
              have q8 : d0 8 = true := by simp [Region.Deps2, Go.Region.binds] at hdeps; simp [hdeps]
              have y8 : ys 60 = .bool false := hJ.1 8 (by decide) q8
              have hEx := hJ.2.2.2
              with_reducible refine Exists.elim hEx ?_
              clear hEx
              intro S3 h3a
              with_reducible refine Exists.elim h3a ?_
              intro R3 h3b
              have t3 := h3b.1
              have s3 := h3b.2
              clear h3a h3b
              have hBl := HBL.out wx s3.bel
              have c2 := (VBX.out.below s3.bel (by omega)).cell (j := 2) rfl
              clear t3 s3 hBl
              simp only [y18, y8, List.getD_cons_succ, List.getD_cons_zero, fill, slots, List.filterMap_cons, List.filterMap_nil, id, List.foldl_cons, List.foldl_nil, Act.put, List.setIfInBounds_toArray, List.set_cons_succ, List.set_cons_zero]
              go_wp2_with fail
              exact ⟨_, rfl, hJ.plain (i := 19) (by decide) (by intro e; exact absurd e (by decide)) (by intro e; exact absurd e (by decide)) rfl (Below.refl _ _)⟩
            case o20 =>
              intro d0 ys wx hJ hdi hw hdeps
              have q17 : d0 17 = true := by simp [Region.Deps2, Go.Region.binds] at hdeps; simp [hdeps]
              have y17 : ys 69 = .int .i64 q1 := hJ.1 17 (by decide) q17
              have q19 : d0 19 = true := by simp [Region.Deps2, Go.Region.binds] at hdeps; simp [hdeps]
              have y19 : ys 71 = .int .i64 r1 := hJ.1 19 (by decide) q19
              have q8 : d0 8 = true := by simp [Region.Deps2, Go.Region.binds] at hdeps; simp [hdeps]
              have y8 : ys 60 = .bool false := hJ.1 8 (by decide) q8
              simp only [y17, y19, y8, List.getD_cons_succ, List.getD_cons_zero, fill, slots, List.filterMap_cons, List.filterMap_nil, id, List.foldl_cons, List.foldl_nil, Act.put, List.setIfInBounds_toArray, List.set_cons_succ, List.set_cons_zero]
              go_wp2_with fail
              exact ⟨_, rfl, hJ.plain (i := 20) (by decide) (by intro e; exact absurd e (by decide)) (by intro e; exact absurd e (by decide)) rfl (Below.refl _ _)⟩
            case o21 =>
              intro d0 ys wx hJ hdi hw hdeps
              have q15 : d0 15 = true := by simp [Region.Deps2, Go.Region.binds] at hdeps; simp [hdeps]
              have y15 : ys 67 = .int .i64 ta := hJ.1 15 (by decide) q15
              have q20 : d0 20 = true := by simp [Region.Deps2, Go.Region.binds] at hdeps; simp [hdeps]
              have y20 : ys 72 = .int .i64 (n : Int) := hJ.1 20 (by decide) q20
              have q8 : d0 8 = true := by simp [Region.Deps2, Go.Region.binds] at hdeps; simp [hdeps]
              have y8 : ys 60 = .bool false := hJ.1 8 (by decide) q8
              simp only [y15, y20, y8, List.getD_cons_succ, List.getD_cons_zero, fill, slots, List.filterMap_cons, List.filterMap_nil, id, List.foldl_cons, List.foldl_nil, Act.put, List.setIfInBounds_toArray, List.set_cons_succ, List.set_cons_zero]
              go_wp2_with (go_at_call 19; (with_reducible refine (HPK.out _ _).mono ?_); rintro e wz ⟨rfl, rfl⟩)
              exact ⟨_, rfl, hJ.plain (i := 21) (by decide) (by intro e; exact absurd e (by decide)) (by intro e; exact absurd e (by decide)) rfl (Below.refl _ _)⟩
            case o22 =>
              intro d0 ys wx hJ hdi hw hdeps
              have q9 : d0 9 = true := by simp [Region.Deps2, Go.Region.binds] at hdeps; simp [hdeps]
              have y9 : ys 61 = .pointer (some ⟨p, 0, none⟩) := hJ.1 9 (by decide) q9
              have q10 : d0 10 = true := by simp [Region.Deps2, Go.Region.binds] at hdeps; simp [hdeps]
              have y10 : ys 62 = .pointer (some ⟨r, 0, none⟩) := hJ.1 10 (by decide) q10
              have q21 : d0 21 = true := by simp [Region.Deps2, Go.Region.binds] at hdeps; simp [hdeps]
              have y21 : ys 73 = .int .i64 (ta % (n : Int)) := hJ.1 21 (by decide) q21
              have q8 : d0 8 = true := by simp [Region.Deps2, Go.Region.binds] at hdeps; simp [hdeps]
              have y8 : ys 60 = .bool false := hJ.1 8 (by decide) q8
              have hEx := hJ.2.2.2
              with_reducible refine Exists.elim hEx ?_
              clear hEx
              intro S3 h3a
              with_reducible refine Exists.elim h3a ?_
              intro R3 h3b
              have t3 := h3b.1
              have s3 := h3b.2
              clear h3a h3b
              rw [hJ.2.2.1 (hJ.2.1 q8), if_pos rfl] at t3
              have HSM := Lib.hid (same_any t3.f t3.r hOK2.out (ta % (n : Int)))
              have HJ := Lib.hid hJ
              clear t3 s3 hJ
              simp only [y9, y10, y21, y8, List.getD_cons_succ, List.getD_cons_zero, fill, slots, List.filterMap_cons, List.filterMap_nil, id, List.foldl_cons, List.foldl_nil, Act.put, List.setIfInBounds_toArray, List.set_cons_succ, List.set_cons_zero]
              go_wp2_with (go_at_call 18; (with_reducible refine HSM.out.mono ?_); rintro e wy ⟨rfl, b4⟩)
              exact ⟨_, rfl, HJ.out.plain (i := 22) (by decide) (by intro e; exact absurd e (by decide)) (by intro e; exact absurd e (by decide)) rfl b4⟩
            case o23 =>
              intro d0 ys wx hJ hdi hw hdeps
              have q22 : d0 22 = true := by simp [Region.Deps2, Go.Region.binds] at hdeps; simp [hdeps]
              have y22 : ys 74 = .bool true := hJ.1 22 (by decide) q22
              have q8 : d0 8 = true := by simp [Region.Deps2, Go.Region.binds] at hdeps; simp [hdeps]
              have y8 : ys 60 = .bool false := hJ.1 8 (by decide) q8
              simp only [y22, y8, List.getD_cons_succ, List.getD_cons_zero, fill, slots, List.filterMap_cons, List.filterMap_nil, id, List.foldl_cons, List.foldl_nil, Act.put, List.setIfInBounds_toArray, List.set_cons_succ, List.set_cons_zero]
              go_wp2_with fail
              exact ⟨_, rfl, hJ.plain (i := 23) (by decide) (by intro e; exact absurd e (by decide)) (by intro e; exact absurd e (by decide)) rfl (Below.refl _ _)⟩
            case o24 =>
              intro d0 ys wx hJ hdi hw hdeps
              have q8 : d0 8 = true := by simp [Region.Deps2, Go.Region.binds] at hdeps; simp [hdeps]
              have y8 : ys 60 = .bool false := hJ.1 8 (by decide) q8
              have q23 : d0 23 = true := by simp [Region.Deps2, Go.Region.binds] at hdeps; simp [hdeps]
              have y23 : ys 75 = .bool false := hJ.1 23 (by decide) q23
              simp only [y8, y23, List.getD_cons_succ, List.getD_cons_zero, fill, slots, List.filterMap_cons, List.filterMap_nil, id, List.foldl_cons, List.foldl_nil, Act.put, List.setIfInBounds_toArray, List.set_cons_succ, List.set_cons_zero]
              go_wp2_with fail
              exact ⟨_, rfl, hJ.plain (i := 24) (by decide) (by intro e; exact absurd e (by decide)) (by intro e; exact absurd e (by decide)) rfl (Below.refl _ _)⟩
          case done =>
            intro d0 ys wx hJ hall
            have h76 : ys 76 = .bool false := hJ.1 24 (by decide) (hall 24 (by decide))
            obtain ⟨S3, R3, t3, s3⟩ := hJ.2.2.2
            rw [hall 6 (by decide), if_pos rfl] at t3
            have T3 := Lib.hid t3
            have S3s := Lib.hid s3
            clear t3 s3 hJ hall
            simp only [h76, List.getD_cons_succ, List.getD_cons_zero, fill, slots, List.filterMap_cons, List.filterMap_nil, id, List.foldl_cons, List.foldl_nil, Act.put, List.setIfInBounds_toArray, List.set_cons_succ, List.set_cons_zero]
            go_wp2
            refine ⟨⟨i + 1, by go_num, by omega, by omega, _, S3, R3, hOK2.out, T3.out, S3s.out⟩, by simp [intOf]; omega⟩
        · have d3 : decide ((i : Int) < 60) = false := by simp; omega
          have d4 : decide (i < 60) = false := by simp; omega
          have HF := Lib.hid (HBL.out wr SAFE.out.bel)
          go_wp2
          go_ret
          exact ⟨rfl, HF.out⟩
      · have d1 : decide ((i : Int) < (L : Int)) = false := by simp; omega
        have d2 : decide (i < L) = false := by simp; omega
        have HF := Lib.hid (HBL.out wr SAFE.out.bel)
        go_wp2
        go_ret
        exact ⟨rfl, HF.out⟩
end Go.Proofs.Ytgcbdekdjdlfaaa.Flash
