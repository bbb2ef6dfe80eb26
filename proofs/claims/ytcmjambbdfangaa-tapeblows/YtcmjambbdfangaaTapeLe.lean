/-
  TapeBlows' walk.
-/
import Derived.Test.YtcmjambbdfangaaRunTapeL
import Derived.Test.YtcmjambbdfangaaRunTapeFr
set_option linter.unusedVariables false
set_option linter.unusedSimpArgs false
namespace Go.Proofs.Ytcmjambbdfangaa.Tape
open Go.RowKit
open Go.Proofs.Ytcmjambbdfangaa.Own
open CrcM (W)
open Crc (vl wd)
open Flash (newD readD fuseD Dev FHas RHas programD eraseD flushD bs list_bs)
open Chart (newC pgC Ch CHas DHas openC takeC eraseC setC)
open Go.Proofs.Ytcmjambbdfangaa.Frame (Fr fV page bytesG)
open Tup Foot Bytes
open Go.Proofs.Ytcmjambbdfangaa.Region (fill Then Deps Each wp_region_is wp_region_is_tail wp_region_each wp_region_tail slots TJ TJ2 Each2 Deps2 wp_region_each3 upd put)

set_option maxRecDepth 100000 in
set_option maxHeartbeats 32000000 in
theorem blows_any (gp gs gr : Int) (la : Option Addr) (l : List ByteArray) (lc : Nat) (nn : Int) (hll : l.length ≤ maxLen) (hsz : ∀ k, (l.getD k ⟨#[]⟩).size ≤ maxLen) (w : World) (hS : StrAt w la l) :
    Calls Try.prog 7 #[Geom.gV ⟨gp, gs, gr⟩, .slice la l.length lc, .int .i64 nn] w fun e w' => e = .returned (.bool true) ∧ Below w.heap.size w w' := by
  unfold Geom.gV
  obtain ⟨pg, hpg⟩ : ∃ n : Nat, (n : Int) = 32 + gp % 33 := ⟨(32 + gp % 33).toNat, by omega⟩
  obtain ⟨pgs, hpgs⟩ : ∃ n : Nat, (n : Int) = 3 + gs % 4 := ⟨(3 + gs % 4).toNat, by omega⟩
  obtain ⟨rgs, hrgs⟩ : ∃ n : Nat, (n : Int) = 4 + gr % 4 := ⟨(4 + gr % 4).toNat, by omega⟩
  have p0 : 32 ≤ pg := by omega
  have p1 : pg ≤ 64 := by omega
  have s0 : 3 ≤ pgs := by omega
  have s1 : pgs ≤ 6 := by omega
  have r0 : 4 ≤ rgs := by omega
  have r1 : rgs ≤ 7 := by omega
  have HG : Hid (∀ w, Calls Try.prog 8 #[.agg #[.int .i64 gp, .int .i64 gs, .int .i64 gr]] w fun e w' => e = .returned (.agg #[.int .i64 (pg : Int), .int .i64 (pgs : Int), .int .i64 (rgs : Int)]) ∧ Below w.heap.size w w') := fun w => by
    rw [hpg, hpgs, hrgs]; exact Geom.geom_any ⟨gp, gs, gr⟩ w
  have HAL := Lib.hid (fun w => alive_any w)
  have SZ := Lib.hid (show Sz pg pgs rgs from ⟨p0, by omega, s0, by omega, r0, by omega⟩)
  have HM := Lib.hid (fun w => made_any SZ.out w)
  have OK0 := Lib.hid (new_ok (pg := pg) (pgs := pgs) (rgs := rgs) p0 (by omega) s0 (by omega) r0 (by omega))
  clear hpg hpgs hrgs
  obtain ⟨sl, hsl⟩ : ∃ sl, sl = pgs - 1 := ⟨_, rfl⟩
  have HSL : Hid (∀ w, Calls Try.prog 12 #[.agg #[.int .i64 (pg : Int), .int .i64 (pgs : Int), .int .i64 (rgs : Int)]] w fun e w' => e = .returned (.int .i64 (sl : Int)) ∧ Below w.heap.size w w') := fun w => by
    have := Geom.refSlots_any ⟨pg, pgs, rgs⟩ ⟨by simp only; omega, by simp only; omega, by simp only; omega, by simp only; omega, by simp only; omega, by simp only; omega⟩ w
    rw [show Geom.slotsG ⟨pg, pgs, rgs⟩ = (sl : Int) by unfold Geom.slotsG; simp only; omega] at this
    exact this
  obtain ⟨NF, hNF⟩ : ∃ NF, NF = 2 * sl := ⟨_, rfl⟩
  have hNF3 : NF ≤ 10 := by omega
  have hmul : 2 * (sl : Int) = (NF : Int) := by omega
  have HSLP := Lib.hid hsl
  have HNF := Lib.hid hNF
  have hsl2 : 2 ≤ sl := by omega
  have hsl5 : sl ≤ 5 := by omega
  obtain ⟨XX, hXX⟩ : ∃ XX, XX = framesTo pg l (min l.length NF) := ⟨_, rfl⟩
  obtain ⟨NX, hNX⟩ : ∃ NX, XX.length = NX := ⟨_, rfl⟩
  have hNX2 : NX ≤ NF := by rw [← hNX, hXX, framesTo_len]; omega
  have HXX := Lib.hid hXX
  have HNX := Lib.hid hNX
  have hxs := fun w (hS : StrAt w la l) => frames_row SZ.out la l lc NF hll (by omega) hsz w hS
  rw [← hXX] at hxs
  have HXS := Lib.hid hxs
  have HST := Lib.hid hS
  have HXO := Lib.hid (show ∀ k, k < NX → ∃ X, XX[k]? = some X ∧ X.Ok pg ∧ X.kind = 2 by
    intro k hk
    rw [← hNX, hXX, framesTo_len] at hk
    exact ⟨_, by rw [hXX]; exact framesTo_get pg l _ k hk, frameAt_ok p0 (by omega), rfl⟩)
  have hnn1 := Int.emod_nonneg nn (show ((2 * pgs : Nat) : Int) ≠ 0 by omega)
  have hnn2 := Int.emod_lt_of_pos nn (show (0 : Int) < ((2 * pgs : Nat) : Int) by omega)
  obtain ⟨n, hn0⟩ : ∃ n : Nat, (n : Int) = nn % ((2 * pgs : Nat) : Int) := ⟨(nn % ((2 * pgs : Nat) : Int)).toNat, by omega⟩
  have hn12 : n < 12 := by omega
  clear hnn1 hnn2
  have HPK : Hid (∀ w, Calls Try.prog 26 #[.int .i64 nn, .int .i64 (2 * (pgs : Int))] w fun e w' => e = .returned (.int .i64 (n : Int)) ∧ w = w') := fun w => by
    have := Book.pick_any nn (2 * pgs) (by omega) (by omega) w
    rw [hn0, show (2 * (pgs : Int)) = ((2 * pgs : Nat) : Int) by omega]; exact this
  have hfuse := fun w P p q t r p' q' F G (h : Pair w P p q t r p' q' (newT pg pgs rgs) (newT pg pgs rgs) F G) => pFuse h OK0.out (n : Int) (by omega)
  have hft : fuseT (newT pg pgs rgs) (n : Int) = ⟨{ newD pg pgs rgs [] with fuse := some n }, newC pg pgs rgs⟩ := by
    unfold fuseT fuseD newT
    rw [if_neg (by omega), Int.toNat_natCast]
  have OKS := Lib.hid (fuse_ok OK0.out (n : Int))
  rw [hft] at hfuse OKS
  have HFU := Lib.hid hfuse
  clear hsl hNF hXX hNX hxs hS hsz hll hn0 hfuse hft
  have vf1 := (show Var (w.alloc (.cells #[.int .i64 gp, .int .i64 gs, .int .i64 gr] 23)) (w.heap.size) 23 [.int .i64 gp, .int .i64 gs, .int .i64 gr] from (Var.new w 23 [.int .i64 gp, .int .i64 gs, .int .i64 gr]))
  have c2 := vf1.cell (j := 0) rfl
  have c3 := vf1.cell (j := 1) rfl
  have c4 := vf1.cell (j := 2) rfl
  clear vf1
  go_enter Try.func7, Try.ntmps7
  go_wp2_with (first
    | (go_at_call 8; ((with_reducible refine (HG.out _).mono ?_); rintro e w2 ⟨rfl, bz⟩; obtain ⟨w1, hw1⟩ : ∃ wx, wx = (w.alloc (.cells #[.int .i64 gp, .int .i64 gs, .int .i64 gr] 23)) := ⟨_, rfl⟩; have bw1 := Lib.hid (show Below w.heap.size w w1 by rw [hw1]; exact (Geom.bel_alloc _ _)); have zw1 := Lib.hid (show w.heap.size + 1 ≤ w1.heap.size by rw [hw1]; simp); have vw1g := Lib.hid (show Var w1 (w.heap.size) 23 [.int .i64 gp, .int .i64 gs, .int .i64 gr] by rw [hw1]; exact (Var.new w 23 [.int .i64 gp, .int .i64 gs, .int .i64 gr])); have hbel : Below w1.heap.size w1 w2 := (by rw [hw1]; exact bz); clear bz; have bw2 := Lib.hid (bel2 bw1.out hbel); have zw2 := Lib.hid hbel.size; have vw2g := Lib.hid (vw1g.out.below hbel vw1g.out.lt); clear hbel; clear c2 c3 c4; have vf5 := (show Var w2 (w.heap.size) 23 [.int .i64 gp, .int .i64 gs, .int .i64 gr] from vw2g.out); have c6 := vf5.cell (j := 0) rfl; have c7 := vf5.cell (j := 1) rfl; have c8 := vf5.cell (j := 2) rfl; clear vf5; have vf9 := (show Var w2 (w.heap.size) 23 [.int .i64 gp, .int .i64 gs, .int .i64 gr] from vw2g.out); have f10 := vf9.frozen 0; have f11 := vf9.frozen 1; have f12 := vf9.frozen 2; clear vf9; have vf13 := (show Var (((w2.setCell ⟨w.heap.size, 0, none⟩ (.int .i64 (pg : Int))).setCell ⟨w.heap.size, 1, none⟩ (.int .i64 (pgs : Int))).setCell ⟨w.heap.size, 2, none⟩ (.int .i64 (rgs : Int))) (w.heap.size) 23 [.int .i64 (pg : Int), .int .i64 (pgs : Int), .int .i64 (rgs : Int)] from (((vw2g.out.set 0 (.int .i64 (pg : Int))).set 1 (.int .i64 (pgs : Int))).set 2 (.int .i64 (rgs : Int)))); have c14 := vf13.cell (j := 0) rfl; have c15 := vf13.cell (j := 1) rfl; have c16 := vf13.cell (j := 2) rfl; clear vf13))
    | (go_at_call 9; ((with_reducible refine (HM.out _).mono ?_); rintro e w4 ⟨P, p, q, t, r, p', q', F, G, rfl, hpair, bz, hfoot⟩; obtain ⟨w3, hw3⟩ : ∃ wx, wx = (((w2.setCell ⟨w.heap.size, 0, none⟩ (.int .i64 (pg : Int))).setCell ⟨w.heap.size, 1, none⟩ (.int .i64 (pgs : Int))).setCell ⟨w.heap.size, 2, none⟩ (.int .i64 (rgs : Int))) := ⟨_, rfl⟩; have bw3 := Lib.hid (show Below w.heap.size w w3 by rw [hw3]; exact (((bw2.out.setCell (p := ⟨w.heap.size, 0, none⟩) (by have := zw1.out; have := zw2.out; simp only; omega) _).setCell (p := ⟨w.heap.size, 1, none⟩) (by have := zw1.out; have := zw2.out; simp only; omega) _).setCell (p := ⟨w.heap.size, 2, none⟩) (by have := zw1.out; have := zw2.out; simp only; omega) _)); have zw3 := Lib.hid (show w2.heap.size + 0 ≤ w3.heap.size by rw [hw3]; simp); have vw3g := Lib.hid (show Var w3 (w.heap.size) 23 [.int .i64 (pg : Int), .int .i64 (pgs : Int), .int .i64 (rgs : Int)] by rw [hw3]; exact (((vw2g.out.set 0 (.int .i64 (pg : Int))).set 1 (.int .i64 (pgs : Int))).set 2 (.int .i64 (rgs : Int)))); have hbel : Below w3.heap.size w3 w4 := (by rw [hw3]; exact bz); clear bz; have bw4 := Lib.hid (bel2 bw3.out hbel); have zw4 := Lib.hid hbel.size; have vw4g := Lib.hid (vw3g.out.below hbel vw3g.out.lt); clear hbel; clear c6 c7 c8 f10 f11 f12 c14 c15 c16; rw [← hw3] at hfoot; have kH := Lib.hid hpair; have HFT := Lib.hid hfoot; clear hpair hfoot))
    | (go_at_call 10; ((with_reducible refine (HAL.out _).mono ?_); rintro e w5 ⟨rfl, bz⟩; have hbel : Below w4.heap.size w4 w5 := (by exact bz); clear bz; have bw5 := Lib.hid (bel2 bw4.out hbel); have zw5 := Lib.hid hbel.size; have vw5g := Lib.hid (vw4g.out.below hbel vw4g.out.lt); have kw5H := Lib.hid (kH.out.below hbel); clear hbel)))
  have FT0 := Lib.hid (show ∀ k, both F G k → w.heap.size ≤ k from fun k hk => by have := HFT.out k hk; have := zw1.out; have := zw2.out; have := zw3.out; have := zw4.out; have := zw5.out; omega)
  have NNg := Lib.hid (show ¬ both F G (w.heap.size) from fun hk => by have := HFT.out _ hk; have := zw1.out; have := zw2.out; have := zw3.out; have := zw4.out; have := zw5.out; omega)
  have HPREV := Lib.hid kw5H.out
  refine wp_region_each [23, 24, 25, 26, 27, 28, 8] (fun w' => Below w5.heap.size w5 w') (XV [.agg #[.int .i64 (pg : Int), .int .i64 (pgs : Int), .int .i64 (rgs : Int)], .slice la l.length lc, .agg #[.int .i64 (pg : Int), .int .i64 (pgs : Int), .int .i64 (rgs : Int)], .int .i64 (sl : Int), .int .i64 (NF : Int), undef, undef] 5 w5.heap.size XX) (by kernel_rfl) (by kernel_rfl) rfl (by decide) (by simp) (XV.mono _ _ _ _) (Below.refl _ _).drew ?eachxs ?donexs
  case eachxs =>
    simp only [Each]
    refine ⟨?o0, ?o1, ?o2, ?o3, ?o4, ?o5, ?o6, trivial⟩
    case o0 =>
      intro ys wx hBx hdeps
      clear hdeps
      have g0 := (vw5g.out.below hBx vw5g.out.lt).cell (j := 0) rfl
      have g1 := (vw5g.out.below hBx vw5g.out.lt).cell (j := 1) rfl
      have g2 := (vw5g.out.below hBx vw5g.out.lt).cell (j := 2) rfl
      simp only [fill, List.foldl_cons, List.foldl_nil, Act.put, List.setIfInBounds_toArray, List.set_cons_succ, List.set_cons_zero]
      go_wp2_with fail
      exact ⟨_, rfl, rfl, hBx, Below.refl _ _⟩
    case o1 =>
      intro ys wx hBx hdeps
      clear hdeps
      simp only [fill, List.foldl_cons, List.foldl_nil, Act.put, List.setIfInBounds_toArray, List.set_cons_succ, List.set_cons_zero]
      go_wp2_with fail
      exact ⟨_, rfl, rfl, hBx, Below.refl _ _⟩
    case o2 =>
      intro ys wx hBx hdeps
      clear hdeps
      have g0 := (vw5g.out.below hBx vw5g.out.lt).cell (j := 0) rfl
      have g1 := (vw5g.out.below hBx vw5g.out.lt).cell (j := 1) rfl
      have g2 := (vw5g.out.below hBx vw5g.out.lt).cell (j := 2) rfl
      simp only [fill, List.foldl_cons, List.foldl_nil, Act.put, List.setIfInBounds_toArray, List.set_cons_succ, List.set_cons_zero]
      go_wp2_with fail
      exact ⟨_, rfl, rfl, hBx, Below.refl _ _⟩
    case o3 =>
      intro ys wx hBx hdeps
      simp only [Deps, Region.binds, List.getD_cons_zero, List.getD_cons_succ, forall_const, and_true, true_and] at hdeps
      have y2 : ys 25 = .agg #[.int .i64 (pg : Int), .int .i64 (pgs : Int), .int .i64 (rgs : Int)] := by first | exact hdeps | exact hdeps.1 | exact hdeps.2 | exact hdeps.2.1 | exact hdeps.2.2 | exact hdeps.2.2.1 | exact hdeps.2.2.2
      clear hdeps
      simp only [y2, fill, List.foldl_cons, List.foldl_nil, Act.put, List.setIfInBounds_toArray, List.set_cons_succ, List.set_cons_zero]
      go_wp2_with (go_at_call 12; (with_reducible refine (HSL.out _).mono ?_); rintro e w3 ⟨rfl, hm⟩)
      exact ⟨_, rfl, rfl, hBx.trans (hm.mono hBx.size), hm⟩
    case o4 =>
      intro ys wx hBx hdeps
      simp only [Deps, Region.binds, List.getD_cons_zero, List.getD_cons_succ, forall_const, and_true, true_and] at hdeps
      have y3 : ys 26 = .int .i64 (sl : Int) := by first | exact hdeps | exact hdeps.1 | exact hdeps.2 | exact hdeps.2.1 | exact hdeps.2.2 | exact hdeps.2.2.1 | exact hdeps.2.2.2
      clear hdeps
      simp only [y3, fill, List.foldl_cons, List.foldl_nil, Act.put, List.setIfInBounds_toArray, List.set_cons_succ, List.set_cons_zero]
      go_wp2_with fail
      exact ⟨_, rfl, rfl, hBx, Below.refl _ _⟩
    case o5 =>
      intro ys wx hBx hdeps
      simp only [Deps, Region.binds, List.getD_cons_zero, List.getD_cons_succ, forall_const, and_true, true_and] at hdeps
      have y0 : ys 23 = .agg #[.int .i64 (pg : Int), .int .i64 (pgs : Int), .int .i64 (rgs : Int)] := by first | exact hdeps | exact hdeps.1 | exact hdeps.2 | exact hdeps.2.1 | exact hdeps.2.2 | exact hdeps.2.2.1 | exact hdeps.2.2.2
      have y1 : ys 24 = .slice la l.length lc := by first | exact hdeps | exact hdeps.1 | exact hdeps.2 | exact hdeps.2.1 | exact hdeps.2.2 | exact hdeps.2.2.1 | exact hdeps.2.2.2
      have y4 : ys 27 = .int .i64 (NF : Int) := by first | exact hdeps | exact hdeps.1 | exact hdeps.2 | exact hdeps.2.1 | exact hdeps.2.2 | exact hdeps.2.2.1 | exact hdeps.2.2.2
      clear hdeps
      simp only [y0, y1, y4, fill, List.foldl_cons, List.foldl_nil, Act.put, List.setIfInBounds_toArray, List.set_cons_succ, List.set_cons_zero]
      go_wp2_with (go_at_call 11; (with_reducible refine (HXS.out _ (HST.out.below (bw5.out.trans (hBx.mono bw5.out.size)))).mono ?_); rintro e w3 ⟨a, c, rfl, hrow, hpl, hm⟩)
      exact ⟨_, rfl, ⟨a, c, rfl, hrow, fun b off e => ⟨Nat.le_trans hBx.size (hpl b off e).1, (hpl b off e).2⟩⟩, hBx.trans (hm.mono hBx.size), hm⟩
    case o6 =>
      intro ys wx hBx hdeps
      simp only [Deps, Region.binds, List.getD_cons_zero, List.getD_cons_succ, forall_const, and_true, true_and] at hdeps
      have zz : ∃ a c, ys 28 = .slice a XX.length c ∧ FAt wx a XX ∧ ∀ b off, a = some ⟨b, off, none⟩ → w5.heap.size ≤ b ∧ b < wx.heap.size := by first | exact hdeps | exact hdeps.1 | exact hdeps.2 | exact hdeps.2.1 | exact hdeps.2.2 | exact hdeps.2.2.1 | exact hdeps.2.2.2
      clear hdeps
      with_reducible refine Exists.elim zz ?_
      intro a zz
      with_reducible refine Exists.elim zz ?_
      intro c zz
      have yy := zz.1
      have ZZ := Lib.hid zz.2
      clear zz
      simp only [yy, fill, List.foldl_cons, List.foldl_nil, Act.put, List.setIfInBounds_toArray, List.set_cons_succ, List.set_cons_zero]
      go_wp2_with fail
      exact ⟨_, rfl, ⟨a, c, rfl, ZZ.out⟩, hBx, Below.refl _ _⟩
  case donexs =>
    intro ys wx hBx hV
    have hx : ∃ a c, ys 8 = .slice a XX.length c ∧ FAt wx a XX ∧ ∀ b off, a = some ⟨b, off, none⟩ → w5.heap.size ≤ b ∧ b < wx.heap.size := hV 6 (by decide)
    with_reducible refine Exists.elim hx ?_
    intro a hx
    with_reducible refine Exists.elim hx ?_
    intro c hx
    have yx := hx.1
    have HXR := Lib.hid hx.2.1
    have HXP := Lib.hid hx.2.2
    clear hx
    obtain ⟨wxs, hwxs⟩ : ∃ wy, wy = wx := ⟨_, rfl⟩
    rw [← hwxs] at hBx HXR HXP ⊢
    have bwxs := Lib.hid (bel2 bw5.out hBx)
    have zwxs := Lib.hid hBx.size
    have vwxsg := Lib.hid (vw5g.out.below hBx vw5g.out.lt)
    have kwxsH := Lib.hid (kw5H.out.below hBx)
    have HXN := Lib.hid (show RowKept wxs a XX (both F G) from ⟨HXR.out, fun b off e => ⟨fun hk => by have h1 := (HXP.out b off e).1; have h2 := HPREV.out.lt _ hk; omega, (HXP.out b off e).2⟩⟩)
    clear hBx hV hwxs HXR HXP
    simp only [yx, fill, List.drop_succ_cons, List.drop_zero, List.foldl_cons, List.foldl_nil, Act.put, List.setIfInBounds_toArray, List.set_cons_succ, List.set_cons_zero]
    clear yx
    have vf17 := (show Var wxs (w.heap.size) 23 [.int .i64 (pg : Int), .int .i64 (pgs : Int), .int .i64 (rgs : Int)] from vwxsg.out)
    have c18 := vf17.cell (j := 0) rfl
    have c19 := vf17.cell (j := 1) rfl
    have c20 := vf17.cell (j := 2) rfl
    clear vf17
    have pp0 := kwxsH.out.var.cell (j := 0) rfl
    unfold ptr at pp0
    rw [HNX.out]
    go_wp2_with (first
      | (go_at_call 26; ((with_reducible refine (HPK.out _).mono ?_); rintro e wsame ⟨rfl, rfl⟩))
      | (go_at_call 27; ((with_reducible refine (HFU.out _ _ _ _ _ _ _ _ _ _ kwxsH.out).mono ?_); rintro e wt5 ⟨rfl, F2, hpx, hax⟩; have ht5 := Lib.hid hpx; have at5 := Lib.hid hax; clear hpx hax; have vwt6g := Lib.hid (at5.out.grows.var vwxsg.out NNg.out); have nnt6g := Lib.hid (not_after at5.out NNg.out vwxsg.out.lt); have kkt6R := Lib.hid (HXN.out.after at5.out); have bwt6 := Lib.hid (bwxs.out.trans (at5.out.grows.below bwxs.out.size FT0.out)); have ftt6 := Lib.hid (at5.out.beyond bwxs.out.size FT0.out); have zwt6 := Lib.hid at5.out.grows.size; clear c18 c19 c20 pp0)))
    have KG := Lib.hid (show Kept wt5 w.heap.size 23 [.int .i64 (pg : Int), .int .i64 (pgs : Int), .int .i64 (rgs : Int)] (both F2 G) from ⟨vwt6g.out, nnt6g.out⟩)
    have KB := Lib.hid bwt6.out
    have KFT := Lib.hid ftt6.out
    go_loopw [9] (fun v wr => ∃ (i : Nat) (tp : Tp) (F' : Nat → Prop), v = .int .i64 (i : Int) ∧ i ≤ NX ∧ At pg pgs rgs tp i (some n) ∧ tp.Ok ∧ tp.d.down = false ∧ Pair wr P p q t r p' q' tp (newT pg pgs rgs) F' G ∧ Kept wr w.heap.size 23 [.int .i64 (pg : Int), .int .i64 (pgs : Int), .int .i64 (rgs : Int)] (both F' G) ∧ RowKept wr a XX (both F' G) ∧ Below w.heap.size w wr ∧ ∀ k, both F' G k → w.heap.size ≤ k) (fun v _ => NX - (intOf v).toNat)
    case atStart => exact ⟨0, _, F2, rfl, Nat.zero_le _, at_new (some n), OKS.out, rfl, ht5.out, KG.out, kkt6R.out, KB.out, KFT.out⟩
    case round =>
      obtain ⟨i, tp, FL, rfl, hi, hat, hok, hdown, hpair, hkg, hrk, hbel, hft⟩ := hrel
      have HAT := Lib.hid hat
      have HOK := Lib.hid hok
      have HDN := Lib.hid hdown
      have HP := Lib.hid hpair
      have VG := Lib.hid hkg.var
      have NG := Lib.hid hkg.no
      have RK := Lib.hid hrk
      have BL := Lib.hid hbel
      have FTL := Lib.hid hft
      clear hat hok hpair hkg hrk hbel hft hdown
      by_cases hlt : i < NX
      · have d1 : decide ((i : Int) < (NX : Int)) = true := by simp; omega
        have d2 : decide (i < NX) = true := by simp; omega
        have hil : i < rgs * (pgs - 1) := by
          have h4 : 4 * sl ≤ rgs * sl := Nat.mul_le_mul_right _ r0
          rw [← HSLP.out]
          have := HNF.out
          omega
        obtain ⟨X, hX, okX, hk2⟩ := HXO.out i hlt
        have hq1 := tdiv_nat i sl
        have hDb : i / sl ≤ 10 := Nat.le_trans (Nat.div_le_self _ _) (by omega)
        have hgo := append_goes SZ.out HAT.out hil okX
        have hbl := fun hn => append_blows SZ.out HAT.out hil okX hn
        rw [← HSLP.out] at hgo hbl
        generalize i / sl = D at hgo hbl hq1 hDb
        generalize i % sl = M at hgo
        have hXL : X.body.length ≤ maxLen := by have := okX.fits; unfold maxLen; omega
        have hap := fun w F' (h : Pair w P p q t r p' q' tp (newT pg pgs rgs) F' G) => pAppend h HOK.out X hXL
        have okA := append_ok HOK.out X
        obtain ⟨rb, roff, hra, hrb, hr0, hr1, hr2, hr3⟩ := FAt.get RK.out.row hX
        have RN := Lib.hid (RK.out.no rb roff hra).1
        obtain ⟨A1, hA1⟩ : ∃ A1, A1 = (appendT tp X).1.1 := ⟨_, rfl⟩
        obtain ⟨kd, xa, xb, bd⟩ := X
        simp only at hk2
        subst hk2
        obtain ⟨va, hva⟩ : ∃ va, va = vl xa := ⟨_, rfl⟩
        obtain ⟨vb, hvb⟩ : ∃ vb, vb = vl xb := ⟨_, rfl⟩
        obtain ⟨BD, hBD⟩ : ∃ BD, BD = bs bd := ⟨_, rfl⟩
        simp only at hr0 hr1 hr2 hr3
        unfold fV at hap
        simp only at hap
        rw [← hva] at hap hr1
        rw [← hvb] at hap hr2
        rw [← hBD] at hap hr3
        rw [← hA1] at hap
        have HR0 := Lib.hid hr0
        have HR1 := Lib.hid hr1
        have HR2 := Lib.hid hr2
        have HR3 := Lib.hid hr3
        have HRB := Lib.hid hrb
        subst hra
        have zs : ((sl : Int) == 0) = false := by simp; omega
        by_cases hcn : i + 1 + D + 1 ≤ n
        · obtain ⟨t2, ea, hat2, _, _, hdn⟩ := hgo (fun n' hn' => by cases hn'; exact hcn)
          rw [ea] at hap okA
          have HAP := Lib.hid hap
          have OK2 := Lib.hid okA
          have HAT2 := Lib.hid hat2
          have HDN2 := Lib.hid hdn
          have c1 : decide ((i : Int) + 1 + (D : Int) + 1 ≤ (n : Int)) = true := by simp; omega
          have c2 : decide ((i : Int) + 1 + (D : Int) + 1 > (n : Int)) = false := by simp; omega
          have c3 : decide ((n : Int) < (i : Int) + 1 + (D : Int) + 1) = false := by simp; omega
          clear hap okA hat2 hdn ea hgo hbl hX okX hXL hil hva hvb hBD hA1 hr0 hr1 hr2 hr3 hrb hcn
          go_wp2
          refine wp_region_each3 [some 47, some 48, some 49, some 50, some 51, some 52, some 53, some 54, some 55, some 46, some 56, some 57, some 10, some 11] (TJ [47, 48, 49, 50, 51, 52, 53, 54, 55, 46, 56, 57, 10, 11] [.pointer (some ⟨P, 0, none⟩), .pointer (some ⟨P, 0, none⟩), .pointer (some ⟨P, 2, none⟩), .pointer (some ⟨t, 0, none⟩), .slice (some ⟨rb, roff, none⟩) NX c, .int .i64 (i : Int), .pointer (some ⟨rb, roff + i * 4, none⟩), .agg #[.int .i64 2, .int .u32 va, .int .u32 vb, .string BD], .tuple #[.int .i64 (A1 : Int), .int .i64 0], .tuple #[.int .i64 (A1 : Int), .int .i64 0], .int .i64 (A1 : Int), .int .i64 0, .int .i64 (A1 : Int), .int .i64 0] 8 (fun wx => Grows (both FL G) wr wx) (fun wx => Below wr.heap.size wr wx) (fun wx => ∃ F2, Pair wx P p q t r p' q' t2 (newT pg pgs rgs) F2 G ∧ After (both FL G) wr wx (both F2 G))) (by kernel_rfl) (by kernel_rfl) (by simp [slots]) ?starta ?eacha ?donea
          case starta => exact ⟨by simp, Grows.of_below ((Below.refl _ _).drew), fun _ => (Below.refl _ _).drew, by simp⟩
          case eacha =>
            simp only [Each2]
            refine ⟨?o0, ?o1, ?o2, ?o3, ?o4, ?o5, ?o6, ?o7, ?o8, ?o9, ?o10, ?o11, ?o12, ?o13, trivial⟩
            case o0 =>
              intro d0 ys wx hJ hdi hw hdeps
              clear hdeps
              have HJ := Lib.hid hJ
              clear hJ hw
              simp only [List.getD_cons_succ, List.getD_cons_zero, fill, slots, List.filterMap_cons, List.filterMap_nil, id, List.foldl_cons, List.foldl_nil, Act.put, List.setIfInBounds_toArray, List.set_cons_succ, List.set_cons_zero]
              go_wp2_with fail
              exact ⟨_, rfl, HJ.out.plain (i := 0) (by decide) (by decide) (by decide) rfl (HJ.out.com.trans (S' := fun _ => False) (Grows.of_below (Below.refl _ _)) (fun _ h => h.elim)) (fun h => h.trans (Below.mono (Below.refl _ _) h.size)) (fun h => h.elim fun F2 hh => ⟨F2, hh.1.below (Below.refl _ _), hh.2.trans ⟨Grows.of_below (Below.refl _ _), fun _ h => .inl h⟩⟩)⟩
            case o1 =>
              intro d0 ys wx hJ hdi hw hdeps
              have q0 : d0 0 = true := by simp [Region.Deps2, Go.Region.binds] at hdeps; simp [hdeps]
              have y0 : ys 47 = .pointer (some ⟨P, 0, none⟩) := hJ.val 0 (by decide) q0
              clear hdeps
              have HJ := Lib.hid hJ
              clear hJ hw
              simp only [y0, List.getD_cons_succ, List.getD_cons_zero, fill, slots, List.filterMap_cons, List.filterMap_nil, id, List.foldl_cons, List.foldl_nil, Act.put, List.setIfInBounds_toArray, List.set_cons_succ, List.set_cons_zero]
              go_wp2_with fail
              exact ⟨_, rfl, HJ.out.plain (i := 1) (by decide) (by decide) (by decide) rfl (HJ.out.com.trans (S' := fun _ => False) (Grows.of_below (Below.refl _ _)) (fun _ h => h.elim)) (fun h => h.trans (Below.mono (Below.refl _ _) h.size)) (fun h => h.elim fun F2 hh => ⟨F2, hh.1.below (Below.refl _ _), hh.2.trans ⟨Grows.of_below (Below.refl _ _), fun _ h => .inl h⟩⟩)⟩
            case o2 =>
              intro d0 ys wx hJ hdi hw hdeps
              have q1 : d0 1 = true := by simp [Region.Deps2, Go.Region.binds] at hdeps; simp [hdeps]
              have y1 : ys 48 = .pointer (some ⟨P, 0, none⟩) := hJ.val 1 (by decide) q1
              clear hdeps
              have HJ := Lib.hid hJ
              clear hJ hw
              simp only [y1, List.getD_cons_succ, List.getD_cons_zero, fill, slots, List.filterMap_cons, List.filterMap_nil, id, List.foldl_cons, List.foldl_nil, Act.put, List.setIfInBounds_toArray, List.set_cons_succ, List.set_cons_zero]
              go_wp2_with fail
              exact ⟨_, rfl, HJ.out.plain (i := 2) (by decide) (by decide) (by decide) rfl (HJ.out.com.trans (S' := fun _ => False) (Grows.of_below (Below.refl _ _)) (fun _ h => h.elim)) (fun h => h.trans (Below.mono (Below.refl _ _) h.size)) (fun h => h.elim fun F2 hh => ⟨F2, hh.1.below (Below.refl _ _), hh.2.trans ⟨Grows.of_below (Below.refl _ _), fun _ h => .inl h⟩⟩)⟩
            case o3 =>
              intro d0 ys wx hJ hdi hw hdeps
              have q2 : d0 2 = true := by simp [Region.Deps2, Go.Region.binds] at hdeps; simp [hdeps]
              have y2 : ys 49 = .pointer (some ⟨P, 2, none⟩) := hJ.val 2 (by decide) q2
              clear hdeps
              have hC := Lib.hid hJ.com
              have vP := hC.out.var HP.out.var (fun h => h.elim HP.out.nF HP.out.nG)
              have p0 := vP.cell (j := 0) rfl
              have p1 := vP.cell (j := 1) rfl
              have p2 := vP.cell (j := 2) rfl
              have p3 := vP.cell (j := 3) rfl
              unfold ptr at p0 p1 p2 p3
              clear vP
              have vX := hC.out.var VG.out NG.out
              have g0 := vX.cell (j := 0) rfl
              have g1 := vX.cell (j := 1) rfl
              have g2 := vX.cell (j := 2) rfl
              clear vX
              have r0 : wx.cell? ⟨rb, roff + i * 4, none⟩ = some (.int .i64 2) := hC.out.cell (p := ⟨rb, roff + i * 4, none⟩) HR0.out RN.out
              have r1 : wx.cell? ⟨rb, roff + i * 4 + 1, none⟩ = some (.int .u32 va) := hC.out.cell (p := ⟨rb, roff + i * 4 + 1, none⟩) HR1.out RN.out
              have r2 : wx.cell? ⟨rb, roff + i * 4 + 2, none⟩ = some (.int .u32 vb) := hC.out.cell (p := ⟨rb, roff + i * 4 + 2, none⟩) HR2.out RN.out
              have r3 : wx.cell? ⟨rb, roff + i * 4 + 3, none⟩ = some (.string BD) := hC.out.cell (p := ⟨rb, roff + i * 4 + 3, none⟩) HR3.out RN.out
              have HJ := Lib.hid hJ
              clear hJ hw
              simp only [y2, List.getD_cons_succ, List.getD_cons_zero, fill, slots, List.filterMap_cons, List.filterMap_nil, id, List.foldl_cons, List.foldl_nil, Act.put, List.setIfInBounds_toArray, List.set_cons_succ, List.set_cons_zero]
              go_wp2_with fail
              exact ⟨_, rfl, HJ.out.plain (i := 3) (by decide) (by decide) (by decide) rfl (HJ.out.com.trans (S' := fun _ => False) (Grows.of_below (Below.refl _ _)) (fun _ h => h.elim)) (fun h => h.trans (Below.mono (Below.refl _ _) h.size)) (fun h => h.elim fun F2 hh => ⟨F2, hh.1.below (Below.refl _ _), hh.2.trans ⟨Grows.of_below (Below.refl _ _), fun _ h => .inl h⟩⟩)⟩
            case o4 =>
              intro d0 ys wx hJ hdi hw hdeps
              clear hdeps
              have HJ := Lib.hid hJ
              clear hJ hw
              simp only [List.getD_cons_succ, List.getD_cons_zero, fill, slots, List.filterMap_cons, List.filterMap_nil, id, List.foldl_cons, List.foldl_nil, Act.put, List.setIfInBounds_toArray, List.set_cons_succ, List.set_cons_zero]
              go_wp2_with fail
              exact ⟨_, rfl, HJ.out.plain (i := 4) (by decide) (by decide) (by decide) rfl (HJ.out.com.trans (S' := fun _ => False) (Grows.of_below (Below.refl _ _)) (fun _ h => h.elim)) (fun h => h.trans (Below.mono (Below.refl _ _) h.size)) (fun h => h.elim fun F2 hh => ⟨F2, hh.1.below (Below.refl _ _), hh.2.trans ⟨Grows.of_below (Below.refl _ _), fun _ h => .inl h⟩⟩)⟩
            case o5 =>
              intro d0 ys wx hJ hdi hw hdeps
              clear hdeps
              have HJ := Lib.hid hJ
              clear hJ hw
              simp only [List.getD_cons_succ, List.getD_cons_zero, fill, slots, List.filterMap_cons, List.filterMap_nil, id, List.foldl_cons, List.foldl_nil, Act.put, List.setIfInBounds_toArray, List.set_cons_succ, List.set_cons_zero]
              go_wp2_with fail
              exact ⟨_, rfl, HJ.out.plain (i := 5) (by decide) (by decide) (by decide) rfl (HJ.out.com.trans (S' := fun _ => False) (Grows.of_below (Below.refl _ _)) (fun _ h => h.elim)) (fun h => h.trans (Below.mono (Below.refl _ _) h.size)) (fun h => h.elim fun F2 hh => ⟨F2, hh.1.below (Below.refl _ _), hh.2.trans ⟨Grows.of_below (Below.refl _ _), fun _ h => .inl h⟩⟩)⟩
            case o6 =>
              intro d0 ys wx hJ hdi hw hdeps
              have q4 : d0 4 = true := by simp [Region.Deps2, Go.Region.binds] at hdeps; simp [hdeps]
              have y4 : ys 51 = .slice (some ⟨rb, roff, none⟩) NX c := hJ.val 4 (by decide) q4
              have q5 : d0 5 = true := by simp [Region.Deps2, Go.Region.binds] at hdeps; simp [hdeps]
              have y5 : ys 52 = .int .i64 (i : Int) := hJ.val 5 (by decide) q5
              clear hdeps
              have HJ := Lib.hid hJ
              clear hJ hw
              simp only [y4, y5, List.getD_cons_succ, List.getD_cons_zero, fill, slots, List.filterMap_cons, List.filterMap_nil, id, List.foldl_cons, List.foldl_nil, Act.put, List.setIfInBounds_toArray, List.set_cons_succ, List.set_cons_zero]
              go_wp2_with fail
              exact ⟨_, rfl, HJ.out.plain (i := 6) (by decide) (by decide) (by decide) rfl (HJ.out.com.trans (S' := fun _ => False) (Grows.of_below (Below.refl _ _)) (fun _ h => h.elim)) (fun h => h.trans (Below.mono (Below.refl _ _) h.size)) (fun h => h.elim fun F2 hh => ⟨F2, hh.1.below (Below.refl _ _), hh.2.trans ⟨Grows.of_below (Below.refl _ _), fun _ h => .inl h⟩⟩)⟩
            case o7 =>
              intro d0 ys wx hJ hdi hw hdeps
              have q6 : d0 6 = true := by simp [Region.Deps2, Go.Region.binds] at hdeps; simp [hdeps]
              have y6 : ys 53 = .pointer (some ⟨rb, roff + i * 4, none⟩) := hJ.val 6 (by decide) q6
              clear hdeps
              have hC := Lib.hid hJ.com
              have vP := hC.out.var HP.out.var (fun h => h.elim HP.out.nF HP.out.nG)
              have p0 := vP.cell (j := 0) rfl
              have p1 := vP.cell (j := 1) rfl
              have p2 := vP.cell (j := 2) rfl
              have p3 := vP.cell (j := 3) rfl
              unfold ptr at p0 p1 p2 p3
              clear vP
              have vX := hC.out.var VG.out NG.out
              have g0 := vX.cell (j := 0) rfl
              have g1 := vX.cell (j := 1) rfl
              have g2 := vX.cell (j := 2) rfl
              clear vX
              have r0 : wx.cell? ⟨rb, roff + i * 4, none⟩ = some (.int .i64 2) := hC.out.cell (p := ⟨rb, roff + i * 4, none⟩) HR0.out RN.out
              have r1 : wx.cell? ⟨rb, roff + i * 4 + 1, none⟩ = some (.int .u32 va) := hC.out.cell (p := ⟨rb, roff + i * 4 + 1, none⟩) HR1.out RN.out
              have r2 : wx.cell? ⟨rb, roff + i * 4 + 2, none⟩ = some (.int .u32 vb) := hC.out.cell (p := ⟨rb, roff + i * 4 + 2, none⟩) HR2.out RN.out
              have r3 : wx.cell? ⟨rb, roff + i * 4 + 3, none⟩ = some (.string BD) := hC.out.cell (p := ⟨rb, roff + i * 4 + 3, none⟩) HR3.out RN.out
              have HJ := Lib.hid hJ
              clear hJ hw
              simp only [y6, List.getD_cons_succ, List.getD_cons_zero, fill, slots, List.filterMap_cons, List.filterMap_nil, id, List.foldl_cons, List.foldl_nil, Act.put, List.setIfInBounds_toArray, List.set_cons_succ, List.set_cons_zero]
              go_wp2_with fail
              exact ⟨_, rfl, HJ.out.plain (i := 7) (by decide) (by decide) (by decide) rfl (HJ.out.com.trans (S' := fun _ => False) (Grows.of_below (Below.refl _ _)) (fun _ h => h.elim)) (fun h => h.trans (Below.mono (Below.refl _ _) h.size)) (fun h => h.elim fun F2 hh => ⟨F2, hh.1.below (Below.refl _ _), hh.2.trans ⟨Grows.of_below (Below.refl _ _), fun _ h => .inl h⟩⟩)⟩
            case o8 =>
              intro d0 ys wx hJ hdi hw hdeps
              have q3 : d0 3 = true := by simp [Region.Deps2, Go.Region.binds] at hdeps; simp [hdeps]
              have y3 : ys 50 = .pointer (some ⟨t, 0, none⟩) := hJ.val 3 (by decide) q3
              have q7 : d0 7 = true := by simp [Region.Deps2, Go.Region.binds] at hdeps; simp [hdeps]
              have y7 : ys 54 = .agg #[.int .i64 2, .int .u32 va, .int .u32 vb, .string BD] := hJ.val 7 (by decide) q7
              clear hdeps
              have hC := Lib.hid hJ.com
              have hB := Lib.hid (hJ.m0 hdi)
              have HJ := Lib.hid hJ
              clear hJ hw
              simp only [y3, y7, List.getD_cons_succ, List.getD_cons_zero, fill, slots, List.filterMap_cons, List.filterMap_nil, id, List.foldl_cons, List.foldl_nil, Act.put, List.setIfInBounds_toArray, List.set_cons_succ, List.set_cons_zero]
              go_wp2_with (go_at_call 13; (with_reducible refine (HAP.out _ _ (HP.out.below hB.out)).mono ?_); rintro e wy ⟨rfl, Fy, hy, ay⟩)
              exact ⟨_, rfl, HJ.out.turn (by decide) (by decide) rfl (hC.out.trans (S' := both FL G) ay.grows (fun _ h => .inl h)) ⟨Fy, hy, After.trans (S1 := both FL G) ⟨Grows.of_below hB.out, fun _ h => .inl h⟩ ay⟩⟩
            case o9 =>
              intro d0 ys wx hJ hdi hw hdeps
              have q8 : d0 8 = true := by simp [Region.Deps2, Go.Region.binds] at hdeps; simp [hdeps]
              have y8 : ys 55 = .tuple #[.int .i64 (A1 : Int), .int .i64 0] := hJ.val 8 (by decide) q8
              clear hdeps
              have HJ := Lib.hid hJ
              clear hJ hw
              simp only [y8, List.getD_cons_succ, List.getD_cons_zero, fill, slots, List.filterMap_cons, List.filterMap_nil, id, List.foldl_cons, List.foldl_nil, Act.put, List.setIfInBounds_toArray, List.set_cons_succ, List.set_cons_zero]
              go_wp2_with fail
              exact ⟨_, rfl, HJ.out.plain (i := 9) (by decide) (by decide) (by decide) rfl (HJ.out.com.trans (S' := fun _ => False) (Grows.of_below (Below.refl _ _)) (fun _ h => h.elim)) (fun h => h.trans (Below.mono (Below.refl _ _) h.size)) (fun h => h.elim fun F2 hh => ⟨F2, hh.1.below (Below.refl _ _), hh.2.trans ⟨Grows.of_below (Below.refl _ _), fun _ h => .inl h⟩⟩)⟩
            case o10 =>
              intro d0 ys wx hJ hdi hw hdeps
              have q9 : d0 9 = true := by simp [Region.Deps2, Go.Region.binds] at hdeps; simp [hdeps]
              have y9 : ys 46 = .tuple #[.int .i64 (A1 : Int), .int .i64 0] := hJ.val 9 (by decide) q9
              clear hdeps
              have HJ := Lib.hid hJ
              clear hJ hw
              simp only [y9, List.getD_cons_succ, List.getD_cons_zero, fill, slots, List.filterMap_cons, List.filterMap_nil, id, List.foldl_cons, List.foldl_nil, Act.put, List.setIfInBounds_toArray, List.set_cons_succ, List.set_cons_zero]
              go_wp2_with fail
              exact ⟨_, rfl, HJ.out.plain (i := 10) (by decide) (by decide) (by decide) rfl (HJ.out.com.trans (S' := fun _ => False) (Grows.of_below (Below.refl _ _)) (fun _ h => h.elim)) (fun h => h.trans (Below.mono (Below.refl _ _) h.size)) (fun h => h.elim fun F2 hh => ⟨F2, hh.1.below (Below.refl _ _), hh.2.trans ⟨Grows.of_below (Below.refl _ _), fun _ h => .inl h⟩⟩)⟩
            case o11 =>
              intro d0 ys wx hJ hdi hw hdeps
              have q9 : d0 9 = true := by simp [Region.Deps2, Go.Region.binds] at hdeps; simp [hdeps]
              have y9 : ys 46 = .tuple #[.int .i64 (A1 : Int), .int .i64 0] := hJ.val 9 (by decide) q9
              clear hdeps
              have HJ := Lib.hid hJ
              clear hJ hw
              simp only [y9, List.getD_cons_succ, List.getD_cons_zero, fill, slots, List.filterMap_cons, List.filterMap_nil, id, List.foldl_cons, List.foldl_nil, Act.put, List.setIfInBounds_toArray, List.set_cons_succ, List.set_cons_zero]
              go_wp2_with fail
              exact ⟨_, rfl, HJ.out.plain (i := 11) (by decide) (by decide) (by decide) rfl (HJ.out.com.trans (S' := fun _ => False) (Grows.of_below (Below.refl _ _)) (fun _ h => h.elim)) (fun h => h.trans (Below.mono (Below.refl _ _) h.size)) (fun h => h.elim fun F2 hh => ⟨F2, hh.1.below (Below.refl _ _), hh.2.trans ⟨Grows.of_below (Below.refl _ _), fun _ h => .inl h⟩⟩)⟩
            case o12 =>
              intro d0 ys wx hJ hdi hw hdeps
              have q10 : d0 10 = true := by simp [Region.Deps2, Go.Region.binds] at hdeps; simp [hdeps]
              have y10 : ys 56 = .int .i64 (A1 : Int) := hJ.val 10 (by decide) q10
              clear hdeps
              have HJ := Lib.hid hJ
              clear hJ hw
              simp only [y10, List.getD_cons_succ, List.getD_cons_zero, fill, slots, List.filterMap_cons, List.filterMap_nil, id, List.foldl_cons, List.foldl_nil, Act.put, List.setIfInBounds_toArray, List.set_cons_succ, List.set_cons_zero]
              go_wp2_with fail
              exact ⟨_, rfl, HJ.out.plain (i := 12) (by decide) (by decide) (by decide) rfl (HJ.out.com.trans (S' := fun _ => False) (Grows.of_below (Below.refl _ _)) (fun _ h => h.elim)) (fun h => h.trans (Below.mono (Below.refl _ _) h.size)) (fun h => h.elim fun F2 hh => ⟨F2, hh.1.below (Below.refl _ _), hh.2.trans ⟨Grows.of_below (Below.refl _ _), fun _ h => .inl h⟩⟩)⟩
            case o13 =>
              intro d0 ys wx hJ hdi hw hdeps
              have q11 : d0 11 = true := by simp [Region.Deps2, Go.Region.binds] at hdeps; simp [hdeps]
              have y11 : ys 57 = .int .i64 0 := hJ.val 11 (by decide) q11
              clear hdeps
              have HJ := Lib.hid hJ
              clear hJ hw
              simp only [y11, List.getD_cons_succ, List.getD_cons_zero, fill, slots, List.filterMap_cons, List.filterMap_nil, id, List.foldl_cons, List.foldl_nil, Act.put, List.setIfInBounds_toArray, List.set_cons_succ, List.set_cons_zero]
              go_wp2_with fail
              exact ⟨_, rfl, HJ.out.plain (i := 13) (by decide) (by decide) (by decide) rfl (HJ.out.com.trans (S' := fun _ => False) (Grows.of_below (Below.refl _ _)) (fun _ h => h.elim)) (fun h => h.trans (Below.mono (Below.refl _ _) h.size)) (fun h => h.elim fun F2 hh => ⟨F2, hh.1.below (Below.refl _ _), hh.2.trans ⟨Grows.of_below (Below.refl _ _), fun _ h => .inl h⟩⟩)⟩
          case donea =>
            intro d0 ys wx hJ hall
            have hM : ∃ F2, Pair wx P p q t r p' q' t2 (newT pg pgs rgs) F2 G ∧ After (both FL G) wr wx (both F2 G) := hJ.m1 (hall 8 (by decide))
            have h10 : ys 10 = .int .i64 (A1 : Int) := hJ.val 12 (by decide) (hall 12 (by decide))
            have h11 : ys 11 = .int .i64 0 := hJ.val 13 (by decide) (hall 13 (by decide))
            clear hJ hall
            simp only [h10, h11, List.getD_cons_succ, List.getD_cons_zero, fill, slots, List.filterMap_cons, List.filterMap_nil, id, List.foldl_cons, List.foldl_nil, Act.put, List.setIfInBounds_toArray, List.set_cons_succ, List.set_cons_zero]
            with_reducible refine Exists.elim hM ?_
            intro F2 hMM
            have ht0 := Lib.hid hMM.1
            have at0 := Lib.hid hMM.2
            clear hM hMM
            obtain ⟨wt0, hwt0⟩ : ∃ wy, wy = wx := ⟨_, rfl⟩
            rw [← hwt0] at ht0 at0 ⊢
            clear hwt0
            have vwAt1g := Lib.hid (at0.out.grows.var VG.out NG.out)
            have nnAt1g := Lib.hid (not_after at0.out NG.out VG.out.lt)
            have kkAt1R := Lib.hid (RK.out.after at0.out)
            have bwAt1 := Lib.hid (BL.out.trans (at0.out.grows.below BL.out.size FTL.out))
            have ftAt1 := Lib.hid (at0.out.beyond BL.out.size FTL.out)
            have zwAt1 := Lib.hid at0.out.grows.size
            have vAf1 := (show Var wt0 (w.heap.size) 23 [.int .i64 (pg : Int), .int .i64 (pgs : Int), .int .i64 (rgs : Int)] from vwAt1g.out)
            have cA2 := vAf1.cell (j := 0) rfl
            have cA3 := vAf1.cell (j := 1) rfl
            have cA4 := vAf1.cell (j := 2) rfl
            clear vAf1
            have pp0 := ht0.out.var.cell (j := 0) rfl
            unfold ptr at pp0
            go_wp2_with (first
        | (go_at_call 12; ((with_reducible refine (HSL.out _).mono ?_); rintro e wA2 ⟨rfl, bz⟩; have hbel : Below wt0.heap.size wt0 wA2 := (by exact bz); clear bz; have bwA2 := Lib.hid (bel2 bwAt1.out hbel); have zwA2 := Lib.hid hbel.size; have vwA2g := Lib.hid (vwAt1g.out.below hbel vwAt1g.out.lt); have kwA2H := Lib.hid (ht0.out.below hbel); have kwA2R := Lib.hid (kkAt1R.out.below hbel); clear hbel; clear cA2 cA3 cA4 pp0)))
            go_roundw
            case rel => exact ⟨i + 1, t2, F2, by go_num, by omega, HAT2.out, OK2.out, HDN2.out, kwA2H.out, ⟨vwA2g.out, nnAt1g.out⟩, kwA2R.out, bwA2.out, ftAt1.out⟩
            case measure => simp [intOf]; omega
        · obtain ⟨t2, ea, hdn, hlen⟩ := hbl (by omega)
          rw [ea] at hap okA
          have HAP := Lib.hid hap
          have OK2 := Lib.hid okA
          have c1 : decide ((i : Int) + 1 + (D : Int) + 1 ≤ (n : Int)) = false := by simp; omega
          have c2 : decide ((i : Int) + 1 + (D : Int) + 1 > (n : Int)) = true := by simp; omega
          have c3 : decide ((n : Int) < (i : Int) + 1 + (D : Int) + 1) = true := by simp; omega
          have hdw := fun w F' (h : Pair w P p q t r p' q' t2 (newT pg pgs rgs) F' G) => pDown h OK2.out
          rw [hdn] at hdw
          have HDW := Lib.hid hdw
          have hpn := fun w F' (h : Pair w P p q t r p' q' t2 (newT pg pgs rgs) F' G) => pPending h OK2.out
          rw [hlen, show ((n + 1 : Nat) : Int) = (n : Int) + 1 by omega] at hpn
          have HPN := Lib.hid hpn
          have q9 : (((n : Int) + 1) == ((n : Int) + 1)) = true := by simp
          clear hap okA hdn hlen ea hgo hbl hX okX hXL hil hva hvb hBD hA1 hr0 hr1 hr2 hr3 hrb hcn hdw hpn
          go_wp2
          refine wp_region_each3 [some 47, some 48, some 49, some 50, some 51, some 52, some 53, some 54, some 55, some 46, some 56, some 57, some 10, some 11] (TJ [47, 48, 49, 50, 51, 52, 53, 54, 55, 46, 56, 57, 10, 11] [.pointer (some ⟨P, 0, none⟩), .pointer (some ⟨P, 0, none⟩), .pointer (some ⟨P, 2, none⟩), .pointer (some ⟨t, 0, none⟩), .slice (some ⟨rb, roff, none⟩) NX c, .int .i64 (i : Int), .pointer (some ⟨rb, roff + i * 4, none⟩), .agg #[.int .i64 2, .int .u32 va, .int .u32 vb, .string BD], .tuple #[.int .i64 (A1 : Int), .int .i64 6], .tuple #[.int .i64 (A1 : Int), .int .i64 6], .int .i64 (A1 : Int), .int .i64 6, .int .i64 (A1 : Int), .int .i64 6] 8 (fun wx => Grows (both FL G) wr wx) (fun wx => Below wr.heap.size wr wx) (fun wx => ∃ F2, Pair wx P p q t r p' q' t2 (newT pg pgs rgs) F2 G ∧ After (both FL G) wr wx (both F2 G))) (by kernel_rfl) (by kernel_rfl) (by simp [slots]) ?startb ?eachb ?doneb
          case startb => exact ⟨by simp, Grows.of_below ((Below.refl _ _).drew), fun _ => (Below.refl _ _).drew, by simp⟩
          case eachb =>
            simp only [Each2]
            refine ⟨?o0, ?o1, ?o2, ?o3, ?o4, ?o5, ?o6, ?o7, ?o8, ?o9, ?o10, ?o11, ?o12, ?o13, trivial⟩
            case o0 =>
              intro d0 ys wx hJ hdi hw hdeps
              clear hdeps
              have HJ := Lib.hid hJ
              clear hJ hw
              simp only [List.getD_cons_succ, List.getD_cons_zero, fill, slots, List.filterMap_cons, List.filterMap_nil, id, List.foldl_cons, List.foldl_nil, Act.put, List.setIfInBounds_toArray, List.set_cons_succ, List.set_cons_zero]
              go_wp2_with fail
              exact ⟨_, rfl, HJ.out.plain (i := 0) (by decide) (by decide) (by decide) rfl (HJ.out.com.trans (S' := fun _ => False) (Grows.of_below (Below.refl _ _)) (fun _ h => h.elim)) (fun h => h.trans (Below.mono (Below.refl _ _) h.size)) (fun h => h.elim fun F2 hh => ⟨F2, hh.1.below (Below.refl _ _), hh.2.trans ⟨Grows.of_below (Below.refl _ _), fun _ h => .inl h⟩⟩)⟩
            case o1 =>
              intro d0 ys wx hJ hdi hw hdeps
              have q0 : d0 0 = true := by simp [Region.Deps2, Go.Region.binds] at hdeps; simp [hdeps]
              have y0 : ys 47 = .pointer (some ⟨P, 0, none⟩) := hJ.val 0 (by decide) q0
              clear hdeps
              have HJ := Lib.hid hJ
              clear hJ hw
              simp only [y0, List.getD_cons_succ, List.getD_cons_zero, fill, slots, List.filterMap_cons, List.filterMap_nil, id, List.foldl_cons, List.foldl_nil, Act.put, List.setIfInBounds_toArray, List.set_cons_succ, List.set_cons_zero]
              go_wp2_with fail
              exact ⟨_, rfl, HJ.out.plain (i := 1) (by decide) (by decide) (by decide) rfl (HJ.out.com.trans (S' := fun _ => False) (Grows.of_below (Below.refl _ _)) (fun _ h => h.elim)) (fun h => h.trans (Below.mono (Below.refl _ _) h.size)) (fun h => h.elim fun F2 hh => ⟨F2, hh.1.below (Below.refl _ _), hh.2.trans ⟨Grows.of_below (Below.refl _ _), fun _ h => .inl h⟩⟩)⟩
            case o2 =>
              intro d0 ys wx hJ hdi hw hdeps
              have q1 : d0 1 = true := by simp [Region.Deps2, Go.Region.binds] at hdeps; simp [hdeps]
              have y1 : ys 48 = .pointer (some ⟨P, 0, none⟩) := hJ.val 1 (by decide) q1
              clear hdeps
              have HJ := Lib.hid hJ
              clear hJ hw
              simp only [y1, List.getD_cons_succ, List.getD_cons_zero, fill, slots, List.filterMap_cons, List.filterMap_nil, id, List.foldl_cons, List.foldl_nil, Act.put, List.setIfInBounds_toArray, List.set_cons_succ, List.set_cons_zero]
              go_wp2_with fail
              exact ⟨_, rfl, HJ.out.plain (i := 2) (by decide) (by decide) (by decide) rfl (HJ.out.com.trans (S' := fun _ => False) (Grows.of_below (Below.refl _ _)) (fun _ h => h.elim)) (fun h => h.trans (Below.mono (Below.refl _ _) h.size)) (fun h => h.elim fun F2 hh => ⟨F2, hh.1.below (Below.refl _ _), hh.2.trans ⟨Grows.of_below (Below.refl _ _), fun _ h => .inl h⟩⟩)⟩
            case o3 =>
              intro d0 ys wx hJ hdi hw hdeps
              have q2 : d0 2 = true := by simp [Region.Deps2, Go.Region.binds] at hdeps; simp [hdeps]
              have y2 : ys 49 = .pointer (some ⟨P, 2, none⟩) := hJ.val 2 (by decide) q2
              clear hdeps
              have hC := Lib.hid hJ.com
              have vP := hC.out.var HP.out.var (fun h => h.elim HP.out.nF HP.out.nG)
              have p0 := vP.cell (j := 0) rfl
              have p1 := vP.cell (j := 1) rfl
              have p2 := vP.cell (j := 2) rfl
              have p3 := vP.cell (j := 3) rfl
              unfold ptr at p0 p1 p2 p3
              clear vP
              have vX := hC.out.var VG.out NG.out
              have g0 := vX.cell (j := 0) rfl
              have g1 := vX.cell (j := 1) rfl
              have g2 := vX.cell (j := 2) rfl
              clear vX
              have r0 : wx.cell? ⟨rb, roff + i * 4, none⟩ = some (.int .i64 2) := hC.out.cell (p := ⟨rb, roff + i * 4, none⟩) HR0.out RN.out
              have r1 : wx.cell? ⟨rb, roff + i * 4 + 1, none⟩ = some (.int .u32 va) := hC.out.cell (p := ⟨rb, roff + i * 4 + 1, none⟩) HR1.out RN.out
              have r2 : wx.cell? ⟨rb, roff + i * 4 + 2, none⟩ = some (.int .u32 vb) := hC.out.cell (p := ⟨rb, roff + i * 4 + 2, none⟩) HR2.out RN.out
              have r3 : wx.cell? ⟨rb, roff + i * 4 + 3, none⟩ = some (.string BD) := hC.out.cell (p := ⟨rb, roff + i * 4 + 3, none⟩) HR3.out RN.out
              have HJ := Lib.hid hJ
              clear hJ hw
              simp only [y2, List.getD_cons_succ, List.getD_cons_zero, fill, slots, List.filterMap_cons, List.filterMap_nil, id, List.foldl_cons, List.foldl_nil, Act.put, List.setIfInBounds_toArray, List.set_cons_succ, List.set_cons_zero]
              go_wp2_with fail
              exact ⟨_, rfl, HJ.out.plain (i := 3) (by decide) (by decide) (by decide) rfl (HJ.out.com.trans (S' := fun _ => False) (Grows.of_below (Below.refl _ _)) (fun _ h => h.elim)) (fun h => h.trans (Below.mono (Below.refl _ _) h.size)) (fun h => h.elim fun F2 hh => ⟨F2, hh.1.below (Below.refl _ _), hh.2.trans ⟨Grows.of_below (Below.refl _ _), fun _ h => .inl h⟩⟩)⟩
            case o4 =>
              intro d0 ys wx hJ hdi hw hdeps
              clear hdeps
              have HJ := Lib.hid hJ
              clear hJ hw
              simp only [List.getD_cons_succ, List.getD_cons_zero, fill, slots, List.filterMap_cons, List.filterMap_nil, id, List.foldl_cons, List.foldl_nil, Act.put, List.setIfInBounds_toArray, List.set_cons_succ, List.set_cons_zero]
              go_wp2_with fail
              exact ⟨_, rfl, HJ.out.plain (i := 4) (by decide) (by decide) (by decide) rfl (HJ.out.com.trans (S' := fun _ => False) (Grows.of_below (Below.refl _ _)) (fun _ h => h.elim)) (fun h => h.trans (Below.mono (Below.refl _ _) h.size)) (fun h => h.elim fun F2 hh => ⟨F2, hh.1.below (Below.refl _ _), hh.2.trans ⟨Grows.of_below (Below.refl _ _), fun _ h => .inl h⟩⟩)⟩
            case o5 =>
              intro d0 ys wx hJ hdi hw hdeps
              clear hdeps
              have HJ := Lib.hid hJ
              clear hJ hw
              simp only [List.getD_cons_succ, List.getD_cons_zero, fill, slots, List.filterMap_cons, List.filterMap_nil, id, List.foldl_cons, List.foldl_nil, Act.put, List.setIfInBounds_toArray, List.set_cons_succ, List.set_cons_zero]
              go_wp2_with fail
              exact ⟨_, rfl, HJ.out.plain (i := 5) (by decide) (by decide) (by decide) rfl (HJ.out.com.trans (S' := fun _ => False) (Grows.of_below (Below.refl _ _)) (fun _ h => h.elim)) (fun h => h.trans (Below.mono (Below.refl _ _) h.size)) (fun h => h.elim fun F2 hh => ⟨F2, hh.1.below (Below.refl _ _), hh.2.trans ⟨Grows.of_below (Below.refl _ _), fun _ h => .inl h⟩⟩)⟩
            case o6 =>
              intro d0 ys wx hJ hdi hw hdeps
              have q4 : d0 4 = true := by simp [Region.Deps2, Go.Region.binds] at hdeps; simp [hdeps]
              have y4 : ys 51 = .slice (some ⟨rb, roff, none⟩) NX c := hJ.val 4 (by decide) q4
              have q5 : d0 5 = true := by simp [Region.Deps2, Go.Region.binds] at hdeps; simp [hdeps]
              have y5 : ys 52 = .int .i64 (i : Int) := hJ.val 5 (by decide) q5
              clear hdeps
              have HJ := Lib.hid hJ
              clear hJ hw
              simp only [y4, y5, List.getD_cons_succ, List.getD_cons_zero, fill, slots, List.filterMap_cons, List.filterMap_nil, id, List.foldl_cons, List.foldl_nil, Act.put, List.setIfInBounds_toArray, List.set_cons_succ, List.set_cons_zero]
              go_wp2_with fail
              exact ⟨_, rfl, HJ.out.plain (i := 6) (by decide) (by decide) (by decide) rfl (HJ.out.com.trans (S' := fun _ => False) (Grows.of_below (Below.refl _ _)) (fun _ h => h.elim)) (fun h => h.trans (Below.mono (Below.refl _ _) h.size)) (fun h => h.elim fun F2 hh => ⟨F2, hh.1.below (Below.refl _ _), hh.2.trans ⟨Grows.of_below (Below.refl _ _), fun _ h => .inl h⟩⟩)⟩
            case o7 =>
              intro d0 ys wx hJ hdi hw hdeps
              have q6 : d0 6 = true := by simp [Region.Deps2, Go.Region.binds] at hdeps; simp [hdeps]
              have y6 : ys 53 = .pointer (some ⟨rb, roff + i * 4, none⟩) := hJ.val 6 (by decide) q6
              clear hdeps
              have hC := Lib.hid hJ.com
              have vP := hC.out.var HP.out.var (fun h => h.elim HP.out.nF HP.out.nG)
              have p0 := vP.cell (j := 0) rfl
              have p1 := vP.cell (j := 1) rfl
              have p2 := vP.cell (j := 2) rfl
              have p3 := vP.cell (j := 3) rfl
              unfold ptr at p0 p1 p2 p3
              clear vP
              have vX := hC.out.var VG.out NG.out
              have g0 := vX.cell (j := 0) rfl
              have g1 := vX.cell (j := 1) rfl
              have g2 := vX.cell (j := 2) rfl
              clear vX
              have r0 : wx.cell? ⟨rb, roff + i * 4, none⟩ = some (.int .i64 2) := hC.out.cell (p := ⟨rb, roff + i * 4, none⟩) HR0.out RN.out
              have r1 : wx.cell? ⟨rb, roff + i * 4 + 1, none⟩ = some (.int .u32 va) := hC.out.cell (p := ⟨rb, roff + i * 4 + 1, none⟩) HR1.out RN.out
              have r2 : wx.cell? ⟨rb, roff + i * 4 + 2, none⟩ = some (.int .u32 vb) := hC.out.cell (p := ⟨rb, roff + i * 4 + 2, none⟩) HR2.out RN.out
              have r3 : wx.cell? ⟨rb, roff + i * 4 + 3, none⟩ = some (.string BD) := hC.out.cell (p := ⟨rb, roff + i * 4 + 3, none⟩) HR3.out RN.out
              have HJ := Lib.hid hJ
              clear hJ hw
              simp only [y6, List.getD_cons_succ, List.getD_cons_zero, fill, slots, List.filterMap_cons, List.filterMap_nil, id, List.foldl_cons, List.foldl_nil, Act.put, List.setIfInBounds_toArray, List.set_cons_succ, List.set_cons_zero]
              go_wp2_with fail
              exact ⟨_, rfl, HJ.out.plain (i := 7) (by decide) (by decide) (by decide) rfl (HJ.out.com.trans (S' := fun _ => False) (Grows.of_below (Below.refl _ _)) (fun _ h => h.elim)) (fun h => h.trans (Below.mono (Below.refl _ _) h.size)) (fun h => h.elim fun F2 hh => ⟨F2, hh.1.below (Below.refl _ _), hh.2.trans ⟨Grows.of_below (Below.refl _ _), fun _ h => .inl h⟩⟩)⟩
            case o8 =>
              intro d0 ys wx hJ hdi hw hdeps
              have q3 : d0 3 = true := by simp [Region.Deps2, Go.Region.binds] at hdeps; simp [hdeps]
              have y3 : ys 50 = .pointer (some ⟨t, 0, none⟩) := hJ.val 3 (by decide) q3
              have q7 : d0 7 = true := by simp [Region.Deps2, Go.Region.binds] at hdeps; simp [hdeps]
              have y7 : ys 54 = .agg #[.int .i64 2, .int .u32 va, .int .u32 vb, .string BD] := hJ.val 7 (by decide) q7
              clear hdeps
              have hC := Lib.hid hJ.com
              have hB := Lib.hid (hJ.m0 hdi)
              have HJ := Lib.hid hJ
              clear hJ hw
              simp only [y3, y7, List.getD_cons_succ, List.getD_cons_zero, fill, slots, List.filterMap_cons, List.filterMap_nil, id, List.foldl_cons, List.foldl_nil, Act.put, List.setIfInBounds_toArray, List.set_cons_succ, List.set_cons_zero]
              go_wp2_with (go_at_call 13; (with_reducible refine (HAP.out _ _ (HP.out.below hB.out)).mono ?_); rintro e wy ⟨rfl, Fy, hy, ay⟩)
              exact ⟨_, rfl, HJ.out.turn (by decide) (by decide) rfl (hC.out.trans (S' := both FL G) ay.grows (fun _ h => .inl h)) ⟨Fy, hy, After.trans (S1 := both FL G) ⟨Grows.of_below hB.out, fun _ h => .inl h⟩ ay⟩⟩
            case o9 =>
              intro d0 ys wx hJ hdi hw hdeps
              have q8 : d0 8 = true := by simp [Region.Deps2, Go.Region.binds] at hdeps; simp [hdeps]
              have y8 : ys 55 = .tuple #[.int .i64 (A1 : Int), .int .i64 6] := hJ.val 8 (by decide) q8
              clear hdeps
              have HJ := Lib.hid hJ
              clear hJ hw
              simp only [y8, List.getD_cons_succ, List.getD_cons_zero, fill, slots, List.filterMap_cons, List.filterMap_nil, id, List.foldl_cons, List.foldl_nil, Act.put, List.setIfInBounds_toArray, List.set_cons_succ, List.set_cons_zero]
              go_wp2_with fail
              exact ⟨_, rfl, HJ.out.plain (i := 9) (by decide) (by decide) (by decide) rfl (HJ.out.com.trans (S' := fun _ => False) (Grows.of_below (Below.refl _ _)) (fun _ h => h.elim)) (fun h => h.trans (Below.mono (Below.refl _ _) h.size)) (fun h => h.elim fun F2 hh => ⟨F2, hh.1.below (Below.refl _ _), hh.2.trans ⟨Grows.of_below (Below.refl _ _), fun _ h => .inl h⟩⟩)⟩
            case o10 =>
              intro d0 ys wx hJ hdi hw hdeps
              have q9 : d0 9 = true := by simp [Region.Deps2, Go.Region.binds] at hdeps; simp [hdeps]
              have y9 : ys 46 = .tuple #[.int .i64 (A1 : Int), .int .i64 6] := hJ.val 9 (by decide) q9
              clear hdeps
              have HJ := Lib.hid hJ
              clear hJ hw
              simp only [y9, List.getD_cons_succ, List.getD_cons_zero, fill, slots, List.filterMap_cons, List.filterMap_nil, id, List.foldl_cons, List.foldl_nil, Act.put, List.setIfInBounds_toArray, List.set_cons_succ, List.set_cons_zero]
              go_wp2_with fail
              exact ⟨_, rfl, HJ.out.plain (i := 10) (by decide) (by decide) (by decide) rfl (HJ.out.com.trans (S' := fun _ => False) (Grows.of_below (Below.refl _ _)) (fun _ h => h.elim)) (fun h => h.trans (Below.mono (Below.refl _ _) h.size)) (fun h => h.elim fun F2 hh => ⟨F2, hh.1.below (Below.refl _ _), hh.2.trans ⟨Grows.of_below (Below.refl _ _), fun _ h => .inl h⟩⟩)⟩
            case o11 =>
              intro d0 ys wx hJ hdi hw hdeps
              have q9 : d0 9 = true := by simp [Region.Deps2, Go.Region.binds] at hdeps; simp [hdeps]
              have y9 : ys 46 = .tuple #[.int .i64 (A1 : Int), .int .i64 6] := hJ.val 9 (by decide) q9
              clear hdeps
              have HJ := Lib.hid hJ
              clear hJ hw
              simp only [y9, List.getD_cons_succ, List.getD_cons_zero, fill, slots, List.filterMap_cons, List.filterMap_nil, id, List.foldl_cons, List.foldl_nil, Act.put, List.setIfInBounds_toArray, List.set_cons_succ, List.set_cons_zero]
              go_wp2_with fail
              exact ⟨_, rfl, HJ.out.plain (i := 11) (by decide) (by decide) (by decide) rfl (HJ.out.com.trans (S' := fun _ => False) (Grows.of_below (Below.refl _ _)) (fun _ h => h.elim)) (fun h => h.trans (Below.mono (Below.refl _ _) h.size)) (fun h => h.elim fun F2 hh => ⟨F2, hh.1.below (Below.refl _ _), hh.2.trans ⟨Grows.of_below (Below.refl _ _), fun _ h => .inl h⟩⟩)⟩
            case o12 =>
              intro d0 ys wx hJ hdi hw hdeps
              have q10 : d0 10 = true := by simp [Region.Deps2, Go.Region.binds] at hdeps; simp [hdeps]
              have y10 : ys 56 = .int .i64 (A1 : Int) := hJ.val 10 (by decide) q10
              clear hdeps
              have HJ := Lib.hid hJ
              clear hJ hw
              simp only [y10, List.getD_cons_succ, List.getD_cons_zero, fill, slots, List.filterMap_cons, List.filterMap_nil, id, List.foldl_cons, List.foldl_nil, Act.put, List.setIfInBounds_toArray, List.set_cons_succ, List.set_cons_zero]
              go_wp2_with fail
              exact ⟨_, rfl, HJ.out.plain (i := 12) (by decide) (by decide) (by decide) rfl (HJ.out.com.trans (S' := fun _ => False) (Grows.of_below (Below.refl _ _)) (fun _ h => h.elim)) (fun h => h.trans (Below.mono (Below.refl _ _) h.size)) (fun h => h.elim fun F2 hh => ⟨F2, hh.1.below (Below.refl _ _), hh.2.trans ⟨Grows.of_below (Below.refl _ _), fun _ h => .inl h⟩⟩)⟩
            case o13 =>
              intro d0 ys wx hJ hdi hw hdeps
              have q11 : d0 11 = true := by simp [Region.Deps2, Go.Region.binds] at hdeps; simp [hdeps]
              have y11 : ys 57 = .int .i64 6 := hJ.val 11 (by decide) q11
              clear hdeps
              have HJ := Lib.hid hJ
              clear hJ hw
              simp only [y11, List.getD_cons_succ, List.getD_cons_zero, fill, slots, List.filterMap_cons, List.filterMap_nil, id, List.foldl_cons, List.foldl_nil, Act.put, List.setIfInBounds_toArray, List.set_cons_succ, List.set_cons_zero]
              go_wp2_with fail
              exact ⟨_, rfl, HJ.out.plain (i := 13) (by decide) (by decide) (by decide) rfl (HJ.out.com.trans (S' := fun _ => False) (Grows.of_below (Below.refl _ _)) (fun _ h => h.elim)) (fun h => h.trans (Below.mono (Below.refl _ _) h.size)) (fun h => h.elim fun F2 hh => ⟨F2, hh.1.below (Below.refl _ _), hh.2.trans ⟨Grows.of_below (Below.refl _ _), fun _ h => .inl h⟩⟩)⟩
          case doneb =>
            intro d0 ys wx hJ hall
            have hM : ∃ F2, Pair wx P p q t r p' q' t2 (newT pg pgs rgs) F2 G ∧ After (both FL G) wr wx (both F2 G) := hJ.m1 (hall 8 (by decide))
            have h10 : ys 10 = .int .i64 (A1 : Int) := hJ.val 12 (by decide) (hall 12 (by decide))
            have h11 : ys 11 = .int .i64 6 := hJ.val 13 (by decide) (hall 13 (by decide))
            clear hJ hall
            simp only [h10, h11, List.getD_cons_succ, List.getD_cons_zero, fill, slots, List.filterMap_cons, List.filterMap_nil, id, List.foldl_cons, List.foldl_nil, Act.put, List.setIfInBounds_toArray, List.set_cons_succ, List.set_cons_zero]
            with_reducible refine Exists.elim hM ?_
            intro F2 hMM
            have ht0 := Lib.hid hMM.1
            have at0 := Lib.hid hMM.2
            clear hM hMM
            obtain ⟨wt0, hwt0⟩ : ∃ wy, wy = wx := ⟨_, rfl⟩
            rw [← hwt0] at ht0 at0 ⊢
            clear hwt0
            have vwBt1g := Lib.hid (at0.out.grows.var VG.out NG.out)
            have nnBt1g := Lib.hid (not_after at0.out NG.out VG.out.lt)
            have kkBt1R := Lib.hid (RK.out.after at0.out)
            have bwBt1 := Lib.hid (BL.out.trans (at0.out.grows.below BL.out.size FTL.out))
            have ftBt1 := Lib.hid (at0.out.beyond BL.out.size FTL.out)
            have zwBt1 := Lib.hid at0.out.grows.size
            have vBf1 := (show Var wt0 (w.heap.size) 23 [.int .i64 (pg : Int), .int .i64 (pgs : Int), .int .i64 (rgs : Int)] from vwBt1g.out)
            have cB2 := vBf1.cell (j := 0) rfl
            have cB3 := vBf1.cell (j := 1) rfl
            have cB4 := vBf1.cell (j := 2) rfl
            clear vBf1
            have pp0 := ht0.out.var.cell (j := 0) rfl
            unfold ptr at pp0
            go_wp2_with (first
        | (go_at_call 12; ((with_reducible refine (HSL.out _).mono ?_); rintro e wB2 ⟨rfl, bz⟩; have hbel : Below wt0.heap.size wt0 wB2 := (by exact bz); clear bz; have bwB2 := Lib.hid (bel2 bwBt1.out hbel); have zwB2 := Lib.hid hbel.size; have vwB2g := Lib.hid (vwBt1g.out.below hbel vwBt1g.out.lt); have kwB2H := Lib.hid (ht0.out.below hbel); have kwB2R := Lib.hid (kkBt1R.out.below hbel); clear hbel; clear cB2 cB3 cB4 pp0; have pq5 := kwB2H.out.var.cell (j := 0) rfl; unfold ptr at pq5))
        | (go_at_call 28; ((with_reducible refine (HDW.out _ _ kwB2H.out).mono ?_); rintro e wB3 ⟨rfl, bz⟩; have hbel : Below wB2.heap.size wB2 wB3 := (by exact bz); clear bz; have bwB3 := Lib.hid (bel2 bwB2.out hbel); have zwB3 := Lib.hid hbel.size; have vwB3g := Lib.hid (vwB2g.out.below hbel vwB2g.out.lt); have kwB3H := Lib.hid (kwB2H.out.below hbel); have kwB3R := Lib.hid (kwB2R.out.below hbel); clear hbel; clear pq5; have pq6 := kwB3H.out.var.cell (j := 0) rfl; unfold ptr at pq6))
        | (go_at_call 17; ((with_reducible refine (HPN.out _ _ kwB3H.out).mono ?_); rintro e wB4 ⟨rfl, bz⟩; have hbel : Below wB3.heap.size wB3 wB4 := (by exact bz); clear bz; have bwB4 := Lib.hid (bel2 bwB3.out hbel); have zwB4 := Lib.hid hbel.size; have vwB4g := Lib.hid (vwB3g.out.below hbel vwB3g.out.lt); have kwB4H := Lib.hid (kwB3H.out.below hbel); have kwB4R := Lib.hid (kwB3R.out.below hbel); clear hbel; clear pq6)))
            go_ret
            exact ⟨rfl, bwB4.out⟩
      · obtain rfl : i = NX := by omega
        have d1 : decide ((i : Int) < (i : Int)) = false := by simp
        have d2 : decide (i < i) = false := by simp
        have hdw := fun w F' (h : Pair w P p q t r p' q' tp (newT pg pgs rgs) F' G) => pDown h HOK.out
        rw [HDN.out] at hdw
        have HDW := Lib.hid hdw
        have pp0 := HP.out.var.cell (j := 0) rfl
        unfold ptr at pp0
        clear hdw
        go_wp2_with (first
          | (go_at_call 28; ((with_reducible refine (HDW.out _ _ HP.out).mono ?_); rintro e wC1 ⟨rfl, bz⟩; have hbel : Below wr.heap.size wr wC1 := (by exact bz); clear bz; have bwC1 := Lib.hid (bel2 BL.out hbel); have zwC1 := Lib.hid hbel.size; have vwC1g := Lib.hid (VG.out.below hbel VG.out.lt); have kwC1H := Lib.hid (HP.out.below hbel); clear hbel; clear pp0)))
        go_ret
        exact ⟨rfl, bwC1.out⟩
end Go.Proofs.Ytcmjambbdfangaa.Tape
