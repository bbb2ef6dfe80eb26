/-
  TapeLays' walk.
-/
import Derived.Test.YtcmjambbdfangaaRunTapeL
import Derived.Test.YtcmjambbdfangaaRunTapeFr
set_option linter.unusedVariables false
set_option linter.unusedSimpArgs false
namespace Go.Proofs.Ytcmjambbdfangaa.Tape
open Go.RowKit
open Go.Proofs.Ytcmjambbdfangaa.Own
open CrcM (W)
open Crc (vl wd)
open Flash (newD readD Dev FHas RHas programD eraseD flushD bs list_bs)
open Chart (newC pgC Ch CHas DHas openC takeC eraseC setC)
open Go.Proofs.Ytcmjambbdfangaa.Frame (Fr fV page bytesG)
open Tup Foot Bytes
open Go.Proofs.Ytcmjambbdfangaa.Region (fill Then Deps Each wp_region_is wp_region_is_tail wp_region_each wp_region_tail slots TJ TJ2 Each2 Deps2 wp_region_each3 upd put)

set_option maxRecDepth 100000 in
set_option maxHeartbeats 32000000 in
theorem lays_any (gp gs gr : Int) (la : Option Addr) (l : List ByteArray) (lc : Nat) (hll : l.length ≤ maxLen) (hsz : ∀ k, (l.getD k ⟨#[]⟩).size ≤ maxLen) (w : World) (hS : StrAt w la l) :
    Calls Try.prog 3 #[Geom.gV ⟨gp, gs, gr⟩, .slice la l.length lc] w fun e w' => e = .returned (.bool true) ∧ Below w.heap.size w w' := by
  unfold Geom.gV
  obtain ⟨pg, hpg⟩ : ∃ n : Nat, (n : Int) = 32 + gp % 33 := ⟨(32 + gp % 33).toNat, by omega⟩
  obtain ⟨pgs, hpgs⟩ : ∃ n : Nat, (n : Int) = 3 + gs % 4 := ⟨(3 + gs % 4).toNat, by omega⟩
  obtain ⟨rgs, hrgs⟩ : ∃ n : Nat, (n : Int) = 4 + gr % 4 := ⟨(4 + gr % 4).toNat, by omega⟩
  have p0 : 32 ≤ pg := by omega
  have p1 : pg ≤ 64 := by omega
  have s0 : 3 ≤ pgs := by omega
  have s1 : pgs ≤ 6 := by omega
  have r0 : 4 ≤ rgs := by omega
  have r1 : rgs ≤ 7 := by omega
  have HG : Hid (∀ w, Calls Try.prog 8 #[.agg #[.int .i64 gp, .int .i64 gs, .int .i64 gr]] w fun e w' => e = .returned (.agg #[.int .i64 (pg : Int), .int .i64 (pgs : Int), .int .i64 (rgs : Int)]) ∧ Below w.heap.size w w') := fun w => by
    rw [hpg, hpgs, hrgs]; exact Geom.geom_any ⟨gp, gs, gr⟩ w
  have HAL := Lib.hid (fun w => alive_any w)
  have SZ := Lib.hid (show Sz pg pgs rgs from ⟨p0, by omega, s0, by omega, r0, by omega⟩)
  have HM := Lib.hid (fun w => made_any SZ.out w)
  have OK0 := Lib.hid (new_ok (pg := pg) (pgs := pgs) (rgs := rgs) p0 (by omega) s0 (by omega) r0 (by omega))
  clear hpg hpgs hrgs
  obtain ⟨sl, hsl⟩ : ∃ sl, sl = pgs - 1 := ⟨_, rfl⟩
  have HSL : Hid (∀ w, Calls Try.prog 12 #[.agg #[.int .i64 (pg : Int), .int .i64 (pgs : Int), .int .i64 (rgs : Int)]] w fun e w' => e = .returned (.int .i64 (sl : Int)) ∧ Below w.heap.size w w') := fun w => by
    have := Geom.refSlots_any ⟨pg, pgs, rgs⟩ ⟨by simp only; omega, by simp only; omega, by simp only; omega, by simp only; omega, by simp only; omega, by simp only; omega⟩ w
    rw [show Geom.slotsG ⟨pg, pgs, rgs⟩ = (sl : Int) by unfold Geom.slotsG; simp only; omega] at this
    exact this
  obtain ⟨NF, hNF⟩ : ∃ NF, NF = rgs * sl := ⟨_, rfl⟩
  have hNF3 : NF ≤ 35 := by rw [hNF]; exact Nat.mul_le_mul r1 (show sl ≤ 5 by omega)
  have hmul : (rgs : Int) * (sl : Int) = (NF : Int) := by rw [hNF, Int.natCast_mul]
  have HNF := Lib.hid (show NF = rgs * (pgs - 1) by rw [hNF, hsl])
  have HSLP := Lib.hid hsl
  have hsl2 : 2 ≤ sl := by omega
  have hsl5 : sl ≤ 5 := by omega
  obtain ⟨XX, hXX⟩ : ∃ XX, XX = framesTo pg l (min l.length NF) := ⟨_, rfl⟩
  obtain ⟨NX, hNX⟩ : ∃ NX, XX.length = NX := ⟨_, rfl⟩
  have hNX2 : NX ≤ NF := by rw [← hNX, hXX, framesTo_len]; omega
  have HXX := Lib.hid hXX
  have HNX := Lib.hid hNX
  have hxs := fun w (hS : StrAt w la l) => frames_row SZ.out la l lc NF hll (by omega) hsz w hS
  rw [← hXX] at hxs
  have HXS := Lib.hid hxs
  have HST := Lib.hid hS
  have HXO := Lib.hid (show ∀ k, k < NX → ∃ X, XX[k]? = some X ∧ X.Ok pg ∧ X.kind = 2 by
    intro k hk
    rw [← hNX, hXX, framesTo_len] at hk
    exact ⟨_, by rw [hXX]; exact framesTo_get pg l _ k hk, frameAt_ok p0 (by omega), rfl⟩)
  clear hsl hNF hXX hNX hxs hS hsz hll
  have vf1 := (show Var (w.alloc (.cells #[.int .i64 gp, .int .i64 gs, .int .i64 gr] 23)) (w.heap.size) 23 [.int .i64 gp, .int .i64 gs, .int .i64 gr] from (Var.new w 23 [.int .i64 gp, .int .i64 gs, .int .i64 gr]))
  have c2 := vf1.cell (j := 0) rfl
  have c3 := vf1.cell (j := 1) rfl
  have c4 := vf1.cell (j := 2) rfl
  clear vf1
  go_enter Try.func3, Try.ntmps3
  go_wp2_with (first
    | (go_at_call 8; ((with_reducible refine (HG.out _).mono ?_); rintro e w2 ⟨rfl, bz⟩; obtain ⟨w1, hw1⟩ : ∃ wx, wx = (w.alloc (.cells #[.int .i64 gp, .int .i64 gs, .int .i64 gr] 23)) := ⟨_, rfl⟩; have bw1 := Lib.hid (show Below w.heap.size w w1 by rw [hw1]; exact (Geom.bel_alloc _ _)); have zw1 := Lib.hid (show w.heap.size + 1 ≤ w1.heap.size by rw [hw1]; simp); have vw1g := Lib.hid (show Var w1 (w.heap.size) 23 [.int .i64 gp, .int .i64 gs, .int .i64 gr] by rw [hw1]; exact (Var.new w 23 [.int .i64 gp, .int .i64 gs, .int .i64 gr])); have hbel : Below w1.heap.size w1 w2 := (by rw [hw1]; exact bz); clear bz; have bw2 := Lib.hid (bel2 bw1.out hbel); have zw2 := Lib.hid hbel.size; have vw2g := Lib.hid (vw1g.out.below hbel vw1g.out.lt); clear hbel; clear c2 c3 c4; have vf5 := (show Var w2 (w.heap.size) 23 [.int .i64 gp, .int .i64 gs, .int .i64 gr] from vw2g.out); have c6 := vf5.cell (j := 0) rfl; have c7 := vf5.cell (j := 1) rfl; have c8 := vf5.cell (j := 2) rfl; clear vf5; have vf9 := (show Var w2 (w.heap.size) 23 [.int .i64 gp, .int .i64 gs, .int .i64 gr] from vw2g.out); have f10 := vf9.frozen 0; have f11 := vf9.frozen 1; have f12 := vf9.frozen 2; clear vf9; have vf13 := (show Var (((w2.setCell ⟨w.heap.size, 0, none⟩ (.int .i64 (pg : Int))).setCell ⟨w.heap.size, 1, none⟩ (.int .i64 (pgs : Int))).setCell ⟨w.heap.size, 2, none⟩ (.int .i64 (rgs : Int))) (w.heap.size) 23 [.int .i64 (pg : Int), .int .i64 (pgs : Int), .int .i64 (rgs : Int)] from (((vw2g.out.set 0 (.int .i64 (pg : Int))).set 1 (.int .i64 (pgs : Int))).set 2 (.int .i64 (rgs : Int)))); have c14 := vf13.cell (j := 0) rfl; have c15 := vf13.cell (j := 1) rfl; have c16 := vf13.cell (j := 2) rfl; clear vf13))
    | (go_at_call 9; ((with_reducible refine (HM.out _).mono ?_); rintro e w4 ⟨P, p, q, t, r, p', q', F, G, rfl, hpair, bz, hfoot⟩; obtain ⟨w3, hw3⟩ : ∃ wx, wx = (((w2.setCell ⟨w.heap.size, 0, none⟩ (.int .i64 (pg : Int))).setCell ⟨w.heap.size, 1, none⟩ (.int .i64 (pgs : Int))).setCell ⟨w.heap.size, 2, none⟩ (.int .i64 (rgs : Int))) := ⟨_, rfl⟩; have bw3 := Lib.hid (show Below w.heap.size w w3 by rw [hw3]; exact (((bw2.out.setCell (p := ⟨w.heap.size, 0, none⟩) (by have := zw1.out; have := zw2.out; simp only; omega) _).setCell (p := ⟨w.heap.size, 1, none⟩) (by have := zw1.out; have := zw2.out; simp only; omega) _).setCell (p := ⟨w.heap.size, 2, none⟩) (by have := zw1.out; have := zw2.out; simp only; omega) _)); have zw3 := Lib.hid (show w2.heap.size + 0 ≤ w3.heap.size by rw [hw3]; simp); have vw3g := Lib.hid (show Var w3 (w.heap.size) 23 [.int .i64 (pg : Int), .int .i64 (pgs : Int), .int .i64 (rgs : Int)] by rw [hw3]; exact (((vw2g.out.set 0 (.int .i64 (pg : Int))).set 1 (.int .i64 (pgs : Int))).set 2 (.int .i64 (rgs : Int)))); have hbel : Below w3.heap.size w3 w4 := (by rw [hw3]; exact bz); clear bz; have bw4 := Lib.hid (bel2 bw3.out hbel); have zw4 := Lib.hid hbel.size; have vw4g := Lib.hid (vw3g.out.below hbel vw3g.out.lt); clear hbel; clear c6 c7 c8 f10 f11 f12 c14 c15 c16; rw [← hw3] at hfoot; have kH := Lib.hid hpair; have HFT := Lib.hid hfoot; clear hpair hfoot))
    | (go_at_call 10; ((with_reducible refine (HAL.out _).mono ?_); rintro e w5 ⟨rfl, bz⟩; have hbel : Below w4.heap.size w4 w5 := (by exact bz); clear bz; have bw5 := Lib.hid (bel2 bw4.out hbel); have zw5 := Lib.hid hbel.size; have vw5g := Lib.hid (vw4g.out.below hbel vw4g.out.lt); have kw5H := Lib.hid (kH.out.below hbel); clear hbel)))
  have FT0 := Lib.hid (show ∀ k, both F G k → w.heap.size ≤ k from fun k hk => by have := HFT.out k hk; have := zw1.out; have := zw2.out; have := zw3.out; have := zw4.out; have := zw5.out; omega)
  have NNg := Lib.hid (show ¬ both F G (w.heap.size) from fun hk => by have := HFT.out _ hk; have := zw1.out; have := zw2.out; have := zw3.out; have := zw4.out; have := zw5.out; omega)
  have HPREV := Lib.hid kw5H.out
  refine wp_region_each [26, 27, 28, 29, 30, 31, 32, 33, 6] (fun w' => Below w5.heap.size w5 w') (XV [.agg #[.int .i64 (pg : Int), .int .i64 (pgs : Int), .int .i64 (rgs : Int)], .slice la l.length lc, .pointer (some ⟨w.heap.size, 2, none⟩), .int .i64 (rgs : Int), .agg #[.int .i64 (pg : Int), .int .i64 (pgs : Int), .int .i64 (rgs : Int)], .int .i64 (sl : Int), .int .i64 (NF : Int), undef, undef] 7 w5.heap.size XX) (by kernel_rfl) (by kernel_rfl) rfl (by decide) (by simp) (XV.mono _ _ _ _) (Below.refl _ _).drew ?eachxs ?donexs
  case eachxs =>
    simp only [Each]
    refine ⟨?o0, ?o1, ?o2, ?o3, ?o4, ?o5, ?o6, ?o7, ?o8, trivial⟩
    case o0 =>
      intro ys wx hBx hdeps
      clear hdeps
      have g0 := (vw5g.out.below hBx vw5g.out.lt).cell (j := 0) rfl
      have g1 := (vw5g.out.below hBx vw5g.out.lt).cell (j := 1) rfl
      have g2 := (vw5g.out.below hBx vw5g.out.lt).cell (j := 2) rfl
      simp only [fill, List.foldl_cons, List.foldl_nil, Act.put, List.setIfInBounds_toArray, List.set_cons_succ, List.set_cons_zero]
      go_wp2_with fail
      exact ⟨_, rfl, rfl, hBx, Below.refl _ _⟩
    case o1 =>
      intro ys wx hBx hdeps
      clear hdeps
      simp only [fill, List.foldl_cons, List.foldl_nil, Act.put, List.setIfInBounds_toArray, List.set_cons_succ, List.set_cons_zero]
      go_wp2_with fail
      exact ⟨_, rfl, rfl, hBx, Below.refl _ _⟩
    case o2 =>
      intro ys wx hBx hdeps
      clear hdeps
      simp only [fill, List.foldl_cons, List.foldl_nil, Act.put, List.setIfInBounds_toArray, List.set_cons_succ, List.set_cons_zero]
      go_wp2_with fail
      exact ⟨_, rfl, rfl, hBx, Below.refl _ _⟩
    case o3 =>
      intro ys wx hBx hdeps
      simp only [Deps, Region.binds, List.getD_cons_zero, List.getD_cons_succ, forall_const, and_true, true_and] at hdeps
      have y2 : ys 28 = .pointer (some ⟨w.heap.size, 2, none⟩) := by first | exact hdeps | exact hdeps.1 | exact hdeps.2 | exact hdeps.2.1 | exact hdeps.2.2 | exact hdeps.2.2.1 | exact hdeps.2.2.2
      clear hdeps
      have g0 := (vw5g.out.below hBx vw5g.out.lt).cell (j := 0) rfl
      have g1 := (vw5g.out.below hBx vw5g.out.lt).cell (j := 1) rfl
      have g2 := (vw5g.out.below hBx vw5g.out.lt).cell (j := 2) rfl
      simp only [y2, fill, List.foldl_cons, List.foldl_nil, Act.put, List.setIfInBounds_toArray, List.set_cons_succ, List.set_cons_zero]
      go_wp2_with fail
      exact ⟨_, rfl, rfl, hBx, Below.refl _ _⟩
    case o4 =>
      intro ys wx hBx hdeps
      clear hdeps
      have g0 := (vw5g.out.below hBx vw5g.out.lt).cell (j := 0) rfl
      have g1 := (vw5g.out.below hBx vw5g.out.lt).cell (j := 1) rfl
      have g2 := (vw5g.out.below hBx vw5g.out.lt).cell (j := 2) rfl
      simp only [fill, List.foldl_cons, List.foldl_nil, Act.put, List.setIfInBounds_toArray, List.set_cons_succ, List.set_cons_zero]
      go_wp2_with fail
      exact ⟨_, rfl, rfl, hBx, Below.refl _ _⟩
    case o5 =>
      intro ys wx hBx hdeps
      simp only [Deps, Region.binds, List.getD_cons_zero, List.getD_cons_succ, forall_const, and_true, true_and] at hdeps
      have y4 : ys 30 = .agg #[.int .i64 (pg : Int), .int .i64 (pgs : Int), .int .i64 (rgs : Int)] := by first | exact hdeps | exact hdeps.1 | exact hdeps.2 | exact hdeps.2.1 | exact hdeps.2.2 | exact hdeps.2.2.1 | exact hdeps.2.2.2
      clear hdeps
      simp only [y4, fill, List.foldl_cons, List.foldl_nil, Act.put, List.setIfInBounds_toArray, List.set_cons_succ, List.set_cons_zero]
      go_wp2_with (go_at_call 12; (with_reducible refine (HSL.out _).mono ?_); rintro e w3 ⟨rfl, hm⟩)
      exact ⟨_, rfl, rfl, hBx.trans (hm.mono hBx.size), hm⟩
    case o6 =>
      intro ys wx hBx hdeps
      simp only [Deps, Region.binds, List.getD_cons_zero, List.getD_cons_succ, forall_const, and_true, true_and] at hdeps
      have y3 : ys 29 = .int .i64 (rgs : Int) := by first | exact hdeps | exact hdeps.1 | exact hdeps.2 | exact hdeps.2.1 | exact hdeps.2.2 | exact hdeps.2.2.1 | exact hdeps.2.2.2
      have y5 : ys 31 = .int .i64 (sl : Int) := by first | exact hdeps | exact hdeps.1 | exact hdeps.2 | exact hdeps.2.1 | exact hdeps.2.2 | exact hdeps.2.2.1 | exact hdeps.2.2.2
      clear hdeps
      simp only [y3, y5, fill, List.foldl_cons, List.foldl_nil, Act.put, List.setIfInBounds_toArray, List.set_cons_succ, List.set_cons_zero]
      go_wp2_with fail
      exact ⟨_, rfl, rfl, hBx, Below.refl _ _⟩
    case o7 =>
      intro ys wx hBx hdeps
      simp only [Deps, Region.binds, List.getD_cons_zero, List.getD_cons_succ, forall_const, and_true, true_and] at hdeps
      have y0 : ys 26 = .agg #[.int .i64 (pg : Int), .int .i64 (pgs : Int), .int .i64 (rgs : Int)] := by first | exact hdeps | exact hdeps.1 | exact hdeps.2 | exact hdeps.2.1 | exact hdeps.2.2 | exact hdeps.2.2.1 | exact hdeps.2.2.2
      have y1 : ys 27 = .slice la l.length lc := by first | exact hdeps | exact hdeps.1 | exact hdeps.2 | exact hdeps.2.1 | exact hdeps.2.2 | exact hdeps.2.2.1 | exact hdeps.2.2.2
      have y6 : ys 32 = .int .i64 (NF : Int) := by first | exact hdeps | exact hdeps.1 | exact hdeps.2 | exact hdeps.2.1 | exact hdeps.2.2 | exact hdeps.2.2.1 | exact hdeps.2.2.2
      clear hdeps
      simp only [y0, y1, y6, fill, List.foldl_cons, List.foldl_nil, Act.put, List.setIfInBounds_toArray, List.set_cons_succ, List.set_cons_zero]
      go_wp2_with (go_at_call 11; (with_reducible refine (HXS.out _ (HST.out.below (bw5.out.trans (hBx.mono bw5.out.size)))).mono ?_); rintro e w3 ⟨a, c, rfl, hrow, hpl, hm⟩)
      exact ⟨_, rfl, ⟨a, c, rfl, hrow, fun b off e => ⟨Nat.le_trans hBx.size (hpl b off e).1, (hpl b off e).2⟩⟩, hBx.trans (hm.mono hBx.size), hm⟩
    case o8 =>
      intro ys wx hBx hdeps
      simp only [Deps, Region.binds, List.getD_cons_zero, List.getD_cons_succ, forall_const, and_true, true_and] at hdeps
      have zz : ∃ a c, ys 33 = .slice a XX.length c ∧ FAt wx a XX ∧ ∀ b off, a = some ⟨b, off, none⟩ → w5.heap.size ≤ b ∧ b < wx.heap.size := by first | exact hdeps | exact hdeps.1 | exact hdeps.2 | exact hdeps.2.1 | exact hdeps.2.2 | exact hdeps.2.2.1 | exact hdeps.2.2.2
      clear hdeps
      with_reducible refine Exists.elim zz ?_
      intro a zz
      with_reducible refine Exists.elim zz ?_
      intro c zz
      have yy := zz.1
      have ZZ := Lib.hid zz.2
      clear zz
      simp only [yy, fill, List.foldl_cons, List.foldl_nil, Act.put, List.setIfInBounds_toArray, List.set_cons_succ, List.set_cons_zero]
      go_wp2_with fail
      exact ⟨_, rfl, ⟨a, c, rfl, ZZ.out⟩, hBx, Below.refl _ _⟩
  case donexs =>
    intro ys wx hBx hV
    have hx : ∃ a c, ys 6 = .slice a XX.length c ∧ FAt wx a XX ∧ ∀ b off, a = some ⟨b, off, none⟩ → w5.heap.size ≤ b ∧ b < wx.heap.size := hV 8 (by decide)
    with_reducible refine Exists.elim hx ?_
    intro a hx
    with_reducible refine Exists.elim hx ?_
    intro c hx
    have yx := hx.1
    have HXR := Lib.hid hx.2.1
    have HXP := Lib.hid hx.2.2
    clear hx
    obtain ⟨wxs, hwxs⟩ : ∃ wy, wy = wx := ⟨_, rfl⟩
    rw [← hwxs] at hBx HXR HXP ⊢
    have bwxs := Lib.hid (bel2 bw5.out hBx)
    have zwxs := Lib.hid hBx.size
    have vwxsg := Lib.hid (vw5g.out.below hBx vw5g.out.lt)
    have kwxsH := Lib.hid (kw5H.out.below hBx)
    have HXN := Lib.hid (show RowKept wxs a XX (both F G) from ⟨HXR.out, fun b off e => ⟨fun hk => by have h1 := (HXP.out b off e).1; have h2 := HPREV.out.lt _ hk; omega, (HXP.out b off e).2⟩⟩)
    clear hBx hV hwxs HXR HXP
    simp only [yx, fill, List.drop_succ_cons, List.drop_zero, List.foldl_cons, List.foldl_nil, Act.put, List.setIfInBounds_toArray, List.set_cons_succ, List.set_cons_zero]
    clear yx
    have KG := Lib.hid (show Kept wxs w.heap.size 23 [.int .i64 (pg : Int), .int .i64 (pgs : Int), .int .i64 (rgs : Int)] (both F G) from ⟨vwxsg.out, NNg.out⟩)
    have KB := Lib.hid bwxs.out
    rw [HNX.out]
    go_wp2
    go_loopw [7] (fun v wr => ∃ (i : Nat) (tp : Tp) (F' : Nat → Prop), v = .int .i64 (i : Int) ∧ i ≤ NX ∧ At pg pgs rgs tp i none ∧ tp.Ok ∧ Pair wr P p q t r p' q' tp (newT pg pgs rgs) F' G ∧ Kept wr w.heap.size 23 [.int .i64 (pg : Int), .int .i64 (pgs : Int), .int .i64 (rgs : Int)] (both F' G) ∧ RowKept wr a XX (both F' G) ∧ Below w.heap.size w wr ∧ ∀ k, both F' G k → w.heap.size ≤ k) (fun v _ => NX - (intOf v).toNat)
    case atStart => exact ⟨0, _, F, rfl, Nat.zero_le _, at_new none, OK0.out, kwxsH.out, KG.out, HXN.out, KB.out, FT0.out⟩
    case round =>
      obtain ⟨i, tp, FL, rfl, hi, hat, hok, hpair, hkg, hrk, hbel, hft⟩ := hrel
      have HAT := Lib.hid hat
      have HOK := Lib.hid hok
      have HP := Lib.hid hpair
      have VG := Lib.hid hkg.var
      have NG := Lib.hid hkg.no
      have RK := Lib.hid hrk
      have BL := Lib.hid hbel
      have FTL := Lib.hid hft
      clear hat hok hpair hkg hrk hbel hft
      by_cases hlt : i < NX
      · have d1 : decide ((i : Int) < (NX : Int)) = true := by simp; omega
        have d2 : decide (i < NX) = true := by simp; omega
        have hil : i < rgs * (pgs - 1) := by rw [← HNF.out]; omega
        obtain ⟨X, hX, okX, hk2⟩ := HXO.out i hlt
        obtain ⟨t2, ea, hat2, hh1, hh2, hdn⟩ := append_goes SZ.out HAT.out hil okX (fun n hn => by cases hn)
        rw [← HSLP.out] at ea hh1 hh2
        obtain ⟨n1, n2, n3⟩ := page_nums (i := i) s0 HSLP.out
        have hDr : i / sl < rgs := by rw [← HSLP.out] at hil; exact Nat.div_lt_of_lt_mul (by rw [Nat.mul_comm]; exact hil)
        have hpr : (i / sl) * pgs + (1 + i % sl) < pgs * rgs := mul_lt hDr (by have := HSLP.out; omega)
        have hq1 := tdiv_nat i sl
        have hq2 := tmod_nat i sl
        generalize i % sl = M at ea hh1 hh2 n1 n2 n3 hpr hq2
        generalize i / sl = D at ea hh1 hh2 n2 n3 hDr hpr hq1
        obtain ⟨DP, hDP⟩ : ∃ DP, DP = D * pgs := ⟨_, rfl⟩
        have hmD : (D : Int) * (pgs : Int) = (DP : Int) := by rw [hDP, Int.natCast_mul]
        rw [← hDP] at ea hh1 hh2 n2 n3 hpr
        have hDPb : DP ≤ 42 := by have : pgs * rgs ≤ 6 * 7 := Nat.mul_le_mul s1 r1; omega
        have hMb : M ≤ 5 := by omega
        have hDb : D ≤ 7 := by omega
        have OK2 := Lib.hid (show t2.Ok by have := append_ok HOK.out X; rw [ea] at this; exact this)
        have HAT2 := Lib.hid hat2
        have hXL : X.body.length ≤ maxLen := by have := okX.fits; unfold maxLen; omega
        have hap := fun w F' (h : Pair w P p q t r p' q' tp (newT pg pgs rgs) F' G) => pAppend h HOK.out X hXL
        rw [ea] at hap
        have hrd1 := fun w F' (h : Pair w P p q t r p' q' t2 (newT pg pgs rgs) F' G) => pRead h OK2.out ((DP + 1 + M : Nat) : Int)
        rw [at_read hat2 (by omega) hdn, hh1] at hrd1
        have hrd2 := fun w F' (h : Pair w P p q t r p' q' t2 (newT pg pgs rgs) F' G) => pRead h OK2.out (DP : Int)
        rw [at_read hat2 (by omega) hdn, hh2] at hrd2
        have hfr1 := fun w => Go.Proofs.Ytcmjambbdfangaa.Frame.fRead_any (bs (page pg X)) (size_bs (Frame.page_length okX) (by omega)) w
        rw [list_bs, Frame.read_page okX] at hfr1
        have okH : (headF (D + 1) D).Ok pg := head_fits p0 (by omega)
        have hfr2 := fun w => Go.Proofs.Ytcmjambbdfangaa.Frame.fRead_any (bs (page pg (headF (D + 1) D))) (size_bs (Frame.page_length okH) (by omega)) w
        rw [list_bs, Frame.read_page okH, head_val (by omega) (by omega)] at hfr2
        generalize bs (page pg (headF (D + 1) D)) = HB at hrd2 hfr2
        generalize bs (page pg X) = XB at hrd1 hfr1
        obtain ⟨rb, roff, hra, hrb, hr0, hr1, hr2, hr3⟩ := FAt.get RK.out.row hX
        have RN := Lib.hid (RK.out.no rb roff hra).1
        obtain ⟨kd, xa, xb, bd⟩ := X
        simp only at hk2
        subst hk2
        obtain ⟨va, hva⟩ : ∃ va, va = vl xa := ⟨_, rfl⟩
        obtain ⟨vb, hvb⟩ : ∃ vb, vb = vl xb := ⟨_, rfl⟩
        obtain ⟨BD, hBD⟩ : ∃ BD, BD = bs bd := ⟨_, rfl⟩
        simp only at hr0 hr1 hr2 hr3
        unfold fV at hap hfr1
        simp only at hap hfr1
        rw [← hva] at hap hfr1 hr1
        rw [← hvb] at hap hfr1 hr2
        rw [← hBD] at hap hfr1 hr3
        have HAP : Hid (∀ w F', Pair w P p q t r p' q' tp (newT pg pgs rgs) F' G → Calls Try.prog 13 #[.pointer (some ⟨t, 0, none⟩), .agg #[.int .i64 2, .int .u32 va, .int .u32 vb, .string BD]] w fun e w' => e = .returned (.tuple #[.int .i64 ((DP : Int) + 1 + (M : Int)), .int .i64 0]) ∧ ∃ F2, Pair w' P p q t r p' q' t2 (newT pg pgs rgs) F2 G ∧ After (both F' G) w w' (both F2 G)) := by
          have e0 : ((DP + 1 + M : Nat) : Int) = (DP : Int) + 1 + (M : Int) := by omega
          rw [← e0]; exact hap
        have HRD1 : Hid (∀ w F', Pair w P p q t r p' q' t2 (newT pg pgs rgs) F' G → Calls Try.prog 14 #[.pointer (some ⟨p, 0, none⟩), .int .i64 ((DP : Int) + 1 + (M : Int))] w fun e w' => e = .returned (.tuple #[.string XB, .int .i64 0]) ∧ Below w.heap.size w w') := by
          have e0 : ((DP + 1 + M : Nat) : Int) = (DP : Int) + 1 + (M : Int) := by omega
          rw [← e0]; exact hrd1
        have HRD2 : Hid (∀ w F', Pair w P p q t r p' q' t2 (newT pg pgs rgs) F' G → Calls Try.prog 14 #[.pointer (some ⟨p, 0, none⟩), .int .i64 (DP : Int)] w fun e w' => e = .returned (.tuple #[.string HB, .int .i64 0]) ∧ Below w.heap.size w w') := hrd2
        have HFR1 : Hid (∀ w, Calls Try.prog 15 #[.string XB] w fun e w' => e = .returned (.tuple #[.agg #[.int .i64 2, .int .u32 va, .int .u32 vb, .string BD], .int .i64 0]) ∧ Below w.heap.size w w') := hfr1
        have HFR2 : Hid (∀ w, Calls Try.prog 15 #[.string HB] w fun e w' => e = .returned (.tuple #[.agg #[.int .i64 1, .int .u32 ((D : Int) + 1), .int .u32 (D : Int), .string ⟨#[]⟩], .int .i64 0]) ∧ Below w.heap.size w w') := by
          have e0 : ((D + 1 : Nat) : Int) = (D : Int) + 1 := by omega
          rw [← e0]; exact hfr2
        have HR0 := Lib.hid hr0
        have HR1 := Lib.hid hr1
        have HR2 := Lib.hid hr2
        have HR3 := Lib.hid hr3
        have HRB := Lib.hid hrb
        subst hra
        have zs : ((sl : Int) == 0) = false := by simp; omega
        have zp : ((pgs : Int) == 0) = false := by simp; omega
        have f1 : (((DP : Int) + 1 + (M : Int)) != ((DP : Int) + 1 + (M : Int))) = false := by simp
        have f2 : (((DP : Int) + 1 + (M : Int)) == ((DP : Int) + 1 + (M : Int))) = true := by simp
        have g1 : ((DP : Int) + 1 + (M : Int)).tmod (pgs : Int) = (M : Int) + 1 := by
          have := tmod_nat (DP + 1 + M) pgs
          rw [n2] at this
          rw [show ((DP : Int) + 1 + (M : Int)) = ((DP + 1 + M : Nat) : Int) by omega, this]; omega
        have g2 : ((DP : Int) + 1 + (M : Int)).tdiv (pgs : Int) = (D : Int) := by
          have := tdiv_nat (DP + 1 + M) pgs
          rw [n3] at this
          rw [show ((DP : Int) + 1 + (M : Int)) = ((DP + 1 + M : Nat) : Int) by omega, this]
        have g3 : (DP : Int) + 1 + (M : Int) - ((M : Int) + 1) = (DP : Int) := by omega
        have v1 : ((va : Int) != va) = false := by simp
        have v2 : ((va : Int) == va) = true := by simp
        have v3 : ((vb : Int) != vb) = false := by simp
        have v4 : ((vb : Int) == vb) = true := by simp
        have v5 : (BD.toList == BD.toList) = true := by simp
        have v6 : (BD.toList != BD.toList) = false := by simp
        have v7 : (((D : Int) + 1) != ((D : Int) + 1)) = false := by simp
        have v8 : ((D : Int) != (D : Int)) = false := by simp
        have HXI := Lib.hid hX
        have HVA := Lib.hid hva
        have HVB := Lib.hid hvb
        have HBDD := Lib.hid hBD
        clear hap hrd1 hrd2 hfr1 hfr2 hr0 hr1 hr2 hr3 hrb hva hvb hBD ea hat2 hh1 hh2 hdn hX okX okH hXL hil hDP n2 n3 hpr hDr n1
        go_wp2
        refine wp_region_each3 [some 41, some 42, some 43, some 44, some 45, some 46, some 47, some 48, some 49, some 40, some 50, some 51, some 8, some 9] (TJ [41, 42, 43, 44, 45, 46, 47, 48, 49, 40, 50, 51, 8, 9] [.pointer (some ⟨P, 0, none⟩), .pointer (some ⟨P, 0, none⟩), .pointer (some ⟨P, 2, none⟩), .pointer (some ⟨t, 0, none⟩), .slice (some ⟨rb, roff, none⟩) NX c, .int .i64 (i : Int), .pointer (some ⟨rb, roff + i * 4, none⟩), .agg #[.int .i64 2, .int .u32 va, .int .u32 vb, .string BD], .tuple #[.int .i64 ((DP : Int) + 1 + (M : Int)), .int .i64 0], .tuple #[.int .i64 ((DP : Int) + 1 + (M : Int)), .int .i64 0], .int .i64 ((DP : Int) + 1 + (M : Int)), .int .i64 0, .int .i64 ((DP : Int) + 1 + (M : Int)), .int .i64 0] 8 (fun wx => Grows (both FL G) wr wx) (fun wx => Below wr.heap.size wr wx) (fun wx => ∃ F2, Pair wx P p q t r p' q' t2 (newT pg pgs rgs) F2 G ∧ After (both FL G) wr wx (both F2 G))) (by kernel_rfl) (by kernel_rfl) (by simp [slots]) ?starta ?eacha ?donea
        case starta => exact ⟨by simp, Grows.of_below ((Below.refl _ _).drew), fun _ => (Below.refl _ _).drew, by simp⟩
        case eacha =>
          simp only [Each2]
          refine ⟨?o0, ?o1, ?o2, ?o3, ?o4, ?o5, ?o6, ?o7, ?o8, ?o9, ?o10, ?o11, ?o12, ?o13, trivial⟩
          case o0 =>
            intro d0 ys wx hJ hdi hw hdeps
            clear hdeps
            have HJ := Lib.hid hJ
            clear hJ hw
            simp only [List.getD_cons_succ, List.getD_cons_zero, fill, slots, List.filterMap_cons, List.filterMap_nil, id, List.foldl_cons, List.foldl_nil, Act.put, List.setIfInBounds_toArray, List.set_cons_succ, List.set_cons_zero]
            go_wp2_with fail
            exact ⟨_, rfl, HJ.out.plain (i := 0) (by decide) (by decide) (by decide) rfl (HJ.out.com.trans (S' := fun _ => False) (Grows.of_below (Below.refl _ _)) (fun _ h => h.elim)) (fun h => h.trans (Below.mono (Below.refl _ _) h.size)) (fun h => h.elim fun F2 hh => ⟨F2, hh.1.below (Below.refl _ _), hh.2.trans ⟨Grows.of_below (Below.refl _ _), fun _ h => .inl h⟩⟩)⟩
          case o1 =>
            intro d0 ys wx hJ hdi hw hdeps
            have q0 : d0 0 = true := by simp [Region.Deps2, Go.Region.binds] at hdeps; simp [hdeps]
            have y0 : ys 41 = .pointer (some ⟨P, 0, none⟩) := hJ.val 0 (by decide) q0
            clear hdeps
            have HJ := Lib.hid hJ
            clear hJ hw
            simp only [y0, List.getD_cons_succ, List.getD_cons_zero, fill, slots, List.filterMap_cons, List.filterMap_nil, id, List.foldl_cons, List.foldl_nil, Act.put, List.setIfInBounds_toArray, List.set_cons_succ, List.set_cons_zero]
            go_wp2_with fail
            exact ⟨_, rfl, HJ.out.plain (i := 1) (by decide) (by decide) (by decide) rfl (HJ.out.com.trans (S' := fun _ => False) (Grows.of_below (Below.refl _ _)) (fun _ h => h.elim)) (fun h => h.trans (Below.mono (Below.refl _ _) h.size)) (fun h => h.elim fun F2 hh => ⟨F2, hh.1.below (Below.refl _ _), hh.2.trans ⟨Grows.of_below (Below.refl _ _), fun _ h => .inl h⟩⟩)⟩
          case o2 =>
            intro d0 ys wx hJ hdi hw hdeps
            have q1 : d0 1 = true := by simp [Region.Deps2, Go.Region.binds] at hdeps; simp [hdeps]
            have y1 : ys 42 = .pointer (some ⟨P, 0, none⟩) := hJ.val 1 (by decide) q1
            clear hdeps
            have HJ := Lib.hid hJ
            clear hJ hw
            simp only [y1, List.getD_cons_succ, List.getD_cons_zero, fill, slots, List.filterMap_cons, List.filterMap_nil, id, List.foldl_cons, List.foldl_nil, Act.put, List.setIfInBounds_toArray, List.set_cons_succ, List.set_cons_zero]
            go_wp2_with fail
            exact ⟨_, rfl, HJ.out.plain (i := 2) (by decide) (by decide) (by decide) rfl (HJ.out.com.trans (S' := fun _ => False) (Grows.of_below (Below.refl _ _)) (fun _ h => h.elim)) (fun h => h.trans (Below.mono (Below.refl _ _) h.size)) (fun h => h.elim fun F2 hh => ⟨F2, hh.1.below (Below.refl _ _), hh.2.trans ⟨Grows.of_below (Below.refl _ _), fun _ h => .inl h⟩⟩)⟩
          case o3 =>
            intro d0 ys wx hJ hdi hw hdeps
            have q2 : d0 2 = true := by simp [Region.Deps2, Go.Region.binds] at hdeps; simp [hdeps]
            have y2 : ys 43 = .pointer (some ⟨P, 2, none⟩) := hJ.val 2 (by decide) q2
            clear hdeps
            have hC := Lib.hid hJ.com
            have vP := hC.out.var HP.out.var (fun h => h.elim HP.out.nF HP.out.nG)
            have p0 := vP.cell (j := 0) rfl
            have p1 := vP.cell (j := 1) rfl
            have p2 := vP.cell (j := 2) rfl
            have p3 := vP.cell (j := 3) rfl
            unfold ptr at p0 p1 p2 p3
            clear vP
            have vX := hC.out.var VG.out NG.out
            have g0 := vX.cell (j := 0) rfl
            have g1 := vX.cell (j := 1) rfl
            have g2 := vX.cell (j := 2) rfl
            clear vX
            have r0 : wx.cell? ⟨rb, roff + i * 4, none⟩ = some (.int .i64 2) := hC.out.cell (p := ⟨rb, roff + i * 4, none⟩) HR0.out RN.out
            have r1 : wx.cell? ⟨rb, roff + i * 4 + 1, none⟩ = some (.int .u32 va) := hC.out.cell (p := ⟨rb, roff + i * 4 + 1, none⟩) HR1.out RN.out
            have r2 : wx.cell? ⟨rb, roff + i * 4 + 2, none⟩ = some (.int .u32 vb) := hC.out.cell (p := ⟨rb, roff + i * 4 + 2, none⟩) HR2.out RN.out
            have r3 : wx.cell? ⟨rb, roff + i * 4 + 3, none⟩ = some (.string BD) := hC.out.cell (p := ⟨rb, roff + i * 4 + 3, none⟩) HR3.out RN.out
            have HJ := Lib.hid hJ
            clear hJ hw
            simp only [y2, List.getD_cons_succ, List.getD_cons_zero, fill, slots, List.filterMap_cons, List.filterMap_nil, id, List.foldl_cons, List.foldl_nil, Act.put, List.setIfInBounds_toArray, List.set_cons_succ, List.set_cons_zero]
            go_wp2_with fail
            exact ⟨_, rfl, HJ.out.plain (i := 3) (by decide) (by decide) (by decide) rfl (HJ.out.com.trans (S' := fun _ => False) (Grows.of_below (Below.refl _ _)) (fun _ h => h.elim)) (fun h => h.trans (Below.mono (Below.refl _ _) h.size)) (fun h => h.elim fun F2 hh => ⟨F2, hh.1.below (Below.refl _ _), hh.2.trans ⟨Grows.of_below (Below.refl _ _), fun _ h => .inl h⟩⟩)⟩
          case o4 =>
            intro d0 ys wx hJ hdi hw hdeps
            clear hdeps
            have HJ := Lib.hid hJ
            clear hJ hw
            simp only [List.getD_cons_succ, List.getD_cons_zero, fill, slots, List.filterMap_cons, List.filterMap_nil, id, List.foldl_cons, List.foldl_nil, Act.put, List.setIfInBounds_toArray, List.set_cons_succ, List.set_cons_zero]
            go_wp2_with fail
            exact ⟨_, rfl, HJ.out.plain (i := 4) (by decide) (by decide) (by decide) rfl (HJ.out.com.trans (S' := fun _ => False) (Grows.of_below (Below.refl _ _)) (fun _ h => h.elim)) (fun h => h.trans (Below.mono (Below.refl _ _) h.size)) (fun h => h.elim fun F2 hh => ⟨F2, hh.1.below (Below.refl _ _), hh.2.trans ⟨Grows.of_below (Below.refl _ _), fun _ h => .inl h⟩⟩)⟩
          case o5 =>
            intro d0 ys wx hJ hdi hw hdeps
            clear hdeps
            have HJ := Lib.hid hJ
            clear hJ hw
            simp only [List.getD_cons_succ, List.getD_cons_zero, fill, slots, List.filterMap_cons, List.filterMap_nil, id, List.foldl_cons, List.foldl_nil, Act.put, List.setIfInBounds_toArray, List.set_cons_succ, List.set_cons_zero]
            go_wp2_with fail
            exact ⟨_, rfl, HJ.out.plain (i := 5) (by decide) (by decide) (by decide) rfl (HJ.out.com.trans (S' := fun _ => False) (Grows.of_below (Below.refl _ _)) (fun _ h => h.elim)) (fun h => h.trans (Below.mono (Below.refl _ _) h.size)) (fun h => h.elim fun F2 hh => ⟨F2, hh.1.below (Below.refl _ _), hh.2.trans ⟨Grows.of_below (Below.refl _ _), fun _ h => .inl h⟩⟩)⟩
          case o6 =>
            intro d0 ys wx hJ hdi hw hdeps
            have q4 : d0 4 = true := by simp [Region.Deps2, Go.Region.binds] at hdeps; simp [hdeps]
            have y4 : ys 45 = .slice (some ⟨rb, roff, none⟩) NX c := hJ.val 4 (by decide) q4
            have q5 : d0 5 = true := by simp [Region.Deps2, Go.Region.binds] at hdeps; simp [hdeps]
            have y5 : ys 46 = .int .i64 (i : Int) := hJ.val 5 (by decide) q5
            clear hdeps
            have HJ := Lib.hid hJ
            clear hJ hw
            simp only [y4, y5, List.getD_cons_succ, List.getD_cons_zero, fill, slots, List.filterMap_cons, List.filterMap_nil, id, List.foldl_cons, List.foldl_nil, Act.put, List.setIfInBounds_toArray, List.set_cons_succ, List.set_cons_zero]
            go_wp2_with fail
            exact ⟨_, rfl, HJ.out.plain (i := 6) (by decide) (by decide) (by decide) rfl (HJ.out.com.trans (S' := fun _ => False) (Grows.of_below (Below.refl _ _)) (fun _ h => h.elim)) (fun h => h.trans (Below.mono (Below.refl _ _) h.size)) (fun h => h.elim fun F2 hh => ⟨F2, hh.1.below (Below.refl _ _), hh.2.trans ⟨Grows.of_below (Below.refl _ _), fun _ h => .inl h⟩⟩)⟩
          case o7 =>
            intro d0 ys wx hJ hdi hw hdeps
            have q6 : d0 6 = true := by simp [Region.Deps2, Go.Region.binds] at hdeps; simp [hdeps]
            have y6 : ys 47 = .pointer (some ⟨rb, roff + i * 4, none⟩) := hJ.val 6 (by decide) q6
            clear hdeps
            have hC := Lib.hid hJ.com
            have vP := hC.out.var HP.out.var (fun h => h.elim HP.out.nF HP.out.nG)
            have p0 := vP.cell (j := 0) rfl
            have p1 := vP.cell (j := 1) rfl
            have p2 := vP.cell (j := 2) rfl
            have p3 := vP.cell (j := 3) rfl
            unfold ptr at p0 p1 p2 p3
            clear vP
            have vX := hC.out.var VG.out NG.out
            have g0 := vX.cell (j := 0) rfl
            have g1 := vX.cell (j := 1) rfl
            have g2 := vX.cell (j := 2) rfl
            clear vX
            have r0 : wx.cell? ⟨rb, roff + i * 4, none⟩ = some (.int .i64 2) := hC.out.cell (p := ⟨rb, roff + i * 4, none⟩) HR0.out RN.out
            have r1 : wx.cell? ⟨rb, roff + i * 4 + 1, none⟩ = some (.int .u32 va) := hC.out.cell (p := ⟨rb, roff + i * 4 + 1, none⟩) HR1.out RN.out
            have r2 : wx.cell? ⟨rb, roff + i * 4 + 2, none⟩ = some (.int .u32 vb) := hC.out.cell (p := ⟨rb, roff + i * 4 + 2, none⟩) HR2.out RN.out
            have r3 : wx.cell? ⟨rb, roff + i * 4 + 3, none⟩ = some (.string BD) := hC.out.cell (p := ⟨rb, roff + i * 4 + 3, none⟩) HR3.out RN.out
            have HJ := Lib.hid hJ
            clear hJ hw
            simp only [y6, List.getD_cons_succ, List.getD_cons_zero, fill, slots, List.filterMap_cons, List.filterMap_nil, id, List.foldl_cons, List.foldl_nil, Act.put, List.setIfInBounds_toArray, List.set_cons_succ, List.set_cons_zero]
            go_wp2_with fail
            exact ⟨_, rfl, HJ.out.plain (i := 7) (by decide) (by decide) (by decide) rfl (HJ.out.com.trans (S' := fun _ => False) (Grows.of_below (Below.refl _ _)) (fun _ h => h.elim)) (fun h => h.trans (Below.mono (Below.refl _ _) h.size)) (fun h => h.elim fun F2 hh => ⟨F2, hh.1.below (Below.refl _ _), hh.2.trans ⟨Grows.of_below (Below.refl _ _), fun _ h => .inl h⟩⟩)⟩
          case o8 =>
            intro d0 ys wx hJ hdi hw hdeps
            have q3 : d0 3 = true := by simp [Region.Deps2, Go.Region.binds] at hdeps; simp [hdeps]
            have y3 : ys 44 = .pointer (some ⟨t, 0, none⟩) := hJ.val 3 (by decide) q3
            have q7 : d0 7 = true := by simp [Region.Deps2, Go.Region.binds] at hdeps; simp [hdeps]
            have y7 : ys 48 = .agg #[.int .i64 2, .int .u32 va, .int .u32 vb, .string BD] := hJ.val 7 (by decide) q7
            clear hdeps
            have hC := Lib.hid hJ.com
            have hB := Lib.hid (hJ.m0 hdi)
            have HJ := Lib.hid hJ
            clear hJ hw
            simp only [y3, y7, List.getD_cons_succ, List.getD_cons_zero, fill, slots, List.filterMap_cons, List.filterMap_nil, id, List.foldl_cons, List.foldl_nil, Act.put, List.setIfInBounds_toArray, List.set_cons_succ, List.set_cons_zero]
            go_wp2_with (go_at_call 13; (with_reducible refine (HAP.out _ _ (HP.out.below hB.out)).mono ?_); rintro e wy ⟨rfl, Fy, hy, ay⟩)
            exact ⟨_, rfl, HJ.out.turn (by decide) (by decide) rfl (hC.out.trans (S' := both FL G) ay.grows (fun _ h => .inl h)) ⟨Fy, hy, After.trans (S1 := both FL G) ⟨Grows.of_below hB.out, fun _ h => .inl h⟩ ay⟩⟩
          case o9 =>
            intro d0 ys wx hJ hdi hw hdeps
            have q8 : d0 8 = true := by simp [Region.Deps2, Go.Region.binds] at hdeps; simp [hdeps]
            have y8 : ys 49 = .tuple #[.int .i64 ((DP : Int) + 1 + (M : Int)), .int .i64 0] := hJ.val 8 (by decide) q8
            clear hdeps
            have HJ := Lib.hid hJ
            clear hJ hw
            simp only [y8, List.getD_cons_succ, List.getD_cons_zero, fill, slots, List.filterMap_cons, List.filterMap_nil, id, List.foldl_cons, List.foldl_nil, Act.put, List.setIfInBounds_toArray, List.set_cons_succ, List.set_cons_zero]
            go_wp2_with fail
            exact ⟨_, rfl, HJ.out.plain (i := 9) (by decide) (by decide) (by decide) rfl (HJ.out.com.trans (S' := fun _ => False) (Grows.of_below (Below.refl _ _)) (fun _ h => h.elim)) (fun h => h.trans (Below.mono (Below.refl _ _) h.size)) (fun h => h.elim fun F2 hh => ⟨F2, hh.1.below (Below.refl _ _), hh.2.trans ⟨Grows.of_below (Below.refl _ _), fun _ h => .inl h⟩⟩)⟩
          case o10 =>
            intro d0 ys wx hJ hdi hw hdeps
            have q9 : d0 9 = true := by simp [Region.Deps2, Go.Region.binds] at hdeps; simp [hdeps]
            have y9 : ys 40 = .tuple #[.int .i64 ((DP : Int) + 1 + (M : Int)), .int .i64 0] := hJ.val 9 (by decide) q9
            clear hdeps
            have HJ := Lib.hid hJ
            clear hJ hw
            simp only [y9, List.getD_cons_succ, List.getD_cons_zero, fill, slots, List.filterMap_cons, List.filterMap_nil, id, List.foldl_cons, List.foldl_nil, Act.put, List.setIfInBounds_toArray, List.set_cons_succ, List.set_cons_zero]
            go_wp2_with fail
            exact ⟨_, rfl, HJ.out.plain (i := 10) (by decide) (by decide) (by decide) rfl (HJ.out.com.trans (S' := fun _ => False) (Grows.of_below (Below.refl _ _)) (fun _ h => h.elim)) (fun h => h.trans (Below.mono (Below.refl _ _) h.size)) (fun h => h.elim fun F2 hh => ⟨F2, hh.1.below (Below.refl _ _), hh.2.trans ⟨Grows.of_below (Below.refl _ _), fun _ h => .inl h⟩⟩)⟩
          case o11 =>
            intro d0 ys wx hJ hdi hw hdeps
            have q9 : d0 9 = true := by simp [Region.Deps2, Go.Region.binds] at hdeps; simp [hdeps]
            have y9 : ys 40 = .tuple #[.int .i64 ((DP : Int) + 1 + (M : Int)), .int .i64 0] := hJ.val 9 (by decide) q9
            clear hdeps
            have HJ := Lib.hid hJ
            clear hJ hw
            simp only [y9, List.getD_cons_succ, List.getD_cons_zero, fill, slots, List.filterMap_cons, List.filterMap_nil, id, List.foldl_cons, List.foldl_nil, Act.put, List.setIfInBounds_toArray, List.set_cons_succ, List.set_cons_zero]
            go_wp2_with fail
            exact ⟨_, rfl, HJ.out.plain (i := 11) (by decide) (by decide) (by decide) rfl (HJ.out.com.trans (S' := fun _ => False) (Grows.of_below (Below.refl _ _)) (fun _ h => h.elim)) (fun h => h.trans (Below.mono (Below.refl _ _) h.size)) (fun h => h.elim fun F2 hh => ⟨F2, hh.1.below (Below.refl _ _), hh.2.trans ⟨Grows.of_below (Below.refl _ _), fun _ h => .inl h⟩⟩)⟩
          case o12 =>
            intro d0 ys wx hJ hdi hw hdeps
            have q10 : d0 10 = true := by simp [Region.Deps2, Go.Region.binds] at hdeps; simp [hdeps]
            have y10 : ys 50 = .int .i64 ((DP : Int) + 1 + (M : Int)) := hJ.val 10 (by decide) q10
            clear hdeps
            have HJ := Lib.hid hJ
            clear hJ hw
            simp only [y10, List.getD_cons_succ, List.getD_cons_zero, fill, slots, List.filterMap_cons, List.filterMap_nil, id, List.foldl_cons, List.foldl_nil, Act.put, List.setIfInBounds_toArray, List.set_cons_succ, List.set_cons_zero]
            go_wp2_with fail
            exact ⟨_, rfl, HJ.out.plain (i := 12) (by decide) (by decide) (by decide) rfl (HJ.out.com.trans (S' := fun _ => False) (Grows.of_below (Below.refl _ _)) (fun _ h => h.elim)) (fun h => h.trans (Below.mono (Below.refl _ _) h.size)) (fun h => h.elim fun F2 hh => ⟨F2, hh.1.below (Below.refl _ _), hh.2.trans ⟨Grows.of_below (Below.refl _ _), fun _ h => .inl h⟩⟩)⟩
          case o13 =>
            intro d0 ys wx hJ hdi hw hdeps
            have q11 : d0 11 = true := by simp [Region.Deps2, Go.Region.binds] at hdeps; simp [hdeps]
            have y11 : ys 51 = .int .i64 0 := hJ.val 11 (by decide) q11
            clear hdeps
            have HJ := Lib.hid hJ
            clear hJ hw
            simp only [y11, List.getD_cons_succ, List.getD_cons_zero, fill, slots, List.filterMap_cons, List.filterMap_nil, id, List.foldl_cons, List.foldl_nil, Act.put, List.setIfInBounds_toArray, List.set_cons_succ, List.set_cons_zero]
            go_wp2_with fail
            exact ⟨_, rfl, HJ.out.plain (i := 13) (by decide) (by decide) (by decide) rfl (HJ.out.com.trans (S' := fun _ => False) (Grows.of_below (Below.refl _ _)) (fun _ h => h.elim)) (fun h => h.trans (Below.mono (Below.refl _ _) h.size)) (fun h => h.elim fun F2 hh => ⟨F2, hh.1.below (Below.refl _ _), hh.2.trans ⟨Grows.of_below (Below.refl _ _), fun _ h => .inl h⟩⟩)⟩
        case donea =>
          intro d0 ys wx hJ hall
          have hM : ∃ F2, Pair wx P p q t r p' q' t2 (newT pg pgs rgs) F2 G ∧ After (both FL G) wr wx (both F2 G) := hJ.m1 (hall 8 (by decide))
          have h8 : ys 8 = .int .i64 ((DP : Int) + 1 + (M : Int)) := hJ.val 12 (by decide) (hall 12 (by decide))
          have h9 : ys 9 = .int .i64 0 := hJ.val 13 (by decide) (hall 13 (by decide))
          clear hJ hall
          simp only [h8, h9, List.getD_cons_succ, List.getD_cons_zero, fill, slots, List.filterMap_cons, List.filterMap_nil, id, List.foldl_cons, List.foldl_nil, Act.put, List.setIfInBounds_toArray, List.set_cons_succ, List.set_cons_zero]
          with_reducible refine Exists.elim hM ?_
          intro F2 hMM
          have ht0 := Lib.hid hMM.1
          have at0 := Lib.hid hMM.2
          clear hM hMM
          obtain ⟨wt0, hwt0⟩ : ∃ wy, wy = wx := ⟨_, rfl⟩
          rw [← hwt0] at ht0 at0 ⊢
          clear hwt0
          have vwAt1g := Lib.hid (at0.out.grows.var VG.out NG.out)
          have nnAt1g := Lib.hid (not_after at0.out NG.out VG.out.lt)
          have kkAt1R := Lib.hid (RK.out.after at0.out)
          have bwAt1 := Lib.hid (BL.out.trans (at0.out.grows.below BL.out.size FTL.out))
          have ftAt1 := Lib.hid (at0.out.beyond BL.out.size FTL.out)
          have zwAt1 := Lib.hid at0.out.grows.size
          go_wp2
          refine wp_region_is [52, 53, 54, 55, 56, 57, 58, 59, 60, 61, 62, 63, 64, 65, 66, 67, 68, 69, 70] (fun w' => Below wt0.heap.size wt0 w')
            [.int .i64 0, .bool false, .bool false, .int .i64 ((DP : Int) + 1 + (M : Int)), .int .i64 (i : Int), .agg #[.int .i64 (pg : Int), .int .i64 (pgs : Int), .int .i64 (rgs : Int)], .int .i64 (sl : Int), .int .i64 (D : Int), .pointer (some ⟨w.heap.size, 1, none⟩), .int .i64 (pgs : Int), .int .i64 (DP : Int), .int .i64 ((DP : Int) + 1), .int .i64 (i : Int), .agg #[.int .i64 (pg : Int), .int .i64 (pgs : Int), .int .i64 (rgs : Int)], .int .i64 (sl : Int), .int .i64 (M : Int), .int .i64 ((DP : Int) + 1 + (M : Int)), .bool false, .bool false] (by kernel_rfl) (by kernel_rfl) rfl (by decide) (by simp) (Below.refl _ _).drew ?eachk ?donek
          case eachk =>
            simp only [Each]
            repeat' (first | exact trivial | refine And.intro ?_ ?_)
            all_goals
              intro ys wx hBx hdeps
              simp only [Deps, Region.binds, List.getD_cons_zero, List.getD_cons_succ, forall_const, and_true] at hdeps
              have qA1 := (vwAt1g.out.below hBx vwAt1g.out.lt).cell (j := 0) rfl
              have qA2 := (vwAt1g.out.below hBx vwAt1g.out.lt).cell (j := 1) rfl
              have qA3 := (vwAt1g.out.below hBx vwAt1g.out.lt).cell (j := 2) rfl
              simp only [hdeps, fill, List.foldl_cons, List.foldl_nil, Act.put, List.setIfInBounds_toArray, List.set_cons_succ, List.set_cons_zero]
              first
                | (go_wp2_with fail; exact ⟨_, rfl, rfl, hBx, Below.refl _ _⟩)
                | (go_wp2_with (go_at_call 12; (with_reducible refine (HSL.out _).mono ?_); rintro e w3 ⟨rfl, hm⟩); exact ⟨_, rfl, rfl, hBx.trans (hm.mono hBx.size), hm⟩)
          case donek =>
            intro ys wx hBx hV
            obtain ⟨wA2, hwA2⟩ : ∃ wy, wy = wx := ⟨_, rfl⟩
            rw [← hwA2] at hBx ⊢
            have bwA2 := Lib.hid (bel2 bwAt1.out hBx)
            have zwA2 := Lib.hid hBx.size
            have vwA2g := Lib.hid (vwAt1g.out.below hBx vwAt1g.out.lt)
            have kwA2H := Lib.hid (ht0.out.below hBx)
            have kwA2R := Lib.hid (kkAt1R.out.below hBx)
            have h70 : ys 70 = .bool false := hV 18 (by decide)
            clear hBx hV hwA2
            simp only [h70, fill, List.drop_succ_cons, List.drop_zero, List.foldl_cons, List.foldl_nil, Act.put, List.setIfInBounds_toArray, List.set_cons_succ, List.set_cons_zero]
            have pp0 := kwA2H.out.var.cell (j := 0) rfl
            unfold ptr at pp0
            go_wp2_with (first
    | (go_at_call 14; ((with_reducible refine (HRD1.out _ _ kwA2H.out).mono ?_); rintro e wA3 ⟨rfl, bz⟩; have hbel : Below wA2.heap.size wA2 wA3 := (by exact bz); clear bz; have bwA3 := Lib.hid (bel2 bwA2.out hbel); have zwA3 := Lib.hid hbel.size; have vwA3g := Lib.hid (vwA2g.out.below hbel vwA2g.out.lt); have kwA3H := Lib.hid (kwA2H.out.below hbel); have kwA3R := Lib.hid (kwA2R.out.below hbel); clear hbel; clear pp0))
    | (go_at_call 15; ((with_reducible refine (HFR1.out _).mono ?_); rintro e wA4 ⟨rfl, bz⟩; have hbel : Below wA3.heap.size wA3 wA4 := (by exact bz); clear bz; have bwA4 := Lib.hid (bel2 bwA3.out hbel); have zwA4 := Lib.hid hbel.size; have vwA4g := Lib.hid (vwA3g.out.below hbel vwA3g.out.lt); have kwA4H := Lib.hid (kwA3H.out.below hbel); have kwA4R := Lib.hid (kwA3R.out.below hbel); clear hbel)))
            obtain ⟨wA5, hwA5⟩ : ∃ wx, wx = (wA4.alloc (.cells #[.int .i64 2, .int .u32 va, .int .u32 vb, .string BD] 43)) := ⟨_, rfl⟩
            have bwA5 := Lib.hid (show Below w.heap.size w wA5 by rw [hwA5]; exact (bel2 bwA4.out (Geom.bel_alloc _ _)))
            have zwA5 := Lib.hid (show wA4.heap.size + 1 ≤ wA5.heap.size by rw [hwA5]; simp)
            have vwA5g := Lib.hid (show Var wA5 (w.heap.size) 23 [.int .i64 (pg : Int), .int .i64 (pgs : Int), .int .i64 (rgs : Int)] by rw [hwA5]; exact (vwA4g.out.alloc _))
            have vwA5y := Lib.hid (show Var wA5 (wA4.heap.size) 43 [.int .i64 2, .int .u32 va, .int .u32 vb, .string BD] by rw [hwA5]; exact (Var.new wA4 43 [.int .i64 2, .int .u32 va, .int .u32 vb, .string BD]))
            have hnm : Below wA4.heap.size wA4 wA5 := (by rw [hwA5]; exact (Geom.bel_alloc _ _))
            have kwA5H := Lib.hid (kwA4H.out.below hnm)
            have kwA5R := Lib.hid (kwA4R.out.below hnm)
            clear hnm
            rw [← hwA5]
            refine wp_region_is [86, 87, 88, 89, 90, 91, 92, 93, 94, 95, 96, 85, 97, 98, 10] (fun w' => Below wA5.heap.size wA5 w')
              [.pointer (some ⟨P, 0, none⟩), .pointer (some ⟨P, 0, none⟩), .pointer (some ⟨P, 0, none⟩), .pointer (some ⟨p, 0, none⟩), .int .i64 ((DP : Int) + 1 + (M : Int)), .int .i64 ((DP : Int) + 1 + (M : Int)), .pointer (some ⟨w.heap.size, 1, none⟩), .int .i64 (pgs : Int), .int .i64 ((M : Int) + 1), .int .i64 (DP : Int), .tuple #[.string HB, .int .i64 0], .tuple #[.string HB, .int .i64 0], .string HB, .int .i64 0, .string HB] (by kernel_rfl) (by kernel_rfl) rfl (by decide) (by simp) (Below.refl _ _).drew ?eachm ?donem
            case eachm =>
              simp only [Each]
              repeat' (first | exact trivial | refine And.intro ?_ ?_)
              all_goals
                intro ys wx hBx hdeps
                simp only [Deps, Region.binds, List.getD_cons_zero, List.getD_cons_succ, forall_const, and_true] at hdeps
                have qA4 := (vwA5g.out.below hBx vwA5g.out.lt).cell (j := 0) rfl
                have qA5 := (vwA5g.out.below hBx vwA5g.out.lt).cell (j := 1) rfl
                have qA6 := (vwA5g.out.below hBx vwA5g.out.lt).cell (j := 2) rfl
                have vP := (kwA5H.out.below hBx).var; have p0 := vP.cell (j := 0) rfl; unfold ptr at p0; clear vP; simp only [hdeps, fill, List.foldl_cons, List.foldl_nil, Act.put, List.setIfInBounds_toArray, List.set_cons_succ, List.set_cons_zero]
                first
                  | (go_wp2_with fail; exact ⟨_, rfl, rfl, hBx, Below.refl _ _⟩)
                  | (go_wp2_with (go_at_call 14; (with_reducible refine (HRD2.out _ _ (kwA5H.out.below hBx)).mono ?_); rintro e w3 ⟨rfl, hm⟩); exact ⟨_, rfl, rfl, hBx.trans (hm.mono hBx.size), hm⟩)
            case donem =>
              intro ys wx hBx hV
              obtain ⟨wA6, hwA6⟩ : ∃ wy, wy = wx := ⟨_, rfl⟩
              rw [← hwA6] at hBx ⊢
              have bwA6 := Lib.hid (bel2 bwA5.out hBx)
              have zwA6 := Lib.hid hBx.size
              have vwA6g := Lib.hid (vwA5g.out.below hBx vwA5g.out.lt)
              have vwA6y := Lib.hid (vwA5y.out.below hBx vwA5y.out.lt)
              have kwA6H := Lib.hid (kwA5H.out.below hBx)
              have kwA6R := Lib.hid (kwA5R.out.below hBx)
              have h10 : ys 10 = .string HB := hV 14 (by decide)
              clear hBx hV hwA6
              simp only [h10, fill, List.drop_succ_cons, List.drop_zero, List.foldl_cons, List.foldl_nil, Act.put, List.setIfInBounds_toArray, List.set_cons_succ, List.set_cons_zero]
              go_wp2_with (go_at_call 15; ((with_reducible refine (HFR2.out _).mono ?_); rintro e wA7 ⟨rfl, bz⟩; have hbel : Below wA6.heap.size wA6 wA7 := (by exact bz); clear bz; have bwA7 := Lib.hid (bel2 bwA6.out hbel); have zwA7 := Lib.hid hbel.size; have vwA7g := Lib.hid (vwA6g.out.below hbel vwA6g.out.lt); have vwA7y := Lib.hid (vwA6y.out.below hbel vwA6y.out.lt); have kwA7H := Lib.hid (kwA6H.out.below hbel); have kwA7R := Lib.hid (kwA6R.out.below hbel); clear hbel))
              obtain ⟨wA8, hwA8⟩ : ∃ wx, wx = (wA7.alloc (.cells #[.int .i64 1, .int .u32 ((D : Int) + 1), .int .u32 (D : Int), .string ⟨#[]⟩] 43)) := ⟨_, rfl⟩
              have bwA8 := Lib.hid (show Below w.heap.size w wA8 by rw [hwA8]; exact (bel2 bwA7.out (Geom.bel_alloc _ _)))
              have zwA8 := Lib.hid (show wA7.heap.size + 1 ≤ wA8.heap.size by rw [hwA8]; simp)
              have vwA8g := Lib.hid (show Var wA8 (w.heap.size) 23 [.int .i64 (pg : Int), .int .i64 (pgs : Int), .int .i64 (rgs : Int)] by rw [hwA8]; exact (vwA7g.out.alloc _))
              have vwA8y := Lib.hid (show Var wA8 (wA4.heap.size) 43 [.int .i64 2, .int .u32 va, .int .u32 vb, .string BD] by rw [hwA8]; exact (vwA7y.out.alloc _))
              have vwA8h := Lib.hid (show Var wA8 (wA7.heap.size) 43 [.int .i64 1, .int .u32 ((D : Int) + 1), .int .u32 (D : Int), .string ⟨#[]⟩] by rw [hwA8]; exact (Var.new wA7 43 [.int .i64 1, .int .u32 ((D : Int) + 1), .int .u32 (D : Int), .string ⟨#[]⟩]))
              have hnm : Below wA7.heap.size wA7 wA8 := (by rw [hwA8]; exact (Geom.bel_alloc _ _))
              have kwA8H := Lib.hid (kwA7H.out.below hnm)
              have kwA8R := Lib.hid (kwA7R.out.below hnm)
              clear hnm
              rw [← hwA8]
              refine wp_region_is [104, 105, 106, 107, 108, 109, 110, 111, 112, 113, 114, 115, 116, 117, 118, 119, 120, 121, 122, 123, 124, 125, 126, 127, 128, 129, 130, 131, 132, 133] (fun w' => Below wA8.heap.size wA8 w')
                [.int .i64 0, .bool false, .bool false, .agg #[.int .i64 2, .int .u32 va, .int .u32 vb, .string BD], .slice (some ⟨rb, roff, none⟩) NX c, .int .i64 (i : Int), .pointer (some ⟨rb, roff + i * 4, none⟩), .agg #[.int .i64 2, .int .u32 va, .int .u32 vb, .string BD], .bool false, .bool false, .bool false, .int .i64 0, .bool false, .bool false, .bool false, .agg #[.int .i64 1, .int .u32 ((D : Int) + 1), .int .u32 (D : Int), .string ⟨#[]⟩], .int .i64 (i : Int), .agg #[.int .i64 (pg : Int), .int .i64 (pgs : Int), .int .i64 (rgs : Int)], .int .i64 (sl : Int), .int .i64 (D : Int), .int .i64 ((D : Int) + 1), .int .u32 ((D : Int) + 1), .int .i64 ((DP : Int) + 1 + (M : Int)), .pointer (some ⟨w.heap.size, 1, none⟩), .int .i64 (pgs : Int), .int .i64 (D : Int), .int .u32 (D : Int), .agg #[.int .i64 1, .int .u32 ((D : Int) + 1), .int .u32 (D : Int), .string ⟨#[]⟩], .bool false, .bool false] (by kernel_rfl) (by kernel_rfl) rfl (by decide) (by simp) (Below.refl _ _).drew ?eachn ?donen
              case eachn =>
                simp only [Each]
                repeat' (first | exact trivial | refine And.intro ?_ ?_)
                all_goals
                  intro ys wx hBx hdeps
                  simp only [Deps, Region.binds, List.getD_cons_zero, List.getD_cons_succ, forall_const, and_true] at hdeps
                  have qA7 := (vwA8g.out.below hBx vwA8g.out.lt).cell (j := 0) rfl
                  have qA8 := (vwA8g.out.below hBx vwA8g.out.lt).cell (j := 1) rfl
                  have qA9 := (vwA8g.out.below hBx vwA8g.out.lt).cell (j := 2) rfl
                  have qA10 := (vwA8y.out.below hBx vwA8y.out.lt).cell (j := 0) rfl
                  have qA11 := (vwA8y.out.below hBx vwA8y.out.lt).cell (j := 1) rfl
                  have qA12 := (vwA8y.out.below hBx vwA8y.out.lt).cell (j := 2) rfl
                  have qA13 := (vwA8y.out.below hBx vwA8y.out.lt).cell (j := 3) rfl
                  have qA14 := (vwA8h.out.below hBx vwA8h.out.lt).cell (j := 0) rfl
                  have qA15 := (vwA8h.out.below hBx vwA8h.out.lt).cell (j := 1) rfl
                  have qA16 := (vwA8h.out.below hBx vwA8h.out.lt).cell (j := 2) rfl
                  have qA17 := (vwA8h.out.below hBx vwA8h.out.lt).cell (j := 3) rfl
                  have rr := RowKept.cells (kwA8R.out.below hBx) HXI.out HVA.out HVB.out HBDD.out; have r0 := rr.1; have r1 := rr.2.1; have r2 := rr.2.2.1; have r3 := rr.2.2.2; clear rr; simp only at r0; simp only [hdeps, fill, List.foldl_cons, List.foldl_nil, Act.put, List.setIfInBounds_toArray, List.set_cons_succ, List.set_cons_zero]
                  first
                    | (go_wp2_with fail; exact ⟨_, rfl, rfl, hBx, Below.refl _ _⟩)
                    | (go_wp2_with (go_at_call 12; (with_reducible refine (HSL.out _).mono ?_); rintro e w3 ⟨rfl, hm⟩); exact ⟨_, rfl, rfl, hBx.trans (hm.mono hBx.size), hm⟩)
              case donen =>
                intro ys wx hBx hV
                obtain ⟨wA9, hwA9⟩ : ∃ wy, wy = wx := ⟨_, rfl⟩
                rw [← hwA9] at hBx ⊢
                have bwA9 := Lib.hid (bel2 bwA8.out hBx)
                have zwA9 := Lib.hid hBx.size
                have vwA9g := Lib.hid (vwA8g.out.below hBx vwA8g.out.lt)
                have vwA9y := Lib.hid (vwA8y.out.below hBx vwA8y.out.lt)
                have vwA9h := Lib.hid (vwA8h.out.below hBx vwA8h.out.lt)
                have kwA9H := Lib.hid (kwA8H.out.below hBx)
                have kwA9R := Lib.hid (kwA8R.out.below hBx)
                have h133 : ys 133 = .bool false := hV 29 (by decide)
                clear hBx hV hwA9
                simp only [h133, fill, List.drop_succ_cons, List.drop_zero, List.foldl_cons, List.foldl_nil, Act.put, List.setIfInBounds_toArray, List.set_cons_succ, List.set_cons_zero]
                go_wp2
                go_roundw
                case rel => exact ⟨i + 1, t2, F2, by go_num, by omega, HAT2.out, OK2.out, kwA9H.out, ⟨vwA9g.out, nnAt1g.out⟩, kwA9R.out, bwA9.out, ftAt1.out⟩
                case measure => simp [intOf]; omega
      · obtain rfl : i = NX := by omega
        have d1 : decide ((i : Int) < (i : Int)) = false := by simp
        have d2 : decide (i < i) = false := by simp
        obtain ⟨m, u, hF, _⟩ := HAT.out
        have e2 : (flushT tp).1 = 0 := by rw [flush_full hF]
        have e3 : (flushT tp).2.d.wait.length = 0 := by rw [flush_full hF]; rfl
        have OKF := Lib.hid (flush_ok HOK.out)
        have h2 := fun w F' (h : Pair w P p q t r p' q' tp (newT pg pgs rgs) F' G) => pFlush h HOK.out
        rw [e2] at h2
        have HC2 := Lib.hid h2
        have h3 := fun w F' (h : Pair w P p q t r p' q' (flushT tp).2 (newT pg pgs rgs) F' G) => pPending h OKF.out
        rw [e3] at h3
        have HC3 := Lib.hid h3
        have pp2 := HP.out.var.cell (j := 2) rfl
        unfold ptr at pp2
        clear h2 h3 e2 e3 hF
        go_wp2_with (first
          | (go_at_call 16; ((with_reducible refine (HC2.out _ _ HP.out).mono ?_); rintro e wtB0 ⟨rfl, F3, hpx, hax⟩; have htB0 := Lib.hid hpx; have atB0 := Lib.hid hax; clear hpx hax; have vwBt1g := Lib.hid (atB0.out.grows.var VG.out NG.out); have nnBt1g := Lib.hid (not_after atB0.out NG.out VG.out.lt); have bwBt1 := Lib.hid (BL.out.trans (atB0.out.grows.below BL.out.size FTL.out)); have ftBt1 := Lib.hid (atB0.out.beyond BL.out.size FTL.out); have zwBt1 := Lib.hid atB0.out.grows.size; clear pp2; have pq1 := htB0.out.var.cell (j := 0) rfl; unfold ptr at pq1))
          | (go_at_call 17; ((with_reducible refine (HC3.out _ _ htB0.out).mono ?_); rintro e wB2 ⟨rfl, bz⟩; have hbel : Below wtB0.heap.size wtB0 wB2 := (by exact bz); clear bz; have bwB2 := Lib.hid (bel2 bwBt1.out hbel); have zwB2 := Lib.hid hbel.size; have vwB2g := Lib.hid (vwBt1g.out.below hbel vwBt1g.out.lt); have kwB2H := Lib.hid (htB0.out.below hbel); clear hbel; clear pq1)))
        go_ret
        exact ⟨rfl, bwB2.out⟩
end Go.Proofs.Ytcmjambbdfangaa.Tape
