/-
  The walk of GroupLacks.
-/
import Derived.Test.YtligapgjdpdihaaDoorGroupKeep
set_option linter.unusedVariables false
set_option linter.unusedSimpArgs false
namespace Go.Proofs.YtligapgjdpdihaaDoor.Group
open Go.RowKit
open CrcM (W)
open Crc (le4 sumOf vl wd putS)
open Flash (bs bs_size bs_list list_bs cut)
open Go.Proofs.YtligapgjdpdihaaDoor.Frame (Fr zeroF fV fC bel2 below_drewN)
open Piece (pieceR isSeqB)
open Tup Bytes Own
open Geom (Gm gV rightG mostG needG Small right_small smallG small_small)
open Batch (Wr WAt WMine Tb bytesW layB rightW readW writesOf makeW)
open Go.Proofs.YtligapgjdpdihaaDoor.Region (fill Then Deps Each wp_region_is wp_region_is_tail wp_region_each wp_region_tail Deps3 Each3 slotOf slots wp_region_keep)
def jSp (t0 t1 t2 : W) (M9 : List Wr) (c : Int) : Sp := ⟨fun v _ => ∃ u : Option Addr × Nat, v = .tuple #[.agg #[.int .u32 (vl t0), .int .u32 (vl t1), .int .u32 (vl t2), .slice u.1 M9.length u.2], .int .i64 c] ∧ True, fun _ _ _ h _ => h⟩
def gSp (t0 t1 t2 : W) (M9 : List Wr) : Sp := ⟨fun v _ => ∃ u : Option Addr × Nat, v = .agg #[.int .u32 (vl t0), .int .u32 (vl t1), .int .u32 (vl t2), .slice u.1 M9.length u.2] ∧ True, fun _ _ _ h _ => h⟩
def mineR (base n : Nat) (xs : List Value) : Sp := ⟨fun v w => w.ownsRow base 49 4 v n xs, fun _ _ _ h hb => owns_below h hb⟩
set_option maxRecDepth 100000 in
set_option maxHeartbeats 8000000 in
theorem lacks_f (gp gs gr hp hq hr : Int) (sq pv fr : W) (a : Option Addr) (n cap : Nat) (L : List Wr) (s0 s1 s2 : W) (M : List Wr) (PL : List Fr) (c9 : Nat) (q0 : ((c9 : Int) == 0) = false) (q00 : ((c9 : Int) != 0) = true) (at_ : Int)
    (HGE : Hid (∀ w, Calls Tryd.prog 9 #[.agg #[.int .i64 gp, .int .i64 gs, .int .i64 gr]] w fun e w' => e = .returned (.agg #[.int .i64 hp, .int .i64 hq, .int .i64 hr]) ∧ Below w.heap.size w w'))
    (HSH : Hid (∀ w, WAt w a L → Calls Tryd.prog 11 #[.agg #[.int .u32 (vl sq), .int .u32 (vl pv), .int .u32 (vl fr), .slice a n cap]] w fun e w' => ∃ va vc, e = .returned (.agg #[.int .u32 (vl s0), .int .u32 (vl s1), .int .u32 (vl s2), .slice va M.length vc]) ∧ WMine w' w.heap.size (.slice va M.length vc) M ∧ Below w.heap.size w w'))
    (HC : Hid (∀ w a c, Tb w → WAt w a M → Calls Tryd.prog 12 #[.agg #[.int .i64 hp, .int .i64 hq, .int .i64 hr], .agg #[.int .u32 (vl s0), .int .u32 (vl s1), .int .u32 (vl s2), .slice a M.length c]] w fun e w' => ∃ va vc, e = .returned (.tuple #[.slice va PL.length vc, .int .i64 (c9 : Int)]) ∧ FMine w' w.heap.size (.slice va PL.length vc) PL ∧ Below w.heap.size w w'))
    (HAL : Hid (∀ w, Tb w → Calls Tryd.prog 14 #[] w fun e w' => e = .returned (.bool true) ∧ Below w.heap.size w w')) (w : World) (HT : Hid (Tb w)) (HRW : Hid (WAt w a L)) :
    Calls Tryd.prog 8 #[.agg #[.int .i64 gp, .int .i64 gs, .int .i64 gr], .agg #[.int .u32 (vl sq), .int .u32 (vl pv), .int .u32 (vl fr), .slice a n cap], .int .i64 at_] w fun e w' => e = .returned (.bool true) ∧ Below w.heap.size w w' := by
  go_enter Tryd.func8, Tryd.ntmps8
  go_wp2
  obtain ⟨w1, hw1⟩ : ∃ wx, wx = ((w.alloc (.cells #[.int .i64 gp, .int .i64 gs, .int .i64 gr] 23)).alloc (.cells #[.int .u32 (vl sq), .int .u32 (vl pv), .int .u32 (vl fr), .slice a n cap] 27)) := ⟨_, rfl⟩
  have bw1 := Lib.hid (show Below w.heap.size w w1 by rw [hw1]; exact (bel2 (Geom.bel_alloc _ _) (Geom.bel_alloc _ _)))
  have zw1 := Lib.hid (show w.heap.size + 2 ≤ w1.heap.size by rw [hw1]; simp)
  have vw1g := Lib.hid (show Var w1 (w.heap.size) 23 [.int .i64 gp, .int .i64 gs, .int .i64 gr] by rw [hw1]; exact ((Var.new w 23 [.int .i64 gp, .int .i64 gs, .int .i64 gr]).alloc _))
  have vw1x := Lib.hid (show Var w1 (w.heap.size + 1) 27 [.int .u32 (vl sq), .int .u32 (vl pv), .int .u32 (vl fr), .slice a n cap] by rw [hw1]; exact (show Var ((w.alloc (.cells #[.int .i64 gp, .int .i64 gs, .int .i64 gr] 23)).alloc (.cells #[.int .u32 (vl sq), .int .u32 (vl pv), .int .u32 (vl fr), .slice a n cap] 27)) (w.heap.size + 1) 27 [.int .u32 (vl sq), .int .u32 (vl pv), .int .u32 (vl fr), .slice a n cap] from by have h := Var.new (w.alloc (.cells #[.int .i64 gp, .int .i64 gs, .int .i64 gr] 23)) 27 [.int .u32 (vl sq), .int .u32 (vl pv), .int .u32 (vl fr), .slice a n cap]; rw [show (w.alloc (.cells #[.int .i64 gp, .int .i64 gs, .int .i64 gr] 23)).heap.size = w.heap.size + 1 by simp] at h; exact h))
  rw [← hw1]
  refine wp_region_each [13, 14, 15, 16, 17, 12, 18, 19, 7, 8] (fun w' => Below w1.heap.size w1 w') (VT [.agg #[.int .i64 gp, .int .i64 gs, .int .i64 gr], .agg #[.int .i64 hp, .int .i64 hq, .int .i64 hr], .agg #[.int .u32 (vl sq), .int .u32 (vl pv), .int .u32 (vl fr), .slice a n cap], undef, undef, undef, undef, .int .i64 (c9 : Int), undef, .int .i64 (c9 : Int)] [(3, gp2 w1.heap.size s0 s1 s2 M), (4, cut2 w1.heap.size PL (c9 : Int)), (5, cut2 w1.heap.size PL (c9 : Int)), (6, row2 w1.heap.size PL), (8, row2 w1.heap.size PL)]) (by kernel_rfl) (by kernel_rfl) rfl (by decide) (by simp) (VT.mono _ _) (Below.refl _ _).drew ?each ?done
  case each =>
    simp only [Each]
    refine ⟨?o0, ?o1, ?o2, ?o3, ?o4, ?o5, ?o6, ?o7, ?o8, ?o9, trivial⟩
    case o0 =>
      intro ys wx hBx hdeps
      clear hdeps
      have q1 := (vw1g.out.below hBx vw1g.out.lt).cell (j := 0) rfl
      have q2 := (vw1g.out.below hBx vw1g.out.lt).cell (j := 1) rfl
      have q3 := (vw1g.out.below hBx vw1g.out.lt).cell (j := 2) rfl
      simp only [fill, List.foldl_cons, List.foldl_nil, Act.put, List.setIfInBounds_toArray, List.set_cons_succ, List.set_cons_zero]
      go_wp2_with fail
      exact ⟨_, rfl, rfl, hBx, Below.refl _ _⟩
    case o1 =>
      intro ys wx hBx hdeps
      simp only [Deps, Region.binds, List.getD_cons_zero, List.getD_cons_succ, forall_const, and_true, true_and] at hdeps
      have y0 : ys 13 = .agg #[.int .i64 gp, .int .i64 gs, .int .i64 gr] := by first | exact hdeps | exact hdeps.1 | exact hdeps.2.1 | exact hdeps.2 | exact hdeps.2.2
      clear hdeps
      simp only [y0, fill, List.foldl_cons, List.foldl_nil, Act.put, List.setIfInBounds_toArray, List.set_cons_succ, List.set_cons_zero]
      go_wp2_with (go_at_call 9; (with_reducible refine (HGE.out _).mono ?_); rintro e w3 ⟨rfl, hbm⟩)
      exact ⟨_, rfl, rfl, hBx.trans (hbm.mono hBx.size), hbm⟩
    case o2 =>
      intro ys wx hBx hdeps
      clear hdeps
      have q4 := (vw1x.out.below hBx vw1x.out.lt).cell (j := 0) rfl
      have q5 := (vw1x.out.below hBx vw1x.out.lt).cell (j := 1) rfl
      have q6 := (vw1x.out.below hBx vw1x.out.lt).cell (j := 2) rfl
      have q7 := (vw1x.out.below hBx vw1x.out.lt).cell (j := 3) rfl
      simp only [fill, List.foldl_cons, List.foldl_nil, Act.put, List.setIfInBounds_toArray, List.set_cons_succ, List.set_cons_zero]
      go_wp2_with fail
      exact ⟨_, rfl, rfl, hBx, Below.refl _ _⟩
    case o3 =>
      intro ys wx hBx hdeps
      simp only [Deps, Region.binds, List.getD_cons_zero, List.getD_cons_succ, forall_const, and_true, true_and] at hdeps
      have y2 : ys 15 = .agg #[.int .u32 (vl sq), .int .u32 (vl pv), .int .u32 (vl fr), .slice a n cap] := by first | exact hdeps | exact hdeps.1 | exact hdeps.2.1 | exact hdeps.2 | exact hdeps.2.2
      clear hdeps
      simp only [y2, fill, List.foldl_cons, List.foldl_nil, Act.put, List.setIfInBounds_toArray, List.set_cons_succ, List.set_cons_zero]
      go_wp2_with (go_at_call 11; go_loud ((with_reducible refine (HSH.out _ (Batch.WAt.below HRW.out (bel2 bw1.out hBx))).mono ?_); rintro e w3 ⟨va, vc, rfl, hown, hbm⟩))
      exact ⟨_, rfl, ⟨(va, vc), rfl, owns_base hown hBx.size⟩, hBx.trans (hbm.mono hBx.size), hbm⟩
    case o4 =>
      intro ys wx hBx hdeps
      simp only [Deps, Region.binds, List.getD_cons_zero, List.getD_cons_succ, forall_const, and_true, true_and] at hdeps
      have y1 : ys 14 = .agg #[.int .i64 hp, .int .i64 hq, .int .i64 hr] := by first | exact hdeps.1 | exact hdeps.2.1 | exact hdeps.2.2.1 | exact hdeps.2 | exact hdeps.2.2 | exact hdeps.2.2.2
      have z3 : ∃ u : Option Addr × Nat, ys 16 = .agg #[.int .u32 (vl s0), .int .u32 (vl s1), .int .u32 (vl s2), .slice u.1 M.length u.2] ∧ Batch.WMine wx w1.heap.size (.slice u.1 M.length u.2) M := by first | exact hdeps.1 | exact hdeps.2.1 | exact hdeps.2.2.1 | exact hdeps.2 | exact hdeps.2.2 | exact hdeps.2.2.2
      with_reducible refine Exists.elim z3 ?_
      intro g3 hh
      have y3 := hh.1
      have r3 := hh.2
      clear hh z3
      clear hdeps
      simp only [y1, y3, fill, List.foldl_cons, List.foldl_nil, Act.put, List.setIfInBounds_toArray, List.set_cons_succ, List.set_cons_zero]
      go_wp2_with (go_at_call 12; (with_reducible refine (HC.out _ _ _ (Batch.Tb.below HT.out (bel2 bw1.out hBx)) (wat_mine r3)).mono ?_); rintro e w3 ⟨va, vc, rfl, hown, hbm⟩)
      exact ⟨_, rfl, ⟨(va, vc), rfl, hown.base hBx.size⟩, hBx.trans (hbm.mono hBx.size), hbm⟩
    case o5 =>
      intro ys wx hBx hdeps
      simp only [Deps, Region.binds, List.getD_cons_zero, List.getD_cons_succ, forall_const, and_true, true_and] at hdeps
      have z4 : ∃ u : Option Addr × Nat, ys 17 = .tuple #[.slice u.1 PL.length u.2, .int .i64 (c9 : Int)] ∧ FMine wx w1.heap.size (.slice u.1 PL.length u.2) PL := by first | exact hdeps | exact hdeps.1 | exact hdeps.2.1 | exact hdeps.2 | exact hdeps.2.2
      with_reducible refine Exists.elim z4 ?_
      intro g4 hh
      have y4 := hh.1
      have r4 := hh.2
      clear hh z4
      clear hdeps
      simp only [y4, fill, List.foldl_cons, List.foldl_nil, Act.put, List.setIfInBounds_toArray, List.set_cons_succ, List.set_cons_zero]
      go_wp2_with fail
      exact ⟨_, rfl, ⟨g4, rfl, r4⟩, hBx, Below.refl _ _⟩
    case o6 =>
      intro ys wx hBx hdeps
      simp only [Deps, Region.binds, List.getD_cons_zero, List.getD_cons_succ, forall_const, and_true, true_and] at hdeps
      have z5 : ∃ u : Option Addr × Nat, ys 12 = .tuple #[.slice u.1 PL.length u.2, .int .i64 (c9 : Int)] ∧ FMine wx w1.heap.size (.slice u.1 PL.length u.2) PL := by first | exact hdeps | exact hdeps.1 | exact hdeps.2.1 | exact hdeps.2 | exact hdeps.2.2
      with_reducible refine Exists.elim z5 ?_
      intro g5 hh
      have y5 := hh.1
      have r5 := hh.2
      clear hh z5
      clear hdeps
      simp only [y5, fill, List.foldl_cons, List.foldl_nil, Act.put, List.setIfInBounds_toArray, List.set_cons_succ, List.set_cons_zero]
      go_wp2_with fail
      exact ⟨_, rfl, ⟨g5, rfl, r5⟩, hBx, Below.refl _ _⟩
    case o7 =>
      intro ys wx hBx hdeps
      simp only [Deps, Region.binds, List.getD_cons_zero, List.getD_cons_succ, forall_const, and_true, true_and] at hdeps
      have z5 : ∃ u : Option Addr × Nat, ys 12 = .tuple #[.slice u.1 PL.length u.2, .int .i64 (c9 : Int)] ∧ FMine wx w1.heap.size (.slice u.1 PL.length u.2) PL := by first | exact hdeps | exact hdeps.1 | exact hdeps.2.1 | exact hdeps.2 | exact hdeps.2.2
      with_reducible refine Exists.elim z5 ?_
      intro g5 hh
      have y5 := hh.1
      have r5 := hh.2
      clear hh z5
      clear hdeps
      simp only [y5, fill, List.foldl_cons, List.foldl_nil, Act.put, List.setIfInBounds_toArray, List.set_cons_succ, List.set_cons_zero]
      go_wp2_with fail
      exact ⟨_, rfl, rfl, hBx, Below.refl _ _⟩
    case o8 =>
      intro ys wx hBx hdeps
      simp only [Deps, Region.binds, List.getD_cons_zero, List.getD_cons_succ, forall_const, and_true, true_and] at hdeps
      have z6 : ∃ u : Option Addr × Nat, ys 18 = .slice u.1 PL.length u.2 ∧ FMine wx w1.heap.size (.slice u.1 PL.length u.2) PL := by first | exact hdeps | exact hdeps.1 | exact hdeps.2.1 | exact hdeps.2 | exact hdeps.2.2
      with_reducible refine Exists.elim z6 ?_
      intro g6 hh
      have y6 := hh.1
      have r6 := hh.2
      clear hh z6
      clear hdeps
      simp only [y6, fill, List.foldl_cons, List.foldl_nil, Act.put, List.setIfInBounds_toArray, List.set_cons_succ, List.set_cons_zero]
      go_wp2_with fail
      exact ⟨_, rfl, ⟨g6, rfl, r6⟩, hBx, Below.refl _ _⟩
    case o9 =>
      intro ys wx hBx hdeps
      simp only [Deps, Region.binds, List.getD_cons_zero, List.getD_cons_succ, forall_const, and_true, true_and] at hdeps
      have y7 : ys 19 = .int .i64 (c9 : Int) := by first | exact hdeps | exact hdeps.1 | exact hdeps.2.1 | exact hdeps.2 | exact hdeps.2.2
      clear hdeps
      simp only [y7, fill, List.foldl_cons, List.foldl_nil, Act.put, List.setIfInBounds_toArray, List.set_cons_succ, List.set_cons_zero]
      go_wp2_with fail
      exact ⟨_, rfl, rfl, hBx, Below.refl _ _⟩
  case done =>
    intro ys w2 hBx hV
    have bw2 := Lib.hid (bel2 bw1.out hBx)
    have zw2 := Lib.hid hBx.size
    have vw2g := Lib.hid (vw1g.out.below hBx vw1g.out.lt)
    have vw2x := Lib.hid (vw1x.out.below hBx vw1x.out.lt)
    have hh : ∃ u : Option Addr × Nat, ys 7 = .slice u.1 PL.length u.2 ∧ FMine w2 w1.heap.size (.slice u.1 PL.length u.2) PL := hV 8 (by decide)
    with_reducible refine Exists.elim hh ?_
    intro uP hh2
    have eP := hh2.1
    have MP := Lib.hid hh2.2
    clear hh hh2
    have h8 : ys 8 = .int .i64 (c9 : Int) := hV 9 (by decide)
    clear hBx hV
    simp only [eP, h8, fill, List.drop_succ_cons, List.drop_zero, List.foldl_cons, List.foldl_nil, Act.put, List.setIfInBounds_toArray, List.set_cons_succ, List.set_cons_zero]
    go_wp2_with (first
    | (go_at_call 14; go_loud ((with_reducible refine (HAL.out _ (Batch.Tb.below HT.out bw2.out)).mono ?_); rintro e w3 ⟨rfl, bz⟩; have hbel : Below w2.heap.size w2 w3 := (by exact bz); clear bz; have bw3 := Lib.hid (bel2 bw2.out hbel); have zw3 := Lib.hid hbel.size; have vw3g := Lib.hid (vw2g.out.below hbel vw2g.out.lt); have vw3x := Lib.hid (vw2x.out.below hbel vw2x.out.lt); clear hbel))
    | (go_at_call 14; go_loud ((with_reducible refine (HAL.out _ (Batch.Tb.below HT.out bw3.out)).mono ?_); rintro e w4 ⟨rfl, bz⟩; have hbel : Below w3.heap.size w3 w4 := (by exact bz); clear bz; have bw4 := Lib.hid (bel2 bw3.out hbel); have zw4 := Lib.hid hbel.size; have vw4g := Lib.hid (vw3g.out.below hbel vw3g.out.lt); have vw4x := Lib.hid (vw3x.out.below hbel vw3x.out.lt); clear hbel)))
    go_ret
    exact ⟨rfl, bw4.out⟩
set_option maxRecDepth 100000 in
set_option maxHeartbeats 8000000 in
theorem lacks_2 (gp gs gr hp hq hr : Int) (sq pv fr : W) (a : Option Addr) (n cap : Nat) (L : List Wr) (s0 s1 s2 : W) (M : List Wr) (PL : List Fr) (at_ : Int) (i : Nat) (hi : i < PL.length) (h2 : 2 ≤ PL.length) (hfew : PL.length ≤ 1000) (LK : List Fr) (hLK : LK = PL.take i ++ PL.drop (i + 1)) (hKl : LK.length + 1 = PL.length) (t0 t1 t2 : W) (M9 : List Wr)
    (HGE : Hid (∀ w, Calls Tryd.prog 9 #[.agg #[.int .i64 gp, .int .i64 gs, .int .i64 gr]] w fun e w' => e = .returned (.agg #[.int .i64 hp, .int .i64 hq, .int .i64 hr]) ∧ Below w.heap.size w w'))
    (HSH : Hid (∀ w, WAt w a L → Calls Tryd.prog 11 #[.agg #[.int .u32 (vl sq), .int .u32 (vl pv), .int .u32 (vl fr), .slice a n cap]] w fun e w' => ∃ va vc, e = .returned (.agg #[.int .u32 (vl s0), .int .u32 (vl s1), .int .u32 (vl s2), .slice va M.length vc]) ∧ WMine w' w.heap.size (.slice va M.length vc) M ∧ Below w.heap.size w w'))
    (HC : Hid (∀ w a c, Tb w → WAt w a M → Calls Tryd.prog 12 #[.agg #[.int .i64 hp, .int .i64 hq, .int .i64 hr], .agg #[.int .u32 (vl s0), .int .u32 (vl s1), .int .u32 (vl s2), .slice a M.length c]] w fun e w' => ∃ va vc, e = .returned (.tuple #[.slice va PL.length vc, .int .i64 0]) ∧ FMine w' w.heap.size (.slice va PL.length vc) PL ∧ Below w.heap.size w w'))
    (HAL : Hid (∀ w, Tb w → Calls Tryd.prog 14 #[] w fun e w' => e = .returned (.bool true) ∧ Below w.heap.size w w'))
    (HPK : Hid (∀ w, Calls Tryd.prog 22 #[.int .i64 at_, .int .i64 (PL.length : Int)] w fun e w' => e = .returned (.int .i64 (i : Int)) ∧ w = w'))
    (HJ : Hid (∀ w base a c, Tb w → FMine w base (.slice a LK.length c) LK → Calls Tryd.prog 16 #[.slice a LK.length c] w fun e w' => ∃ va vc, e = .returned (.tuple #[.agg #[.int .u32 (vl t0), .int .u32 (vl t1), .int .u32 (vl t2), .slice va M9.length vc], .int .i64 2]) ∧ WMine w' w.heap.size (.slice va M9.length vc) M9 ∧ Below w.heap.size w w')) (w : World) (HT : Hid (Tb w)) (HRW : Hid (WAt w a L)) :
    Calls Tryd.prog 8 #[.agg #[.int .i64 gp, .int .i64 gs, .int .i64 gr], .agg #[.int .u32 (vl sq), .int .u32 (vl pv), .int .u32 (vl fr), .slice a n cap], .int .i64 at_] w fun e w' => e = .returned (.bool true) ∧ Below w.heap.size w w' := by
  go_enter Tryd.func8, Tryd.ntmps8
  go_wp2
  obtain ⟨w1, hw1⟩ : ∃ wx, wx = ((w.alloc (.cells #[.int .i64 gp, .int .i64 gs, .int .i64 gr] 23)).alloc (.cells #[.int .u32 (vl sq), .int .u32 (vl pv), .int .u32 (vl fr), .slice a n cap] 27)) := ⟨_, rfl⟩
  have bw1 := Lib.hid (show Below w.heap.size w w1 by rw [hw1]; exact (bel2 (Geom.bel_alloc _ _) (Geom.bel_alloc _ _)))
  have zw1 := Lib.hid (show w.heap.size + 2 ≤ w1.heap.size by rw [hw1]; simp)
  have vw1g := Lib.hid (show Var w1 (w.heap.size) 23 [.int .i64 gp, .int .i64 gs, .int .i64 gr] by rw [hw1]; exact ((Var.new w 23 [.int .i64 gp, .int .i64 gs, .int .i64 gr]).alloc _))
  have vw1x := Lib.hid (show Var w1 (w.heap.size + 1) 27 [.int .u32 (vl sq), .int .u32 (vl pv), .int .u32 (vl fr), .slice a n cap] by rw [hw1]; exact (show Var ((w.alloc (.cells #[.int .i64 gp, .int .i64 gs, .int .i64 gr] 23)).alloc (.cells #[.int .u32 (vl sq), .int .u32 (vl pv), .int .u32 (vl fr), .slice a n cap] 27)) (w.heap.size + 1) 27 [.int .u32 (vl sq), .int .u32 (vl pv), .int .u32 (vl fr), .slice a n cap] from by have h := Var.new (w.alloc (.cells #[.int .i64 gp, .int .i64 gs, .int .i64 gr] 23)) 27 [.int .u32 (vl sq), .int .u32 (vl pv), .int .u32 (vl fr), .slice a n cap]; rw [show (w.alloc (.cells #[.int .i64 gp, .int .i64 gs, .int .i64 gr] 23)).heap.size = w.heap.size + 1 by simp] at h; exact h))
  rw [← hw1]
  refine wp_region_each [13, 14, 15, 16, 17, 12, 18, 19, 7, 8] (fun w' => Below w1.heap.size w1 w') (VT [.agg #[.int .i64 gp, .int .i64 gs, .int .i64 gr], .agg #[.int .i64 hp, .int .i64 hq, .int .i64 hr], .agg #[.int .u32 (vl sq), .int .u32 (vl pv), .int .u32 (vl fr), .slice a n cap], undef, undef, undef, undef, .int .i64 0, undef, .int .i64 0] [(3, gp2 w1.heap.size s0 s1 s2 M), (4, cut2 w1.heap.size PL 0), (5, cut2 w1.heap.size PL 0), (6, row2 w1.heap.size PL), (8, row2 w1.heap.size PL)]) (by kernel_rfl) (by kernel_rfl) rfl (by decide) (by simp) (VT.mono _ _) (Below.refl _ _).drew ?each ?done
  case each =>
    simp only [Each]
    refine ⟨?o0, ?o1, ?o2, ?o3, ?o4, ?o5, ?o6, ?o7, ?o8, ?o9, trivial⟩
    case o0 =>
      intro ys wx hBx hdeps
      clear hdeps
      have q1 := (vw1g.out.below hBx vw1g.out.lt).cell (j := 0) rfl
      have q2 := (vw1g.out.below hBx vw1g.out.lt).cell (j := 1) rfl
      have q3 := (vw1g.out.below hBx vw1g.out.lt).cell (j := 2) rfl
      simp only [fill, List.foldl_cons, List.foldl_nil, Act.put, List.setIfInBounds_toArray, List.set_cons_succ, List.set_cons_zero]
      go_wp2_with fail
      exact ⟨_, rfl, rfl, hBx, Below.refl _ _⟩
    case o1 =>
      intro ys wx hBx hdeps
      simp only [Deps, Region.binds, List.getD_cons_zero, List.getD_cons_succ, forall_const, and_true, true_and] at hdeps
      have y0 : ys 13 = .agg #[.int .i64 gp, .int .i64 gs, .int .i64 gr] := by first | exact hdeps | exact hdeps.1 | exact hdeps.2.1 | exact hdeps.2 | exact hdeps.2.2
      clear hdeps
      simp only [y0, fill, List.foldl_cons, List.foldl_nil, Act.put, List.setIfInBounds_toArray, List.set_cons_succ, List.set_cons_zero]
      go_wp2_with (go_at_call 9; (with_reducible refine (HGE.out _).mono ?_); rintro e w3 ⟨rfl, hbm⟩)
      exact ⟨_, rfl, rfl, hBx.trans (hbm.mono hBx.size), hbm⟩
    case o2 =>
      intro ys wx hBx hdeps
      clear hdeps
      have q4 := (vw1x.out.below hBx vw1x.out.lt).cell (j := 0) rfl
      have q5 := (vw1x.out.below hBx vw1x.out.lt).cell (j := 1) rfl
      have q6 := (vw1x.out.below hBx vw1x.out.lt).cell (j := 2) rfl
      have q7 := (vw1x.out.below hBx vw1x.out.lt).cell (j := 3) rfl
      simp only [fill, List.foldl_cons, List.foldl_nil, Act.put, List.setIfInBounds_toArray, List.set_cons_succ, List.set_cons_zero]
      go_wp2_with fail
      exact ⟨_, rfl, rfl, hBx, Below.refl _ _⟩
    case o3 =>
      intro ys wx hBx hdeps
      simp only [Deps, Region.binds, List.getD_cons_zero, List.getD_cons_succ, forall_const, and_true, true_and] at hdeps
      have y2 : ys 15 = .agg #[.int .u32 (vl sq), .int .u32 (vl pv), .int .u32 (vl fr), .slice a n cap] := by first | exact hdeps | exact hdeps.1 | exact hdeps.2.1 | exact hdeps.2 | exact hdeps.2.2
      clear hdeps
      simp only [y2, fill, List.foldl_cons, List.foldl_nil, Act.put, List.setIfInBounds_toArray, List.set_cons_succ, List.set_cons_zero]
      go_wp2_with (go_at_call 11; go_loud ((with_reducible refine (HSH.out _ (Batch.WAt.below HRW.out (bel2 bw1.out hBx))).mono ?_); rintro e w3 ⟨va, vc, rfl, hown, hbm⟩))
      exact ⟨_, rfl, ⟨(va, vc), rfl, owns_base hown hBx.size⟩, hBx.trans (hbm.mono hBx.size), hbm⟩
    case o4 =>
      intro ys wx hBx hdeps
      simp only [Deps, Region.binds, List.getD_cons_zero, List.getD_cons_succ, forall_const, and_true, true_and] at hdeps
      have y1 : ys 14 = .agg #[.int .i64 hp, .int .i64 hq, .int .i64 hr] := by first | exact hdeps.1 | exact hdeps.2.1 | exact hdeps.2.2.1 | exact hdeps.2 | exact hdeps.2.2 | exact hdeps.2.2.2
      have z3 : ∃ u : Option Addr × Nat, ys 16 = .agg #[.int .u32 (vl s0), .int .u32 (vl s1), .int .u32 (vl s2), .slice u.1 M.length u.2] ∧ Batch.WMine wx w1.heap.size (.slice u.1 M.length u.2) M := by first | exact hdeps.1 | exact hdeps.2.1 | exact hdeps.2.2.1 | exact hdeps.2 | exact hdeps.2.2 | exact hdeps.2.2.2
      with_reducible refine Exists.elim z3 ?_
      intro g3 hh
      have y3 := hh.1
      have r3 := hh.2
      clear hh z3
      clear hdeps
      simp only [y1, y3, fill, List.foldl_cons, List.foldl_nil, Act.put, List.setIfInBounds_toArray, List.set_cons_succ, List.set_cons_zero]
      go_wp2_with (go_at_call 12; (with_reducible refine (HC.out _ _ _ (Batch.Tb.below HT.out (bel2 bw1.out hBx)) (wat_mine r3)).mono ?_); rintro e w3 ⟨va, vc, rfl, hown, hbm⟩)
      exact ⟨_, rfl, ⟨(va, vc), rfl, hown.base hBx.size⟩, hBx.trans (hbm.mono hBx.size), hbm⟩
    case o5 =>
      intro ys wx hBx hdeps
      simp only [Deps, Region.binds, List.getD_cons_zero, List.getD_cons_succ, forall_const, and_true, true_and] at hdeps
      have z4 : ∃ u : Option Addr × Nat, ys 17 = .tuple #[.slice u.1 PL.length u.2, .int .i64 0] ∧ FMine wx w1.heap.size (.slice u.1 PL.length u.2) PL := by first | exact hdeps | exact hdeps.1 | exact hdeps.2.1 | exact hdeps.2 | exact hdeps.2.2
      with_reducible refine Exists.elim z4 ?_
      intro g4 hh
      have y4 := hh.1
      have r4 := hh.2
      clear hh z4
      clear hdeps
      simp only [y4, fill, List.foldl_cons, List.foldl_nil, Act.put, List.setIfInBounds_toArray, List.set_cons_succ, List.set_cons_zero]
      go_wp2_with fail
      exact ⟨_, rfl, ⟨g4, rfl, r4⟩, hBx, Below.refl _ _⟩
    case o6 =>
      intro ys wx hBx hdeps
      simp only [Deps, Region.binds, List.getD_cons_zero, List.getD_cons_succ, forall_const, and_true, true_and] at hdeps
      have z5 : ∃ u : Option Addr × Nat, ys 12 = .tuple #[.slice u.1 PL.length u.2, .int .i64 0] ∧ FMine wx w1.heap.size (.slice u.1 PL.length u.2) PL := by first | exact hdeps | exact hdeps.1 | exact hdeps.2.1 | exact hdeps.2 | exact hdeps.2.2
      with_reducible refine Exists.elim z5 ?_
      intro g5 hh
      have y5 := hh.1
      have r5 := hh.2
      clear hh z5
      clear hdeps
      simp only [y5, fill, List.foldl_cons, List.foldl_nil, Act.put, List.setIfInBounds_toArray, List.set_cons_succ, List.set_cons_zero]
      go_wp2_with fail
      exact ⟨_, rfl, ⟨g5, rfl, r5⟩, hBx, Below.refl _ _⟩
    case o7 =>
      intro ys wx hBx hdeps
      simp only [Deps, Region.binds, List.getD_cons_zero, List.getD_cons_succ, forall_const, and_true, true_and] at hdeps
      have z5 : ∃ u : Option Addr × Nat, ys 12 = .tuple #[.slice u.1 PL.length u.2, .int .i64 0] ∧ FMine wx w1.heap.size (.slice u.1 PL.length u.2) PL := by first | exact hdeps | exact hdeps.1 | exact hdeps.2.1 | exact hdeps.2 | exact hdeps.2.2
      with_reducible refine Exists.elim z5 ?_
      intro g5 hh
      have y5 := hh.1
      have r5 := hh.2
      clear hh z5
      clear hdeps
      simp only [y5, fill, List.foldl_cons, List.foldl_nil, Act.put, List.setIfInBounds_toArray, List.set_cons_succ, List.set_cons_zero]
      go_wp2_with fail
      exact ⟨_, rfl, rfl, hBx, Below.refl _ _⟩
    case o8 =>
      intro ys wx hBx hdeps
      simp only [Deps, Region.binds, List.getD_cons_zero, List.getD_cons_succ, forall_const, and_true, true_and] at hdeps
      have z6 : ∃ u : Option Addr × Nat, ys 18 = .slice u.1 PL.length u.2 ∧ FMine wx w1.heap.size (.slice u.1 PL.length u.2) PL := by first | exact hdeps | exact hdeps.1 | exact hdeps.2.1 | exact hdeps.2 | exact hdeps.2.2
      with_reducible refine Exists.elim z6 ?_
      intro g6 hh
      have y6 := hh.1
      have r6 := hh.2
      clear hh z6
      clear hdeps
      simp only [y6, fill, List.foldl_cons, List.foldl_nil, Act.put, List.setIfInBounds_toArray, List.set_cons_succ, List.set_cons_zero]
      go_wp2_with fail
      exact ⟨_, rfl, ⟨g6, rfl, r6⟩, hBx, Below.refl _ _⟩
    case o9 =>
      intro ys wx hBx hdeps
      simp only [Deps, Region.binds, List.getD_cons_zero, List.getD_cons_succ, forall_const, and_true, true_and] at hdeps
      have y7 : ys 19 = .int .i64 0 := by first | exact hdeps | exact hdeps.1 | exact hdeps.2.1 | exact hdeps.2 | exact hdeps.2.2
      clear hdeps
      simp only [y7, fill, List.foldl_cons, List.foldl_nil, Act.put, List.setIfInBounds_toArray, List.set_cons_succ, List.set_cons_zero]
      go_wp2_with fail
      exact ⟨_, rfl, rfl, hBx, Below.refl _ _⟩
  case done =>
    intro ys w2 hBx hV
    have bw2 := Lib.hid (bel2 bw1.out hBx)
    have zw2 := Lib.hid hBx.size
    have vw2g := Lib.hid (vw1g.out.below hBx vw1g.out.lt)
    have vw2x := Lib.hid (vw1x.out.below hBx vw1x.out.lt)
    have hh : ∃ u : Option Addr × Nat, ys 7 = .slice u.1 PL.length u.2 ∧ FMine w2 w1.heap.size (.slice u.1 PL.length u.2) PL := hV 8 (by decide)
    with_reducible refine Exists.elim hh ?_
    intro uP hh2
    have eP := hh2.1
    have MP := Lib.hid hh2.2
    clear hh hh2
    have h8 : ys 8 = .int .i64 0 := hV 9 (by decide)
    clear hBx hV
    simp only [eP, h8, fill, List.drop_succ_cons, List.drop_zero, List.foldl_cons, List.foldl_nil, Act.put, List.setIfInBounds_toArray, List.set_cons_succ, List.set_cons_zero]
    have h2' : 0 < PL.length := by omega
    have hcp := fm_cap MP.out
    have hlen2 : decide ((PL.length : Int) < 2) = false := by simp; omega
    have hlen2' : decide (PL.length < 2) = false := by simp; omega
    with_reducible refine Exists.elim (fmine_some MP.out h2') ?_
    intro gP hh
    have hgP := hh.1
    have hgB := hh.2
    clear hh
    have HMP := MP.out
    rw [hgP] at HMP ⊢
    have MQ := Lib.hid HMP
    clear HMP
    generalize uP.2 = cP at *
    go_wp2_with (first
      | (go_at_call 14; go_loud ((with_reducible refine (HAL.out _ (Batch.Tb.below HT.out bw2.out)).mono ?_); rintro e w3 ⟨rfl, bz⟩; have hbel : Below w2.heap.size w2 w3 := (by exact bz); clear bz; have bw3 := Lib.hid (bel2 bw2.out hbel); have zw3 := Lib.hid hbel.size; have vw3g := Lib.hid (vw2g.out.below hbel vw2g.out.lt); have vw3x := Lib.hid (vw2x.out.below hbel vw2x.out.lt); have rw3P := Lib.hid (owns_below MQ.out hbel); clear hbel))
      | (go_at_call 22; (with_reducible refine (HPK.out _).mono ?_); rintro e wsame ⟨rfl, rfl⟩))
    have MR := rw3P
    have hsl1 := fun w => sliceF_h (some ⟨gP, 0, none⟩) PL.length cP i (by omega) (i : Int) rfl w
    have hsl2 := fun w => sliceF_l (some ⟨gP, 0, none⟩) PL.length cP (i + 1) (by omega) ((i : Int) + 1) (by omega) w
    have HFT := Lib.hid ((fat_of MR.out).take i)
    have HFD := Lib.hid ((fat_of MR.out).drop hcp (i + 1))
    have hdr : dropA (some ⟨gP, 0, none⟩) (i + 1) cP = some ⟨gP, (if cP = i + 1 then 0 else (i + 1) * 4), none⟩ := by unfold dropA; split <;> simp [Addr.add]
    rw [hdr] at hsl2 HFD
    generalize (if cP = i + 1 then 0 else (i + 1) * 4) = oD at *
    have hli : (PL.take i).length = i := by rw [List.length_take]; omega
    have hld : (PL.drop (i + 1)).length = PL.length - (i + 1) := List.length_drop
    have HFL := Lib.hid (show flatF (PL.take i) ++ flatF (PL.drop (i + 1)) = flatF LK by rw [hLK, flatF_app])
    have hl1 : (flatF (PL.take i)).length = i * 4 := by rw [flatF_length, hli]
    have hl2 : (flatF (PL.drop (i + 1))).length = (PL.length - (i + 1)) * 4 := by rw [flatF_length, hld]
    clear hLK hdr hgP hli hld
    refine wp_region_keep [some 37, some 38, some 39, some 40, some 41, some 42, some 43, some 44, some 45, some 46, some 36, some 47, some 48, some 10, none, some 11] (fun w' => Below w3.heap.size w3 w') (VT [.slice (some ⟨gP, 0, none⟩) PL.length cP, .int .i64 (i : Int), .slice (some ⟨gP, 0, none⟩) i cP, undef, .slice (some ⟨gP, 0, none⟩) PL.length cP, .int .i64 (i : Int), .int .i64 ((i : Int) + 1), .slice (some ⟨gP, oD, none⟩) (PL.length - (i + 1)) (cP - (i + 1)), undef, undef, undef, undef, .int .i64 2, undef, undef, .int .i64 2] [(3, mineR w3.heap.size i (flatF (PL.take i))), (8, row2 w3.heap.size LK), (9, jSp t0 t1 t2 M9 (2)), (10, jSp t0 t1 t2 M9 (2)), (11, gSp t0 t1 t2 M9), (13, var4 w3.heap.size), (14, trueSp)]) [(8, 3)] (by kernel_rfl) (by kernel_rfl) rfl (by kernel_rfl) (by simp [slots]) (none_of [14] (by kernel_rfl) (by simp [List.lookup])) (Below.refl _ _).drew ?each ?done
    case each =>
      simp only [Each3]
      refine ⟨?o0, ?o1, ?o2, ?o3, ?o4, ?o5, ?o6, ?o7, ?o8, ?o9, ?o10, ?o11, ?o12, ?o13, ?o14, ?o15, trivial⟩
      case o0 =>
        intro ys wx hBx hdeps
        clear hdeps
        simp only [List.getD_cons_zero, List.getD_cons_succ, slots, List.filterMap_cons, List.filterMap_nil, id, fill, List.foldl_cons, List.foldl_nil, Act.put, List.setIfInBounds_toArray, List.set_cons_succ, List.set_cons_zero]
        go_wp2_with fail
        exact ⟨_, rfl, rfl, hBx, vt_keep (Below.refl _ _)⟩
      case o1 =>
        intro ys wx hBx hdeps
        clear hdeps
        simp only [List.getD_cons_zero, List.getD_cons_succ, slots, List.filterMap_cons, List.filterMap_nil, id, fill, List.foldl_cons, List.foldl_nil, Act.put, List.setIfInBounds_toArray, List.set_cons_succ, List.set_cons_zero]
        go_wp2_with fail
        exact ⟨_, rfl, rfl, hBx, vt_keep (Below.refl _ _)⟩
      case o2 =>
        intro ys wx hBx hdeps
        simp only [Deps3] at hdeps
        have y0 : ys 37 = .slice (some ⟨gP, 0, none⟩) PL.length cP := by first | exact hdeps.1 rfl | exact hdeps.2.1 rfl | exact hdeps.2.2.1 rfl | exact hdeps.2.2.2.1 rfl
        have y1 : ys 38 = .int .i64 (i : Int) := by first | exact hdeps.1 rfl | exact hdeps.2.1 rfl | exact hdeps.2.2.1 rfl | exact hdeps.2.2.2.1 rfl
        clear hdeps
        simp only [y0, y1, List.getD_cons_zero, List.getD_cons_succ, slots, List.filterMap_cons, List.filterMap_nil, id, fill, List.foldl_cons, List.foldl_nil, Act.put, List.setIfInBounds_toArray, List.set_cons_succ, List.set_cons_zero]
        go_wp2_with fail
        exact ⟨_, rfl, rfl, hBx, vt_keep (Below.refl _ _)⟩
      case o3 =>
        intro ys wx hBx hdeps
        simp only [Deps3] at hdeps
        have y2 : ys 39 = .slice (some ⟨gP, 0, none⟩) i cP := by first | exact hdeps.1 rfl | exact hdeps.2.1 rfl | exact hdeps.2.2.1 rfl
        clear hdeps
        simp only [y2, List.getD_cons_zero, List.getD_cons_succ, slots, List.filterMap_cons, List.filterMap_nil, id, fill, List.foldl_cons, List.foldl_nil, Act.put, List.setIfInBounds_toArray, List.set_cons_succ, List.set_cons_zero]
        go_wp2_with (at_builtin; go_loud (refine append_at rfl _ _ 31 rfl w3.heap.size 49 (.agg #[.int .i64 0, .int .u32 0, .int .u32 0, .string ⟨#[]⟩]) 4 32 Tryd.underlying31 infoF rfl (by decide) (.slice none 0 0) 0 [] rfl ⟨rfl, .inl ⟨rfl, rfl⟩⟩ ⟨gP, 0, none⟩ i cP (flatF (PL.take i)) rfl hl1 (fat_news (FAt.below HFT.out hBx)) (flat_one _) ?c1 ?c2 ?c3 ?_; (case c1 => omega); (case c2 => (unfold maxLen; omega)); (case c3 => exact hBx.size); intro v9 w9 hown9 hgrow9 hat9))
        have hb9 := below_append (Below.refl wx.heap.size wx) hgrow9 (Nat.le_refl _) (fun t ht => by cases ht)
        exact ⟨_, rfl, by unfold VT mineR; simp only [List.lookup, Nat.zero_add, List.nil_append] at hown9 ⊢; exact hown9, hBx.trans (hb9.mono hBx.size), vt_keep hb9⟩
      case o4 =>
        intro ys wx hBx hdeps
        clear hdeps
        simp only [List.getD_cons_zero, List.getD_cons_succ, slots, List.filterMap_cons, List.filterMap_nil, id, fill, List.foldl_cons, List.foldl_nil, Act.put, List.setIfInBounds_toArray, List.set_cons_succ, List.set_cons_zero]
        go_wp2_with fail
        exact ⟨_, rfl, rfl, hBx, vt_keep (Below.refl _ _)⟩
      case o5 =>
        intro ys wx hBx hdeps
        clear hdeps
        simp only [List.getD_cons_zero, List.getD_cons_succ, slots, List.filterMap_cons, List.filterMap_nil, id, fill, List.foldl_cons, List.foldl_nil, Act.put, List.setIfInBounds_toArray, List.set_cons_succ, List.set_cons_zero]
        go_wp2_with fail
        exact ⟨_, rfl, rfl, hBx, vt_keep (Below.refl _ _)⟩
      case o6 =>
        intro ys wx hBx hdeps
        simp only [Deps3] at hdeps
        have y5 : ys 42 = .int .i64 (i : Int) := by first | exact hdeps.1 rfl | exact hdeps.2.1 rfl | exact hdeps.2.2.1 rfl
        clear hdeps
        simp only [y5, List.getD_cons_zero, List.getD_cons_succ, slots, List.filterMap_cons, List.filterMap_nil, id, fill, List.foldl_cons, List.foldl_nil, Act.put, List.setIfInBounds_toArray, List.set_cons_succ, List.set_cons_zero]
        go_wp2_with fail
        exact ⟨_, rfl, rfl, hBx, vt_keep (Below.refl _ _)⟩
      case o7 =>
        intro ys wx hBx hdeps
        simp only [Deps3] at hdeps
        have y4 : ys 41 = .slice (some ⟨gP, 0, none⟩) PL.length cP := by first | exact hdeps.1 rfl | exact hdeps.2.1 rfl | exact hdeps.2.2.1 rfl | exact hdeps.2.2.2.1 rfl
        have y6 : ys 43 = .int .i64 ((i : Int) + 1) := by first | exact hdeps.1 rfl | exact hdeps.2.1 rfl | exact hdeps.2.2.1 rfl | exact hdeps.2.2.2.1 rfl
        clear hdeps
        simp only [y4, y6, List.getD_cons_zero, List.getD_cons_succ, slots, List.filterMap_cons, List.filterMap_nil, id, fill, List.foldl_cons, List.foldl_nil, Act.put, List.setIfInBounds_toArray, List.set_cons_succ, List.set_cons_zero]
        go_wp2_with fail
        exact ⟨_, rfl, rfl, hBx, vt_keep (Below.refl _ _)⟩
      case o8 =>
        intro ys wx hBx hdeps
        simp only [Deps3] at hdeps
        have z3 : World.ownsRow wx w3.heap.size 49 4 (ys 40) i (flatF (PL.take i)) := by first | exact hdeps.1 rfl | exact hdeps.2.1 rfl | exact hdeps.2.2.1 rfl | exact hdeps.2.2.2.1 rfl
        have y7 : ys 44 = .slice (some ⟨gP, oD, none⟩) (PL.length - (i + 1)) (cP - (i + 1)) := by first | exact hdeps.1 rfl | exact hdeps.2.1 rfl | exact hdeps.2.2.1 rfl | exact hdeps.2.2.2.1 rfl
        clear hdeps
        simp only [y7, List.getD_cons_zero, List.getD_cons_succ, slots, List.filterMap_cons, List.filterMap_nil, id, fill, List.foldl_cons, List.foldl_nil, Act.put, List.setIfInBounds_toArray, List.set_cons_succ, List.set_cons_zero]
        go_wp2_with (at_builtin; go_loud (refine append_at rfl _ _ 31 rfl w3.heap.size 49 (.agg #[.int .i64 0, .int .u32 0, .int .u32 0, .string ⟨#[]⟩]) 4 32 Tryd.underlying31 infoF rfl (by decide) (ys 40) i (flatF (PL.take i)) rfl z3 ⟨gP, oD, none⟩ (PL.length - (i + 1)) (cP - (i + 1)) (flatF (PL.drop (i + 1))) rfl hl2 (fat_news (FAt.below HFD.out hBx)) (flat_one _) ?c1 ?c2 ?c3 ?_; (case c1 => omega); (case c2 => (unfold maxLen; omega)); (case c3 => exact hBx.size); intro v9 w9 hown9 hgrow9 hat9))
        have HB9 := below_append hBx hgrow9 hBx.size (fun t ht => (owns_lt z3 t ht).2)
        rw [HFL.out, show i + (PL.length - (i + 1)) = LK.length by omega] at hown9
        have hsl9 := owns_slice hown9
        with_reducible refine Exists.elim hsl9 ?_
        intro a9 hh
        with_reducible refine Exists.elim hh ?_
        intro c9 he9
        clear hh hsl9
        subst he9
        refine ⟨_, rfl, ⟨(a9, c9), rfl, hown9⟩, HB9, vt_keeps ?_⟩
        intro x hx hne hkl u hu
        simp only [List.mem_cons, List.not_mem_nil, or_false] at hx
        rcases hx with rfl | rfl | rfl | rfl | rfl | rfl | rfl
        · exact absurd (by simp) hkl
        · exact absurd rfl hne
        · exact hu
        · exact hu
        · exact hu
        · obtain ⟨g, e, h0, c0, c1, c2, c3, h1⟩ := hu; exact ⟨g, e, h0, c0, c1, c2, c3, h1.kept hgrow9 (row_var z3 h1)⟩
        · trivial
      case o9 =>
        intro ys wx hBx hdeps
        simp only [Deps3] at hdeps
        have z8 : ∃ u : Option Addr × Nat, ys 45 = .slice u.1 LK.length u.2 ∧ FMine wx w3.heap.size (.slice u.1 LK.length u.2) LK := by first | exact hdeps.1 rfl | exact hdeps.2.1 rfl | exact hdeps.2.2.1 rfl
        with_reducible refine Exists.elim z8 ?_
        intro g8 hh
        have y8 := hh.1
        have r8 := hh.2
        clear hh z8
        clear hdeps
        simp only [y8, List.getD_cons_zero, List.getD_cons_succ, slots, List.filterMap_cons, List.filterMap_nil, id, fill, List.foldl_cons, List.foldl_nil, Act.put, List.setIfInBounds_toArray, List.set_cons_succ, List.set_cons_zero]
        go_wp2_with (go_at_call 16; go_loud ((with_reducible refine (HJ.out _ _ _ _ (Batch.Tb.below HT.out (bel2 bw3.out hBx)) r8).mono ?_); rintro e w3 ⟨va, vc, rfl, hown, hbm⟩))
        exact ⟨_, rfl, ⟨(va, vc), rfl, trivial⟩, hBx.trans (hbm.mono hBx.size), vt_keep hbm⟩
      case o10 =>
        intro ys wx hBx hdeps
        simp only [Deps3] at hdeps
        have z9 : ∃ u : Option Addr × Nat, ys 46 = .tuple #[.agg #[.int .u32 (vl t0), .int .u32 (vl t1), .int .u32 (vl t2), .slice u.1 M9.length u.2], .int .i64 2] ∧ True := by first | exact hdeps.1 rfl | exact hdeps.2.1 rfl | exact hdeps.2.2.1 rfl
        with_reducible refine Exists.elim z9 ?_
        intro g9 hh
        have y9 := hh.1
        have r9 := hh.2
        clear hh z9
        clear hdeps
        simp only [y9, List.getD_cons_zero, List.getD_cons_succ, slots, List.filterMap_cons, List.filterMap_nil, id, fill, List.foldl_cons, List.foldl_nil, Act.put, List.setIfInBounds_toArray, List.set_cons_succ, List.set_cons_zero]
        go_wp2_with fail
        exact ⟨_, rfl, ⟨g9, rfl, trivial⟩, hBx, vt_keep (Below.refl _ _)⟩
      case o11 =>
        intro ys wx hBx hdeps
        simp only [Deps3] at hdeps
        have z10 : ∃ u : Option Addr × Nat, ys 36 = .tuple #[.agg #[.int .u32 (vl t0), .int .u32 (vl t1), .int .u32 (vl t2), .slice u.1 M9.length u.2], .int .i64 2] ∧ True := by first | exact hdeps.1 rfl | exact hdeps.2.1 rfl | exact hdeps.2.2.1 rfl
        with_reducible refine Exists.elim z10 ?_
        intro g10 hh
        have y10 := hh.1
        have r10 := hh.2
        clear hh z10
        clear hdeps
        simp only [y10, List.getD_cons_zero, List.getD_cons_succ, slots, List.filterMap_cons, List.filterMap_nil, id, fill, List.foldl_cons, List.foldl_nil, Act.put, List.setIfInBounds_toArray, List.set_cons_succ, List.set_cons_zero]
        go_wp2_with fail
        exact ⟨_, rfl, ⟨g10, rfl, trivial⟩, hBx, vt_keep (Below.refl _ _)⟩
      case o12 =>
        intro ys wx hBx hdeps
        simp only [Deps3] at hdeps
        have z10 : ∃ u : Option Addr × Nat, ys 36 = .tuple #[.agg #[.int .u32 (vl t0), .int .u32 (vl t1), .int .u32 (vl t2), .slice u.1 M9.length u.2], .int .i64 2] ∧ True := by first | exact hdeps.1 rfl | exact hdeps.2.1 rfl | exact hdeps.2.2.1 rfl
        with_reducible refine Exists.elim z10 ?_
        intro g10 hh
        have y10 := hh.1
        have r10 := hh.2
        clear hh z10
        clear hdeps
        simp only [y10, List.getD_cons_zero, List.getD_cons_succ, slots, List.filterMap_cons, List.filterMap_nil, id, fill, List.foldl_cons, List.foldl_nil, Act.put, List.setIfInBounds_toArray, List.set_cons_succ, List.set_cons_zero]
        go_wp2_with fail
        exact ⟨_, rfl, rfl, hBx, vt_keep (Below.refl _ _)⟩
      case o13 =>
        intro ys wx hBx hdeps
        clear hdeps
        simp only [List.getD_cons_zero, List.getD_cons_succ, slots, List.filterMap_cons, List.filterMap_nil, id, fill, List.foldl_cons, List.foldl_nil, Act.put, List.setIfInBounds_toArray, List.set_cons_succ, List.set_cons_zero]
        go_wp2_with fail
        exact ⟨_, rfl, ⟨_, rfl, hBx.size, _, _, _, _, Var.new wx 27 [.int .u32 0, .int .u32 0, .int .u32 0, .slice none 0 0]⟩, hBx.alloc hBx.size _, vt_keep ((Below.refl _ _).alloc (Nat.le_refl _) _)⟩
      case o14 =>
        intro ys wx hBx hdeps
        simp only [Deps3] at hdeps
        have z13 : ∃ g : Nat, ys 10 = .pointer (some ⟨g, 0, none⟩) ∧ (w3.heap.size ≤ g ∧ ∃ c0 c1 c2 c3, Var wx g 27 [c0, c1, c2, c3]) := by first | exact hdeps.1 rfl | exact hdeps.2.1 rfl | exact hdeps.2.2.1 rfl | exact hdeps.2.2.2.1 rfl
        with_reducible refine Exists.elim z13 ?_
        intro g13 hh
        have y13 := hh.1
        have r13 := hh.2
        clear hh z13
        have z11 : ∃ u : Option Addr × Nat, ys 47 = .agg #[.int .u32 (vl t0), .int .u32 (vl t1), .int .u32 (vl t2), .slice u.1 M9.length u.2] ∧ True := by first | exact hdeps.1 rfl | exact hdeps.2.1 rfl | exact hdeps.2.2.1 rfl | exact hdeps.2.2.2.1 rfl
        with_reducible refine Exists.elim z11 ?_
        intro g11 hh
        have y11 := hh.1
        have r11 := hh.2
        clear hh z11
        clear hdeps
        have r13b := r13.2
        with_reducible refine Exists.elim r13b ?_
        intro c0 h0
        with_reducible refine Exists.elim h0 ?_
        intro c1 h1
        with_reducible refine Exists.elim h1 ?_
        intro c2 h2
        with_reducible refine Exists.elim h2 ?_
        intro c3 h3
        have v13 := h3
        have k0 := v13.cell (j := 0) rfl
        have k1 := v13.cell (j := 1) rfl
        have k2 := v13.cell (j := 2) rfl
        have k3 := v13.cell (j := 3) rfl
        have f0 := v13.frozen 0
        have f1 := v13.frozen 1
        have f2 := v13.frozen 2
        have f3 := v13.frozen 3
        simp only [y13, y11, List.getD_cons_zero, List.getD_cons_succ, slots, List.filterMap_cons, List.filterMap_nil, id, fill, List.foldl_cons, List.foldl_nil, Act.put, List.setIfInBounds_toArray, List.set_cons_succ, List.set_cons_zero]
        go_wp2_with fail
        refine ⟨undef, rfl, trivial, ((((hBx.setCell (p := ⟨g13, 0, none⟩) r13.1 (.int .u32 (vl t0))).setCell (p := ⟨g13, 1, none⟩) r13.1 (.int .u32 (vl t1))).setCell (p := ⟨g13, 2, none⟩) r13.1 (.int .u32 (vl t2))).setCell (p := ⟨g13, 3, none⟩) r13.1 (.slice g11.1 M9.length g11.2)), vt_keeps ?_⟩
        intro x hx hne hkl u hu
        simp only [List.mem_cons, List.not_mem_nil, or_false] at hx
        rcases hx with rfl | rfl | rfl | rfl | rfl | rfl | rfl
        · exact (row_set (row_set (row_set (row_set hu v13 0 (.int .u32 (vl t0))) (v13.set 0 (.int .u32 (vl t0))) 1 (.int .u32 (vl t1))) ((v13.set 0 (.int .u32 (vl t0))).set 1 (.int .u32 (vl t1))) 2 (.int .u32 (vl t2))) (((v13.set 0 (.int .u32 (vl t0))).set 1 (.int .u32 (vl t1))).set 2 (.int .u32 (vl t2))) 3 (.slice g11.1 M9.length g11.2))
        · obtain ⟨p, e, h⟩ := hu; exact ⟨p, e, (row_set (row_set (row_set (row_set h v13 0 (.int .u32 (vl t0))) (v13.set 0 (.int .u32 (vl t0))) 1 (.int .u32 (vl t1))) ((v13.set 0 (.int .u32 (vl t0))).set 1 (.int .u32 (vl t1))) 2 (.int .u32 (vl t2))) (((v13.set 0 (.int .u32 (vl t0))).set 1 (.int .u32 (vl t1))).set 2 (.int .u32 (vl t2))) 3 (.slice g11.1 M9.length g11.2))⟩
        · exact hu
        · exact hu
        · exact hu
        · exact (var_set4 (var_set4 (var_set4 (var_set4 hu v13 0 (.int .u32 (vl t0))) (v13.set 0 (.int .u32 (vl t0))) 1 (.int .u32 (vl t1))) ((v13.set 0 (.int .u32 (vl t0))).set 1 (.int .u32 (vl t1))) 2 (.int .u32 (vl t2))) (((v13.set 0 (.int .u32 (vl t0))).set 1 (.int .u32 (vl t1))).set 2 (.int .u32 (vl t2))) 3 (.slice g11.1 M9.length g11.2))
        · trivial
      case o15 =>
        intro ys wx hBx hdeps
        simp only [Deps3] at hdeps
        have y12 : ys 48 = .int .i64 2 := by first | exact hdeps.1 rfl | exact hdeps.2.1 rfl | exact hdeps.2.2.1 rfl
        clear hdeps
        simp only [y12, List.getD_cons_zero, List.getD_cons_succ, slots, List.filterMap_cons, List.filterMap_nil, id, fill, List.foldl_cons, List.foldl_nil, Act.put, List.setIfInBounds_toArray, List.set_cons_succ, List.set_cons_zero]
        go_wp2_with fail
        exact ⟨_, rfl, rfl, hBx, vt_keep (Below.refl _ _)⟩
    case done =>
      intro ys w8 hBx hV
      have h11 : ys 11 = .int .i64 2 := hV 15 (by decide) (by decide)
      have bw8 := Lib.hid (bel2 bw3.out hBx)
      clear hBx hV
      simp only [h11, slots, List.filterMap_cons, List.filterMap_nil, id, fill, List.drop_succ_cons, List.drop_zero, List.foldl_cons, List.foldl_nil, Act.put, List.setIfInBounds_toArray, List.set_cons_succ, List.set_cons_zero]
      go_wp2
      go_ret
      exact ⟨rfl, bw8.out⟩
set_option maxRecDepth 100000 in
set_option maxHeartbeats 8000000 in
theorem lacks_3 (gp gs gr hp hq hr : Int) (sq pv fr : W) (a : Option Addr) (n cap : Nat) (L : List Wr) (s0 s1 s2 : W) (M : List Wr) (PL : List Fr) (at_ : Int) (i : Nat) (hi : i < PL.length) (h2 : 2 ≤ PL.length) (hfew : PL.length ≤ 1000) (LK : List Fr) (hLK : LK = PL.take i ++ PL.drop (i + 1)) (hKl : LK.length + 1 = PL.length) (t0 t1 t2 : W) (M9 : List Wr) (e2 : Hid (PL.length = 2))
    (HGE : Hid (∀ w, Calls Tryd.prog 9 #[.agg #[.int .i64 gp, .int .i64 gs, .int .i64 gr]] w fun e w' => e = .returned (.agg #[.int .i64 hp, .int .i64 hq, .int .i64 hr]) ∧ Below w.heap.size w w'))
    (HSH : Hid (∀ w, WAt w a L → Calls Tryd.prog 11 #[.agg #[.int .u32 (vl sq), .int .u32 (vl pv), .int .u32 (vl fr), .slice a n cap]] w fun e w' => ∃ va vc, e = .returned (.agg #[.int .u32 (vl s0), .int .u32 (vl s1), .int .u32 (vl s2), .slice va M.length vc]) ∧ WMine w' w.heap.size (.slice va M.length vc) M ∧ Below w.heap.size w w'))
    (HC : Hid (∀ w a c, Tb w → WAt w a M → Calls Tryd.prog 12 #[.agg #[.int .i64 hp, .int .i64 hq, .int .i64 hr], .agg #[.int .u32 (vl s0), .int .u32 (vl s1), .int .u32 (vl s2), .slice a M.length c]] w fun e w' => ∃ va vc, e = .returned (.tuple #[.slice va PL.length vc, .int .i64 0]) ∧ FMine w' w.heap.size (.slice va PL.length vc) PL ∧ Below w.heap.size w w'))
    (HAL : Hid (∀ w, Tb w → Calls Tryd.prog 14 #[] w fun e w' => e = .returned (.bool true) ∧ Below w.heap.size w w'))
    (HPK : Hid (∀ w, Calls Tryd.prog 22 #[.int .i64 at_, .int .i64 (PL.length : Int)] w fun e w' => e = .returned (.int .i64 (i : Int)) ∧ w = w'))
    (HJ : Hid (∀ w base a c, Tb w → FMine w base (.slice a LK.length c) LK → Calls Tryd.prog 16 #[.slice a LK.length c] w fun e w' => ∃ va vc, e = .returned (.tuple #[.agg #[.int .u32 (vl t0), .int .u32 (vl t1), .int .u32 (vl t2), .slice va M9.length vc], .int .i64 3]) ∧ WMine w' w.heap.size (.slice va M9.length vc) M9 ∧ Below w.heap.size w w')) (w : World) (HT : Hid (Tb w)) (HRW : Hid (WAt w a L)) :
    Calls Tryd.prog 8 #[.agg #[.int .i64 gp, .int .i64 gs, .int .i64 gr], .agg #[.int .u32 (vl sq), .int .u32 (vl pv), .int .u32 (vl fr), .slice a n cap], .int .i64 at_] w fun e w' => e = .returned (.bool true) ∧ Below w.heap.size w w' := by
  go_enter Tryd.func8, Tryd.ntmps8
  go_wp2
  obtain ⟨w1, hw1⟩ : ∃ wx, wx = ((w.alloc (.cells #[.int .i64 gp, .int .i64 gs, .int .i64 gr] 23)).alloc (.cells #[.int .u32 (vl sq), .int .u32 (vl pv), .int .u32 (vl fr), .slice a n cap] 27)) := ⟨_, rfl⟩
  have bw1 := Lib.hid (show Below w.heap.size w w1 by rw [hw1]; exact (bel2 (Geom.bel_alloc _ _) (Geom.bel_alloc _ _)))
  have zw1 := Lib.hid (show w.heap.size + 2 ≤ w1.heap.size by rw [hw1]; simp)
  have vw1g := Lib.hid (show Var w1 (w.heap.size) 23 [.int .i64 gp, .int .i64 gs, .int .i64 gr] by rw [hw1]; exact ((Var.new w 23 [.int .i64 gp, .int .i64 gs, .int .i64 gr]).alloc _))
  have vw1x := Lib.hid (show Var w1 (w.heap.size + 1) 27 [.int .u32 (vl sq), .int .u32 (vl pv), .int .u32 (vl fr), .slice a n cap] by rw [hw1]; exact (show Var ((w.alloc (.cells #[.int .i64 gp, .int .i64 gs, .int .i64 gr] 23)).alloc (.cells #[.int .u32 (vl sq), .int .u32 (vl pv), .int .u32 (vl fr), .slice a n cap] 27)) (w.heap.size + 1) 27 [.int .u32 (vl sq), .int .u32 (vl pv), .int .u32 (vl fr), .slice a n cap] from by have h := Var.new (w.alloc (.cells #[.int .i64 gp, .int .i64 gs, .int .i64 gr] 23)) 27 [.int .u32 (vl sq), .int .u32 (vl pv), .int .u32 (vl fr), .slice a n cap]; rw [show (w.alloc (.cells #[.int .i64 gp, .int .i64 gs, .int .i64 gr] 23)).heap.size = w.heap.size + 1 by simp] at h; exact h))
  rw [← hw1]
  refine wp_region_each [13, 14, 15, 16, 17, 12, 18, 19, 7, 8] (fun w' => Below w1.heap.size w1 w') (VT [.agg #[.int .i64 gp, .int .i64 gs, .int .i64 gr], .agg #[.int .i64 hp, .int .i64 hq, .int .i64 hr], .agg #[.int .u32 (vl sq), .int .u32 (vl pv), .int .u32 (vl fr), .slice a n cap], undef, undef, undef, undef, .int .i64 0, undef, .int .i64 0] [(3, gp2 w1.heap.size s0 s1 s2 M), (4, cut2 w1.heap.size PL 0), (5, cut2 w1.heap.size PL 0), (6, row2 w1.heap.size PL), (8, row2 w1.heap.size PL)]) (by kernel_rfl) (by kernel_rfl) rfl (by decide) (by simp) (VT.mono _ _) (Below.refl _ _).drew ?each ?done
  case each =>
    simp only [Each]
    refine ⟨?o0, ?o1, ?o2, ?o3, ?o4, ?o5, ?o6, ?o7, ?o8, ?o9, trivial⟩
    case o0 =>
      intro ys wx hBx hdeps
      clear hdeps
      have q1 := (vw1g.out.below hBx vw1g.out.lt).cell (j := 0) rfl
      have q2 := (vw1g.out.below hBx vw1g.out.lt).cell (j := 1) rfl
      have q3 := (vw1g.out.below hBx vw1g.out.lt).cell (j := 2) rfl
      simp only [fill, List.foldl_cons, List.foldl_nil, Act.put, List.setIfInBounds_toArray, List.set_cons_succ, List.set_cons_zero]
      go_wp2_with fail
      exact ⟨_, rfl, rfl, hBx, Below.refl _ _⟩
    case o1 =>
      intro ys wx hBx hdeps
      simp only [Deps, Region.binds, List.getD_cons_zero, List.getD_cons_succ, forall_const, and_true, true_and] at hdeps
      have y0 : ys 13 = .agg #[.int .i64 gp, .int .i64 gs, .int .i64 gr] := by first | exact hdeps | exact hdeps.1 | exact hdeps.2.1 | exact hdeps.2 | exact hdeps.2.2
      clear hdeps
      simp only [y0, fill, List.foldl_cons, List.foldl_nil, Act.put, List.setIfInBounds_toArray, List.set_cons_succ, List.set_cons_zero]
      go_wp2_with (go_at_call 9; (with_reducible refine (HGE.out _).mono ?_); rintro e w3 ⟨rfl, hbm⟩)
      exact ⟨_, rfl, rfl, hBx.trans (hbm.mono hBx.size), hbm⟩
    case o2 =>
      intro ys wx hBx hdeps
      clear hdeps
      have q4 := (vw1x.out.below hBx vw1x.out.lt).cell (j := 0) rfl
      have q5 := (vw1x.out.below hBx vw1x.out.lt).cell (j := 1) rfl
      have q6 := (vw1x.out.below hBx vw1x.out.lt).cell (j := 2) rfl
      have q7 := (vw1x.out.below hBx vw1x.out.lt).cell (j := 3) rfl
      simp only [fill, List.foldl_cons, List.foldl_nil, Act.put, List.setIfInBounds_toArray, List.set_cons_succ, List.set_cons_zero]
      go_wp2_with fail
      exact ⟨_, rfl, rfl, hBx, Below.refl _ _⟩
    case o3 =>
      intro ys wx hBx hdeps
      simp only [Deps, Region.binds, List.getD_cons_zero, List.getD_cons_succ, forall_const, and_true, true_and] at hdeps
      have y2 : ys 15 = .agg #[.int .u32 (vl sq), .int .u32 (vl pv), .int .u32 (vl fr), .slice a n cap] := by first | exact hdeps | exact hdeps.1 | exact hdeps.2.1 | exact hdeps.2 | exact hdeps.2.2
      clear hdeps
      simp only [y2, fill, List.foldl_cons, List.foldl_nil, Act.put, List.setIfInBounds_toArray, List.set_cons_succ, List.set_cons_zero]
      go_wp2_with (go_at_call 11; go_loud ((with_reducible refine (HSH.out _ (Batch.WAt.below HRW.out (bel2 bw1.out hBx))).mono ?_); rintro e w3 ⟨va, vc, rfl, hown, hbm⟩))
      exact ⟨_, rfl, ⟨(va, vc), rfl, owns_base hown hBx.size⟩, hBx.trans (hbm.mono hBx.size), hbm⟩
    case o4 =>
      intro ys wx hBx hdeps
      simp only [Deps, Region.binds, List.getD_cons_zero, List.getD_cons_succ, forall_const, and_true, true_and] at hdeps
      have y1 : ys 14 = .agg #[.int .i64 hp, .int .i64 hq, .int .i64 hr] := by first | exact hdeps.1 | exact hdeps.2.1 | exact hdeps.2.2.1 | exact hdeps.2 | exact hdeps.2.2 | exact hdeps.2.2.2
      have z3 : ∃ u : Option Addr × Nat, ys 16 = .agg #[.int .u32 (vl s0), .int .u32 (vl s1), .int .u32 (vl s2), .slice u.1 M.length u.2] ∧ Batch.WMine wx w1.heap.size (.slice u.1 M.length u.2) M := by first | exact hdeps.1 | exact hdeps.2.1 | exact hdeps.2.2.1 | exact hdeps.2 | exact hdeps.2.2 | exact hdeps.2.2.2
      with_reducible refine Exists.elim z3 ?_
      intro g3 hh
      have y3 := hh.1
      have r3 := hh.2
      clear hh z3
      clear hdeps
      simp only [y1, y3, fill, List.foldl_cons, List.foldl_nil, Act.put, List.setIfInBounds_toArray, List.set_cons_succ, List.set_cons_zero]
      go_wp2_with (go_at_call 12; (with_reducible refine (HC.out _ _ _ (Batch.Tb.below HT.out (bel2 bw1.out hBx)) (wat_mine r3)).mono ?_); rintro e w3 ⟨va, vc, rfl, hown, hbm⟩)
      exact ⟨_, rfl, ⟨(va, vc), rfl, hown.base hBx.size⟩, hBx.trans (hbm.mono hBx.size), hbm⟩
    case o5 =>
      intro ys wx hBx hdeps
      simp only [Deps, Region.binds, List.getD_cons_zero, List.getD_cons_succ, forall_const, and_true, true_and] at hdeps
      have z4 : ∃ u : Option Addr × Nat, ys 17 = .tuple #[.slice u.1 PL.length u.2, .int .i64 0] ∧ FMine wx w1.heap.size (.slice u.1 PL.length u.2) PL := by first | exact hdeps | exact hdeps.1 | exact hdeps.2.1 | exact hdeps.2 | exact hdeps.2.2
      with_reducible refine Exists.elim z4 ?_
      intro g4 hh
      have y4 := hh.1
      have r4 := hh.2
      clear hh z4
      clear hdeps
      simp only [y4, fill, List.foldl_cons, List.foldl_nil, Act.put, List.setIfInBounds_toArray, List.set_cons_succ, List.set_cons_zero]
      go_wp2_with fail
      exact ⟨_, rfl, ⟨g4, rfl, r4⟩, hBx, Below.refl _ _⟩
    case o6 =>
      intro ys wx hBx hdeps
      simp only [Deps, Region.binds, List.getD_cons_zero, List.getD_cons_succ, forall_const, and_true, true_and] at hdeps
      have z5 : ∃ u : Option Addr × Nat, ys 12 = .tuple #[.slice u.1 PL.length u.2, .int .i64 0] ∧ FMine wx w1.heap.size (.slice u.1 PL.length u.2) PL := by first | exact hdeps | exact hdeps.1 | exact hdeps.2.1 | exact hdeps.2 | exact hdeps.2.2
      with_reducible refine Exists.elim z5 ?_
      intro g5 hh
      have y5 := hh.1
      have r5 := hh.2
      clear hh z5
      clear hdeps
      simp only [y5, fill, List.foldl_cons, List.foldl_nil, Act.put, List.setIfInBounds_toArray, List.set_cons_succ, List.set_cons_zero]
      go_wp2_with fail
      exact ⟨_, rfl, ⟨g5, rfl, r5⟩, hBx, Below.refl _ _⟩
    case o7 =>
      intro ys wx hBx hdeps
      simp only [Deps, Region.binds, List.getD_cons_zero, List.getD_cons_succ, forall_const, and_true, true_and] at hdeps
      have z5 : ∃ u : Option Addr × Nat, ys 12 = .tuple #[.slice u.1 PL.length u.2, .int .i64 0] ∧ FMine wx w1.heap.size (.slice u.1 PL.length u.2) PL := by first | exact hdeps | exact hdeps.1 | exact hdeps.2.1 | exact hdeps.2 | exact hdeps.2.2
      with_reducible refine Exists.elim z5 ?_
      intro g5 hh
      have y5 := hh.1
      have r5 := hh.2
      clear hh z5
      clear hdeps
      simp only [y5, fill, List.foldl_cons, List.foldl_nil, Act.put, List.setIfInBounds_toArray, List.set_cons_succ, List.set_cons_zero]
      go_wp2_with fail
      exact ⟨_, rfl, rfl, hBx, Below.refl _ _⟩
    case o8 =>
      intro ys wx hBx hdeps
      simp only [Deps, Region.binds, List.getD_cons_zero, List.getD_cons_succ, forall_const, and_true, true_and] at hdeps
      have z6 : ∃ u : Option Addr × Nat, ys 18 = .slice u.1 PL.length u.2 ∧ FMine wx w1.heap.size (.slice u.1 PL.length u.2) PL := by first | exact hdeps | exact hdeps.1 | exact hdeps.2.1 | exact hdeps.2 | exact hdeps.2.2
      with_reducible refine Exists.elim z6 ?_
      intro g6 hh
      have y6 := hh.1
      have r6 := hh.2
      clear hh z6
      clear hdeps
      simp only [y6, fill, List.foldl_cons, List.foldl_nil, Act.put, List.setIfInBounds_toArray, List.set_cons_succ, List.set_cons_zero]
      go_wp2_with fail
      exact ⟨_, rfl, ⟨g6, rfl, r6⟩, hBx, Below.refl _ _⟩
    case o9 =>
      intro ys wx hBx hdeps
      simp only [Deps, Region.binds, List.getD_cons_zero, List.getD_cons_succ, forall_const, and_true, true_and] at hdeps
      have y7 : ys 19 = .int .i64 0 := by first | exact hdeps | exact hdeps.1 | exact hdeps.2.1 | exact hdeps.2 | exact hdeps.2.2
      clear hdeps
      simp only [y7, fill, List.foldl_cons, List.foldl_nil, Act.put, List.setIfInBounds_toArray, List.set_cons_succ, List.set_cons_zero]
      go_wp2_with fail
      exact ⟨_, rfl, rfl, hBx, Below.refl _ _⟩
  case done =>
    intro ys w2 hBx hV
    have bw2 := Lib.hid (bel2 bw1.out hBx)
    have zw2 := Lib.hid hBx.size
    have vw2g := Lib.hid (vw1g.out.below hBx vw1g.out.lt)
    have vw2x := Lib.hid (vw1x.out.below hBx vw1x.out.lt)
    have hh : ∃ u : Option Addr × Nat, ys 7 = .slice u.1 PL.length u.2 ∧ FMine w2 w1.heap.size (.slice u.1 PL.length u.2) PL := hV 8 (by decide)
    with_reducible refine Exists.elim hh ?_
    intro uP hh2
    have eP := hh2.1
    have MP := Lib.hid hh2.2
    clear hh hh2
    have h8 : ys 8 = .int .i64 0 := hV 9 (by decide)
    clear hBx hV
    simp only [eP, h8, fill, List.drop_succ_cons, List.drop_zero, List.foldl_cons, List.foldl_nil, Act.put, List.setIfInBounds_toArray, List.set_cons_succ, List.set_cons_zero]
    have h2' : 0 < PL.length := by omega
    have hcp := fm_cap MP.out
    have hlen2 : decide ((PL.length : Int) < 2) = false := by simp; omega
    have hlen2' : decide (PL.length < 2) = false := by simp; omega
    with_reducible refine Exists.elim (fmine_some MP.out h2') ?_
    intro gP hh
    have hgP := hh.1
    have hgB := hh.2
    clear hh
    have HMP := MP.out
    rw [hgP] at HMP ⊢
    have MQ := Lib.hid HMP
    clear HMP
    generalize uP.2 = cP at *
    go_wp2_with (first
      | (go_at_call 14; go_loud ((with_reducible refine (HAL.out _ (Batch.Tb.below HT.out bw2.out)).mono ?_); rintro e w3 ⟨rfl, bz⟩; have hbel : Below w2.heap.size w2 w3 := (by exact bz); clear bz; have bw3 := Lib.hid (bel2 bw2.out hbel); have zw3 := Lib.hid hbel.size; have vw3g := Lib.hid (vw2g.out.below hbel vw2g.out.lt); have vw3x := Lib.hid (vw2x.out.below hbel vw2x.out.lt); have rw3P := Lib.hid (owns_below MQ.out hbel); clear hbel))
      | (go_at_call 22; (with_reducible refine (HPK.out _).mono ?_); rintro e wsame ⟨rfl, rfl⟩))
    have MR := rw3P
    have hsl1 := fun w => sliceF_h (some ⟨gP, 0, none⟩) PL.length cP i (by omega) (i : Int) rfl w
    have hsl2 := fun w => sliceF_l (some ⟨gP, 0, none⟩) PL.length cP (i + 1) (by omega) ((i : Int) + 1) (by omega) w
    have HFT := Lib.hid ((fat_of MR.out).take i)
    have HFD := Lib.hid ((fat_of MR.out).drop hcp (i + 1))
    have hdr : dropA (some ⟨gP, 0, none⟩) (i + 1) cP = some ⟨gP, (if cP = i + 1 then 0 else (i + 1) * 4), none⟩ := by unfold dropA; split <;> simp [Addr.add]
    rw [hdr] at hsl2 HFD
    generalize (if cP = i + 1 then 0 else (i + 1) * 4) = oD at *
    have hli : (PL.take i).length = i := by rw [List.length_take]; omega
    have hld : (PL.drop (i + 1)).length = PL.length - (i + 1) := List.length_drop
    have HFL := Lib.hid (show flatF (PL.take i) ++ flatF (PL.drop (i + 1)) = flatF LK by rw [hLK, flatF_app])
    have hl1 : (flatF (PL.take i)).length = i * 4 := by rw [flatF_length, hli]
    have hl2 : (flatF (PL.drop (i + 1))).length = (PL.length - (i + 1)) * 4 := by rw [flatF_length, hld]
    clear hLK hdr hgP hli hld
    refine wp_region_keep [some 37, some 38, some 39, some 40, some 41, some 42, some 43, some 44, some 45, some 46, some 36, some 47, some 48, some 10, none, some 11] (fun w' => Below w3.heap.size w3 w') (VT [.slice (some ⟨gP, 0, none⟩) PL.length cP, .int .i64 (i : Int), .slice (some ⟨gP, 0, none⟩) i cP, undef, .slice (some ⟨gP, 0, none⟩) PL.length cP, .int .i64 (i : Int), .int .i64 ((i : Int) + 1), .slice (some ⟨gP, oD, none⟩) (PL.length - (i + 1)) (cP - (i + 1)), undef, undef, undef, undef, .int .i64 3, undef, undef, .int .i64 3] [(3, mineR w3.heap.size i (flatF (PL.take i))), (8, row2 w3.heap.size LK), (9, jSp t0 t1 t2 M9 (3)), (10, jSp t0 t1 t2 M9 (3)), (11, gSp t0 t1 t2 M9), (13, var4 w3.heap.size), (14, trueSp)]) [(8, 3)] (by kernel_rfl) (by kernel_rfl) rfl (by kernel_rfl) (by simp [slots]) (none_of [14] (by kernel_rfl) (by simp [List.lookup])) (Below.refl _ _).drew ?each ?done
    case each =>
      simp only [Each3]
      refine ⟨?o0, ?o1, ?o2, ?o3, ?o4, ?o5, ?o6, ?o7, ?o8, ?o9, ?o10, ?o11, ?o12, ?o13, ?o14, ?o15, trivial⟩
      case o0 =>
        intro ys wx hBx hdeps
        clear hdeps
        simp only [List.getD_cons_zero, List.getD_cons_succ, slots, List.filterMap_cons, List.filterMap_nil, id, fill, List.foldl_cons, List.foldl_nil, Act.put, List.setIfInBounds_toArray, List.set_cons_succ, List.set_cons_zero]
        go_wp2_with fail
        exact ⟨_, rfl, rfl, hBx, vt_keep (Below.refl _ _)⟩
      case o1 =>
        intro ys wx hBx hdeps
        clear hdeps
        simp only [List.getD_cons_zero, List.getD_cons_succ, slots, List.filterMap_cons, List.filterMap_nil, id, fill, List.foldl_cons, List.foldl_nil, Act.put, List.setIfInBounds_toArray, List.set_cons_succ, List.set_cons_zero]
        go_wp2_with fail
        exact ⟨_, rfl, rfl, hBx, vt_keep (Below.refl _ _)⟩
      case o2 =>
        intro ys wx hBx hdeps
        simp only [Deps3] at hdeps
        have y0 : ys 37 = .slice (some ⟨gP, 0, none⟩) PL.length cP := by first | exact hdeps.1 rfl | exact hdeps.2.1 rfl | exact hdeps.2.2.1 rfl | exact hdeps.2.2.2.1 rfl
        have y1 : ys 38 = .int .i64 (i : Int) := by first | exact hdeps.1 rfl | exact hdeps.2.1 rfl | exact hdeps.2.2.1 rfl | exact hdeps.2.2.2.1 rfl
        clear hdeps
        simp only [y0, y1, List.getD_cons_zero, List.getD_cons_succ, slots, List.filterMap_cons, List.filterMap_nil, id, fill, List.foldl_cons, List.foldl_nil, Act.put, List.setIfInBounds_toArray, List.set_cons_succ, List.set_cons_zero]
        go_wp2_with fail
        exact ⟨_, rfl, rfl, hBx, vt_keep (Below.refl _ _)⟩
      case o3 =>
        intro ys wx hBx hdeps
        simp only [Deps3] at hdeps
        have y2 : ys 39 = .slice (some ⟨gP, 0, none⟩) i cP := by first | exact hdeps.1 rfl | exact hdeps.2.1 rfl | exact hdeps.2.2.1 rfl
        clear hdeps
        simp only [y2, List.getD_cons_zero, List.getD_cons_succ, slots, List.filterMap_cons, List.filterMap_nil, id, fill, List.foldl_cons, List.foldl_nil, Act.put, List.setIfInBounds_toArray, List.set_cons_succ, List.set_cons_zero]
        go_wp2_with (at_builtin; go_loud (refine append_at rfl _ _ 31 rfl w3.heap.size 49 (.agg #[.int .i64 0, .int .u32 0, .int .u32 0, .string ⟨#[]⟩]) 4 32 Tryd.underlying31 infoF rfl (by decide) (.slice none 0 0) 0 [] rfl ⟨rfl, .inl ⟨rfl, rfl⟩⟩ ⟨gP, 0, none⟩ i cP (flatF (PL.take i)) rfl hl1 (fat_news (FAt.below HFT.out hBx)) (flat_one _) ?c1 ?c2 ?c3 ?_; (case c1 => omega); (case c2 => (unfold maxLen; omega)); (case c3 => exact hBx.size); intro v9 w9 hown9 hgrow9 hat9))
        have hb9 := below_append (Below.refl wx.heap.size wx) hgrow9 (Nat.le_refl _) (fun t ht => by cases ht)
        exact ⟨_, rfl, by unfold VT mineR; simp only [List.lookup, Nat.zero_add, List.nil_append] at hown9 ⊢; exact hown9, hBx.trans (hb9.mono hBx.size), vt_keep hb9⟩
      case o4 =>
        intro ys wx hBx hdeps
        clear hdeps
        simp only [List.getD_cons_zero, List.getD_cons_succ, slots, List.filterMap_cons, List.filterMap_nil, id, fill, List.foldl_cons, List.foldl_nil, Act.put, List.setIfInBounds_toArray, List.set_cons_succ, List.set_cons_zero]
        go_wp2_with fail
        exact ⟨_, rfl, rfl, hBx, vt_keep (Below.refl _ _)⟩
      case o5 =>
        intro ys wx hBx hdeps
        clear hdeps
        simp only [List.getD_cons_zero, List.getD_cons_succ, slots, List.filterMap_cons, List.filterMap_nil, id, fill, List.foldl_cons, List.foldl_nil, Act.put, List.setIfInBounds_toArray, List.set_cons_succ, List.set_cons_zero]
        go_wp2_with fail
        exact ⟨_, rfl, rfl, hBx, vt_keep (Below.refl _ _)⟩
      case o6 =>
        intro ys wx hBx hdeps
        simp only [Deps3] at hdeps
        have y5 : ys 42 = .int .i64 (i : Int) := by first | exact hdeps.1 rfl | exact hdeps.2.1 rfl | exact hdeps.2.2.1 rfl
        clear hdeps
        simp only [y5, List.getD_cons_zero, List.getD_cons_succ, slots, List.filterMap_cons, List.filterMap_nil, id, fill, List.foldl_cons, List.foldl_nil, Act.put, List.setIfInBounds_toArray, List.set_cons_succ, List.set_cons_zero]
        go_wp2_with fail
        exact ⟨_, rfl, rfl, hBx, vt_keep (Below.refl _ _)⟩
      case o7 =>
        intro ys wx hBx hdeps
        simp only [Deps3] at hdeps
        have y4 : ys 41 = .slice (some ⟨gP, 0, none⟩) PL.length cP := by first | exact hdeps.1 rfl | exact hdeps.2.1 rfl | exact hdeps.2.2.1 rfl | exact hdeps.2.2.2.1 rfl
        have y6 : ys 43 = .int .i64 ((i : Int) + 1) := by first | exact hdeps.1 rfl | exact hdeps.2.1 rfl | exact hdeps.2.2.1 rfl | exact hdeps.2.2.2.1 rfl
        clear hdeps
        simp only [y4, y6, List.getD_cons_zero, List.getD_cons_succ, slots, List.filterMap_cons, List.filterMap_nil, id, fill, List.foldl_cons, List.foldl_nil, Act.put, List.setIfInBounds_toArray, List.set_cons_succ, List.set_cons_zero]
        go_wp2_with fail
        exact ⟨_, rfl, rfl, hBx, vt_keep (Below.refl _ _)⟩
      case o8 =>
        intro ys wx hBx hdeps
        simp only [Deps3] at hdeps
        have z3 : World.ownsRow wx w3.heap.size 49 4 (ys 40) i (flatF (PL.take i)) := by first | exact hdeps.1 rfl | exact hdeps.2.1 rfl | exact hdeps.2.2.1 rfl | exact hdeps.2.2.2.1 rfl
        have y7 : ys 44 = .slice (some ⟨gP, oD, none⟩) (PL.length - (i + 1)) (cP - (i + 1)) := by first | exact hdeps.1 rfl | exact hdeps.2.1 rfl | exact hdeps.2.2.1 rfl | exact hdeps.2.2.2.1 rfl
        clear hdeps
        simp only [y7, List.getD_cons_zero, List.getD_cons_succ, slots, List.filterMap_cons, List.filterMap_nil, id, fill, List.foldl_cons, List.foldl_nil, Act.put, List.setIfInBounds_toArray, List.set_cons_succ, List.set_cons_zero]
        go_wp2_with (at_builtin; go_loud (refine append_at rfl _ _ 31 rfl w3.heap.size 49 (.agg #[.int .i64 0, .int .u32 0, .int .u32 0, .string ⟨#[]⟩]) 4 32 Tryd.underlying31 infoF rfl (by decide) (ys 40) i (flatF (PL.take i)) rfl z3 ⟨gP, oD, none⟩ (PL.length - (i + 1)) (cP - (i + 1)) (flatF (PL.drop (i + 1))) rfl hl2 (fat_news (FAt.below HFD.out hBx)) (flat_one _) ?c1 ?c2 ?c3 ?_; (case c1 => omega); (case c2 => (unfold maxLen; omega)); (case c3 => exact hBx.size); intro v9 w9 hown9 hgrow9 hat9))
        have HB9 := below_append hBx hgrow9 hBx.size (fun t ht => (owns_lt z3 t ht).2)
        rw [HFL.out, show i + (PL.length - (i + 1)) = LK.length by omega] at hown9
        have hsl9 := owns_slice hown9
        with_reducible refine Exists.elim hsl9 ?_
        intro a9 hh
        with_reducible refine Exists.elim hh ?_
        intro c9 he9
        clear hh hsl9
        subst he9
        refine ⟨_, rfl, ⟨(a9, c9), rfl, hown9⟩, HB9, vt_keeps ?_⟩
        intro x hx hne hkl u hu
        simp only [List.mem_cons, List.not_mem_nil, or_false] at hx
        rcases hx with rfl | rfl | rfl | rfl | rfl | rfl | rfl
        · exact absurd (by simp) hkl
        · exact absurd rfl hne
        · exact hu
        · exact hu
        · exact hu
        · obtain ⟨g, e, h0, c0, c1, c2, c3, h1⟩ := hu; exact ⟨g, e, h0, c0, c1, c2, c3, h1.kept hgrow9 (row_var z3 h1)⟩
        · trivial
      case o9 =>
        intro ys wx hBx hdeps
        simp only [Deps3] at hdeps
        have z8 : ∃ u : Option Addr × Nat, ys 45 = .slice u.1 LK.length u.2 ∧ FMine wx w3.heap.size (.slice u.1 LK.length u.2) LK := by first | exact hdeps.1 rfl | exact hdeps.2.1 rfl | exact hdeps.2.2.1 rfl
        with_reducible refine Exists.elim z8 ?_
        intro g8 hh
        have y8 := hh.1
        have r8 := hh.2
        clear hh z8
        clear hdeps
        simp only [y8, List.getD_cons_zero, List.getD_cons_succ, slots, List.filterMap_cons, List.filterMap_nil, id, fill, List.foldl_cons, List.foldl_nil, Act.put, List.setIfInBounds_toArray, List.set_cons_succ, List.set_cons_zero]
        go_wp2_with (go_at_call 16; go_loud ((with_reducible refine (HJ.out _ _ _ _ (Batch.Tb.below HT.out (bel2 bw3.out hBx)) r8).mono ?_); rintro e w3 ⟨va, vc, rfl, hown, hbm⟩))
        exact ⟨_, rfl, ⟨(va, vc), rfl, trivial⟩, hBx.trans (hbm.mono hBx.size), vt_keep hbm⟩
      case o10 =>
        intro ys wx hBx hdeps
        simp only [Deps3] at hdeps
        have z9 : ∃ u : Option Addr × Nat, ys 46 = .tuple #[.agg #[.int .u32 (vl t0), .int .u32 (vl t1), .int .u32 (vl t2), .slice u.1 M9.length u.2], .int .i64 3] ∧ True := by first | exact hdeps.1 rfl | exact hdeps.2.1 rfl | exact hdeps.2.2.1 rfl
        with_reducible refine Exists.elim z9 ?_
        intro g9 hh
        have y9 := hh.1
        have r9 := hh.2
        clear hh z9
        clear hdeps
        simp only [y9, List.getD_cons_zero, List.getD_cons_succ, slots, List.filterMap_cons, List.filterMap_nil, id, fill, List.foldl_cons, List.foldl_nil, Act.put, List.setIfInBounds_toArray, List.set_cons_succ, List.set_cons_zero]
        go_wp2_with fail
        exact ⟨_, rfl, ⟨g9, rfl, trivial⟩, hBx, vt_keep (Below.refl _ _)⟩
      case o11 =>
        intro ys wx hBx hdeps
        simp only [Deps3] at hdeps
        have z10 : ∃ u : Option Addr × Nat, ys 36 = .tuple #[.agg #[.int .u32 (vl t0), .int .u32 (vl t1), .int .u32 (vl t2), .slice u.1 M9.length u.2], .int .i64 3] ∧ True := by first | exact hdeps.1 rfl | exact hdeps.2.1 rfl | exact hdeps.2.2.1 rfl
        with_reducible refine Exists.elim z10 ?_
        intro g10 hh
        have y10 := hh.1
        have r10 := hh.2
        clear hh z10
        clear hdeps
        simp only [y10, List.getD_cons_zero, List.getD_cons_succ, slots, List.filterMap_cons, List.filterMap_nil, id, fill, List.foldl_cons, List.foldl_nil, Act.put, List.setIfInBounds_toArray, List.set_cons_succ, List.set_cons_zero]
        go_wp2_with fail
        exact ⟨_, rfl, ⟨g10, rfl, trivial⟩, hBx, vt_keep (Below.refl _ _)⟩
      case o12 =>
        intro ys wx hBx hdeps
        simp only [Deps3] at hdeps
        have z10 : ∃ u : Option Addr × Nat, ys 36 = .tuple #[.agg #[.int .u32 (vl t0), .int .u32 (vl t1), .int .u32 (vl t2), .slice u.1 M9.length u.2], .int .i64 3] ∧ True := by first | exact hdeps.1 rfl | exact hdeps.2.1 rfl | exact hdeps.2.2.1 rfl
        with_reducible refine Exists.elim z10 ?_
        intro g10 hh
        have y10 := hh.1
        have r10 := hh.2
        clear hh z10
        clear hdeps
        simp only [y10, List.getD_cons_zero, List.getD_cons_succ, slots, List.filterMap_cons, List.filterMap_nil, id, fill, List.foldl_cons, List.foldl_nil, Act.put, List.setIfInBounds_toArray, List.set_cons_succ, List.set_cons_zero]
        go_wp2_with fail
        exact ⟨_, rfl, rfl, hBx, vt_keep (Below.refl _ _)⟩
      case o13 =>
        intro ys wx hBx hdeps
        clear hdeps
        simp only [List.getD_cons_zero, List.getD_cons_succ, slots, List.filterMap_cons, List.filterMap_nil, id, fill, List.foldl_cons, List.foldl_nil, Act.put, List.setIfInBounds_toArray, List.set_cons_succ, List.set_cons_zero]
        go_wp2_with fail
        exact ⟨_, rfl, ⟨_, rfl, hBx.size, _, _, _, _, Var.new wx 27 [.int .u32 0, .int .u32 0, .int .u32 0, .slice none 0 0]⟩, hBx.alloc hBx.size _, vt_keep ((Below.refl _ _).alloc (Nat.le_refl _) _)⟩
      case o14 =>
        intro ys wx hBx hdeps
        simp only [Deps3] at hdeps
        have z13 : ∃ g : Nat, ys 10 = .pointer (some ⟨g, 0, none⟩) ∧ (w3.heap.size ≤ g ∧ ∃ c0 c1 c2 c3, Var wx g 27 [c0, c1, c2, c3]) := by first | exact hdeps.1 rfl | exact hdeps.2.1 rfl | exact hdeps.2.2.1 rfl | exact hdeps.2.2.2.1 rfl
        with_reducible refine Exists.elim z13 ?_
        intro g13 hh
        have y13 := hh.1
        have r13 := hh.2
        clear hh z13
        have z11 : ∃ u : Option Addr × Nat, ys 47 = .agg #[.int .u32 (vl t0), .int .u32 (vl t1), .int .u32 (vl t2), .slice u.1 M9.length u.2] ∧ True := by first | exact hdeps.1 rfl | exact hdeps.2.1 rfl | exact hdeps.2.2.1 rfl | exact hdeps.2.2.2.1 rfl
        with_reducible refine Exists.elim z11 ?_
        intro g11 hh
        have y11 := hh.1
        have r11 := hh.2
        clear hh z11
        clear hdeps
        have r13b := r13.2
        with_reducible refine Exists.elim r13b ?_
        intro c0 h0
        with_reducible refine Exists.elim h0 ?_
        intro c1 h1
        with_reducible refine Exists.elim h1 ?_
        intro c2 h2
        with_reducible refine Exists.elim h2 ?_
        intro c3 h3
        have v13 := h3
        have k0 := v13.cell (j := 0) rfl
        have k1 := v13.cell (j := 1) rfl
        have k2 := v13.cell (j := 2) rfl
        have k3 := v13.cell (j := 3) rfl
        have f0 := v13.frozen 0
        have f1 := v13.frozen 1
        have f2 := v13.frozen 2
        have f3 := v13.frozen 3
        simp only [y13, y11, List.getD_cons_zero, List.getD_cons_succ, slots, List.filterMap_cons, List.filterMap_nil, id, fill, List.foldl_cons, List.foldl_nil, Act.put, List.setIfInBounds_toArray, List.set_cons_succ, List.set_cons_zero]
        go_wp2_with fail
        refine ⟨undef, rfl, trivial, ((((hBx.setCell (p := ⟨g13, 0, none⟩) r13.1 (.int .u32 (vl t0))).setCell (p := ⟨g13, 1, none⟩) r13.1 (.int .u32 (vl t1))).setCell (p := ⟨g13, 2, none⟩) r13.1 (.int .u32 (vl t2))).setCell (p := ⟨g13, 3, none⟩) r13.1 (.slice g11.1 M9.length g11.2)), vt_keeps ?_⟩
        intro x hx hne hkl u hu
        simp only [List.mem_cons, List.not_mem_nil, or_false] at hx
        rcases hx with rfl | rfl | rfl | rfl | rfl | rfl | rfl
        · exact (row_set (row_set (row_set (row_set hu v13 0 (.int .u32 (vl t0))) (v13.set 0 (.int .u32 (vl t0))) 1 (.int .u32 (vl t1))) ((v13.set 0 (.int .u32 (vl t0))).set 1 (.int .u32 (vl t1))) 2 (.int .u32 (vl t2))) (((v13.set 0 (.int .u32 (vl t0))).set 1 (.int .u32 (vl t1))).set 2 (.int .u32 (vl t2))) 3 (.slice g11.1 M9.length g11.2))
        · obtain ⟨p, e, h⟩ := hu; exact ⟨p, e, (row_set (row_set (row_set (row_set h v13 0 (.int .u32 (vl t0))) (v13.set 0 (.int .u32 (vl t0))) 1 (.int .u32 (vl t1))) ((v13.set 0 (.int .u32 (vl t0))).set 1 (.int .u32 (vl t1))) 2 (.int .u32 (vl t2))) (((v13.set 0 (.int .u32 (vl t0))).set 1 (.int .u32 (vl t1))).set 2 (.int .u32 (vl t2))) 3 (.slice g11.1 M9.length g11.2))⟩
        · exact hu
        · exact hu
        · exact hu
        · exact (var_set4 (var_set4 (var_set4 (var_set4 hu v13 0 (.int .u32 (vl t0))) (v13.set 0 (.int .u32 (vl t0))) 1 (.int .u32 (vl t1))) ((v13.set 0 (.int .u32 (vl t0))).set 1 (.int .u32 (vl t1))) 2 (.int .u32 (vl t2))) (((v13.set 0 (.int .u32 (vl t0))).set 1 (.int .u32 (vl t1))).set 2 (.int .u32 (vl t2))) 3 (.slice g11.1 M9.length g11.2))
        · trivial
      case o15 =>
        intro ys wx hBx hdeps
        simp only [Deps3] at hdeps
        have y12 : ys 48 = .int .i64 3 := by first | exact hdeps.1 rfl | exact hdeps.2.1 rfl | exact hdeps.2.2.1 rfl
        clear hdeps
        simp only [y12, List.getD_cons_zero, List.getD_cons_succ, slots, List.filterMap_cons, List.filterMap_nil, id, fill, List.foldl_cons, List.foldl_nil, Act.put, List.setIfInBounds_toArray, List.set_cons_succ, List.set_cons_zero]
        go_wp2_with fail
        exact ⟨_, rfl, rfl, hBx, vt_keep (Below.refl _ _)⟩
    case done =>
      intro ys w8 hBx hV
      have h11 : ys 11 = .int .i64 3 := hV 15 (by decide) (by decide)
      have bw8 := Lib.hid (bel2 bw3.out hBx)
      clear hBx hV
      simp only [h11, slots, List.filterMap_cons, List.filterMap_nil, id, fill, List.drop_succ_cons, List.drop_zero, List.foldl_cons, List.foldl_nil, Act.put, List.setIfInBounds_toArray, List.set_cons_succ, List.set_cons_zero]
      have q2 : ((PL.length : Int) == 2) = true := by rw [e2.out]; rfl
      go_wp2
      go_ret
      exact ⟨rfl, bw8.out⟩
theorem lacks_any (g : Gm) (x : Gp) (a : Option Addr) (cap : Nat) (at_ : Int) (hl : x.wr.length ≤ maxLen) (w : World) (hT : Tb w) (hr : WAt w a x.wr) :
    Calls Tryd.prog 8 #[gV g, gpV x (.slice a x.wr.length cap), .int .i64 at_] w fun e w' => e = .returned (.bool true) ∧ Below w.heap.size w w' := by
  have HSH := fun w hr => shaped_mine (shaped_any x a cap hl w hr)
  have hl2 := shaped_few x
  have hk2 := shaped_key x
  have HC := fun (g : Gm) (x : Gp) h1 h2 w a c hT hr => cut_mine (cut_any g x a c h1 h2 w hT hr)
  have HC := HC (smallG g) (shapedG x) (by omega) hk2
  have HGE := fun w => Geom.geom_any g w
  have HA := fun w hT => alive_any w hT
  have HSM := small_small g
  have HSG := fun w a b c d ha hb => sameG_any (shapedG x) a b c d (by omega) w ha hb
  have HRB := fun w a c hr => Batch.refBytes_any a (shapedG x).wr c (by unfold maxLen; omega) hk2 w hr
  have HN := fun (n : Int) w => Geom.need_any (smallG g) n w
  have HM := fun w => Geom.most_any (smallG g) w
  have HRO := fun w => Geom.room_any (smallG g) w
  rw [right_small.2 HSM] at HM HRO
  simp only [right_small.2 HSM, if_true] at HN HM HRO
  by_cases hc : (cutG (smallG g) (shapedG x)).2 = 0
  · generalize smallG g = h at *
    generalize shapedG x = y at *
    obtain ⟨b, hb, he⟩ := cut_ok (g := h) (x := y) (l := (cutG h y).1) (by rw [← hc])
    rw [hc] at HC
    have hz := hb.sizes
    have hfew : (cutG h y).1.length ≤ 1000 := by rw [he]; exact frames_few hb
    have hbod : ∀ f ∈ (cutG h y).1, f.body.length ≤ 1048576 := by rw [he]; exact small_body hb
    have hpl : (cutG h y).1.length = partsN (roomN h) b.length + 1 := by rw [he]; exact framesG_len _ _ _
    obtain ⟨i, hi⟩ : ∃ i : Nat, (i : Int) = at_ % ((cutG h y).1.length : Int) := ⟨(at_ % ((cutG h y).1.length : Int)).toNat, by have := Int.emod_nonneg at_ (show ((cutG h y).1.length : Int) ≠ 0 by omega); omega⟩
    have hil : i < (cutG h y).1.length := by have := Int.emod_lt_of_pos at_ (show 0 < ((cutG h y).1.length : Int) by omega); omega
    have HPK := fun w => Book.pick_any at_ (cutG h y).1.length (by omega) (by omega) w
    rw [← hi] at HPK
    obtain ⟨LK, hLK⟩ : ∃ LK, LK = (cutG h y).1.take i ++ (cutG h y).1.drop (i + 1) := ⟨_, rfl⟩
    have hKl : LK.length + 1 = (cutG h y).1.length := by rw [hLK, List.length_append, List.length_take, List.length_drop]; omega
    have hKb : ∀ f ∈ LK, f.body.length ≤ 1048576 := fun f hf => by
      rw [hLK] at hf
      rcases List.mem_append.1 hf with hf | hf
      · exact hbod f (List.mem_of_mem_take hf)
      · exact hbod f (List.mem_of_mem_drop hf)
    have HJ := fun w base a c hT (hr : FMine w base (.slice a LK.length c) LK) => join_mine (join_any a LK c (by omega) hKb (fm_cap hr) w hT (fat_mine hr))
    have hjl := join_lacks hb (i := i) (by omega)
    rw [← he, ← hLK] at hjl
    generalize joinG LK = J at *
    obtain ⟨⟨t0, t1, t2, M9⟩, c9⟩ := J
    simp only at hjl
    rcases hjl with rfl | ⟨rfl, h2⟩
    · exact lacks_2 g.page g.pages g.regions h.page h.pages h.regions x.seq x.prev x.frm a x.wr.length cap x.wr y.seq y.prev y.frm y.wr (cutG h y).1 at_ i hil (by omega) hfew LK hLK hKl t0 t1 t2 M9 HGE HSH HC HA HPK HJ w hT hr
    · exact lacks_3 g.page g.pages g.regions h.page h.pages h.regions x.seq x.prev x.frm a x.wr.length cap x.wr y.seq y.prev y.frm y.wr (cutG h y).1 at_ i hil (by omega) hfew LK hLK hKl t0 t1 t2 M9 h2 HGE HSH HC HA HPK HJ w hT hr
  · generalize smallG g = h at *
    generalize shapedG x = y at *
    have q0 : (((cutG h y).2 : Int) == 0) = false := by rw [beq_eq_false_iff_ne]; omega
    exact lacks_f g.page g.pages g.regions h.page h.pages h.regions x.seq x.prev x.frm a x.wr.length cap x.wr y.seq y.prev y.frm y.wr (cutG h y).1 (cutG h y).2 q0 (by rw [bne, q0]; rfl) at_ HGE HSH HC HA w hT hr
end Go.Proofs.YtligapgjdpdihaaDoor.Group
