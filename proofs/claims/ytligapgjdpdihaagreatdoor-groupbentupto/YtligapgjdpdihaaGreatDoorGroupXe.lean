/-
  What package group's Cut answers.
-/
import Derived.Test.YtligapgjdpdihaaGreatDoorGroupXb
import Derived.Test.YtligapgjdpdihaaGreatDoorRunGroupM
import Derived.Test.YtligapgjdpdihaaGreatDoorRunGeomA
import Derived.Test.YtligapgjdpdihaaGreatDoorRunBatchXb
set_option linter.unusedVariables false
set_option linter.unusedSimpArgs false
namespace Go.Proofs.YtligapgjdpdihaaGreatDoor.Group
open Go.RowKit
open CrcM (W)
open Crc (le4 sumOf vl wd putS)
open Flash (bs bs_size bs_list list_bs cut)
open Go.Proofs.YtligapgjdpdihaaGreatDoor.Frame (Fr zeroF fV fC bel2 below_drewN)
open Piece (pieceR isSeqB ofF ofF_ok ofF_not pcOf pcV Pc of_any asPart_any asSeal_any asPartV asSealV isPartP isSealP sealV partV)
open Tup Bytes Own
open Piece (frame_any frameP frameP_ok frameP_not pcFrame four)
open Geom (Gm gV rightG mostG needG Small right_small roomG)
open Batch (Wr WAt WMine Tb bytesW layB rightW)
open Go.Proofs.YtligapgjdpdihaaGreatDoor.Region (fill Then Deps Each wp_region_is wp_region_is_tail wp_region_each wp_region_tail)
set_option maxRecDepth 100000 in
set_option maxHeartbeats 8000000 in
theorem cut_1 (gp gs gr : Int) (sq pv fr : W) (a : Option Addr) (n cap : Nat) (L : List Wr) (B : ByteArray) 
    (HR : Hid (∀ w, Calls Tryz.prog 32 #[.agg #[.int .i64 gp, .int .i64 gs, .int .i64 gr]] w fun e w' => e = .returned (.bool false) ∧ Below w.heap.size w w')) (w : World) (HT : Hid (Tb w)) (HRW : Hid (WAt w a L)) :
    Calls Tryz.prog 13 #[.agg #[.int .i64 gp, .int .i64 gs, .int .i64 gr], .agg #[.int .u32 (vl sq), .int .u32 (vl pv), .int .u32 (vl fr), .slice a n cap]] w (CutSays ([], 1) w) := by
  go_enter Tryz.func13, Tryz.ntmps13
  go_wp2_with (first
    | (go_at_call 32; ((with_reducible refine (HR.out _).mono ?_); rintro e w2 ⟨rfl, bz⟩; obtain ⟨w1, hw1⟩ : ∃ wx, wx = ((w.alloc (.cells #[.int .i64 gp, .int .i64 gs, .int .i64 gr] 23)).alloc (.cells #[.int .u32 (vl sq), .int .u32 (vl pv), .int .u32 (vl fr), .slice a n cap] 27)) := ⟨_, rfl⟩; have bw1 := Lib.hid (show Below w.heap.size w w1 by rw [hw1]; exact (bel2 (Geom.bel_alloc _ _) (Geom.bel_alloc _ _))); have zw1 := Lib.hid (show w.heap.size + 2 ≤ w1.heap.size by rw [hw1]; simp); have vw1g := Lib.hid (show Var w1 (w.heap.size) 23 [.int .i64 gp, .int .i64 gs, .int .i64 gr] by rw [hw1]; exact ((Var.new w 23 [.int .i64 gp, .int .i64 gs, .int .i64 gr]).alloc _)); have vw1x := Lib.hid (show Var w1 (w.heap.size + 1) 27 [.int .u32 (vl sq), .int .u32 (vl pv), .int .u32 (vl fr), .slice a n cap] by rw [hw1]; exact (show Var ((w.alloc (.cells #[.int .i64 gp, .int .i64 gs, .int .i64 gr] 23)).alloc (.cells #[.int .u32 (vl sq), .int .u32 (vl pv), .int .u32 (vl fr), .slice a n cap] 27)) (w.heap.size + 1) 27 [.int .u32 (vl sq), .int .u32 (vl pv), .int .u32 (vl fr), .slice a n cap] from by have h := Var.new (w.alloc (.cells #[.int .i64 gp, .int .i64 gs, .int .i64 gr] 23)) 27 [.int .u32 (vl sq), .int .u32 (vl pv), .int .u32 (vl fr), .slice a n cap]; rw [show (w.alloc (.cells #[.int .i64 gp, .int .i64 gs, .int .i64 gr] 23)).heap.size = w.heap.size + 1 by simp] at h; exact h)); have hbel : Below w1.heap.size w1 w2 := (by rw [hw1]; exact bz); clear bz; have bw2 := Lib.hid (bel2 bw1.out hbel); have zw2 := Lib.hid hbel.size; have vw2g := Lib.hid (vw1g.out.below hbel vw1g.out.lt); have vw2x := Lib.hid (vw1x.out.below hbel vw1x.out.lt); clear hbel; have vf1 := (show Var w2 (w.heap.size) 23 [.int .i64 gp, .int .i64 gs, .int .i64 gr] from vw2g.out); have c2 := vf1.cell (j := 0) rfl; have c3 := vf1.cell (j := 1) rfl; have c4 := vf1.cell (j := 2) rfl; clear vf1; have vf5 := (show Var w2 (w.heap.size + 1) 27 [.int .u32 (vl sq), .int .u32 (vl pv), .int .u32 (vl fr), .slice a n cap] from vw2x.out); have c6 := vf5.cell (j := 0) rfl; have c7 := vf5.cell (j := 1) rfl; have c8 := vf5.cell (j := 2) rfl; have c9 := vf5.cell (j := 3) rfl; clear vf5)))
  go_ret2
  exact ⟨_, rfl, FMine.nil _ _, bw2.out⟩
set_option maxRecDepth 100000 in
set_option maxHeartbeats 8000000 in
theorem cut_2 (gp gs gr : Int) (sq pv fr : W) (a : Option Addr) (n cap : Nat) (L : List Wr) (B : ByteArray) (c : Nat) (qc : ((c : Int) == 0) = false) (qc2 : ((c : Int) != 0) = true)
    (HR : Hid (∀ w, Calls Tryz.prog 32 #[.agg #[.int .i64 gp, .int .i64 gs, .int .i64 gr]] w fun e w' => e = .returned (.bool true) ∧ Below w.heap.size w w'))
    (HBY : Hid (∀ w, Tb w → WAt w a L → Calls Tryz.prog 33 #[.slice a n cap] w fun e w' => e = .returned (.tuple #[.string B, .int .i64 (c : Int)]) ∧ Below w.heap.size w w')) (w : World) (HT : Hid (Tb w)) (HRW : Hid (WAt w a L)) :
    Calls Tryz.prog 13 #[.agg #[.int .i64 gp, .int .i64 gs, .int .i64 gr], .agg #[.int .u32 (vl sq), .int .u32 (vl pv), .int .u32 (vl fr), .slice a n cap]] w (CutSays ([], c) w) := by
  go_enter Tryz.func13, Tryz.ntmps13
  go_wp2_with (first
    | (go_at_call 32; ((with_reducible refine (HR.out _).mono ?_); rintro e w2 ⟨rfl, bz⟩; obtain ⟨w1, hw1⟩ : ∃ wx, wx = ((w.alloc (.cells #[.int .i64 gp, .int .i64 gs, .int .i64 gr] 23)).alloc (.cells #[.int .u32 (vl sq), .int .u32 (vl pv), .int .u32 (vl fr), .slice a n cap] 27)) := ⟨_, rfl⟩; have bw1 := Lib.hid (show Below w.heap.size w w1 by rw [hw1]; exact (bel2 (Geom.bel_alloc _ _) (Geom.bel_alloc _ _))); have zw1 := Lib.hid (show w.heap.size + 2 ≤ w1.heap.size by rw [hw1]; simp); have vw1g := Lib.hid (show Var w1 (w.heap.size) 23 [.int .i64 gp, .int .i64 gs, .int .i64 gr] by rw [hw1]; exact ((Var.new w 23 [.int .i64 gp, .int .i64 gs, .int .i64 gr]).alloc _)); have vw1x := Lib.hid (show Var w1 (w.heap.size + 1) 27 [.int .u32 (vl sq), .int .u32 (vl pv), .int .u32 (vl fr), .slice a n cap] by rw [hw1]; exact (show Var ((w.alloc (.cells #[.int .i64 gp, .int .i64 gs, .int .i64 gr] 23)).alloc (.cells #[.int .u32 (vl sq), .int .u32 (vl pv), .int .u32 (vl fr), .slice a n cap] 27)) (w.heap.size + 1) 27 [.int .u32 (vl sq), .int .u32 (vl pv), .int .u32 (vl fr), .slice a n cap] from by have h := Var.new (w.alloc (.cells #[.int .i64 gp, .int .i64 gs, .int .i64 gr] 23)) 27 [.int .u32 (vl sq), .int .u32 (vl pv), .int .u32 (vl fr), .slice a n cap]; rw [show (w.alloc (.cells #[.int .i64 gp, .int .i64 gs, .int .i64 gr] 23)).heap.size = w.heap.size + 1 by simp] at h; exact h)); have hbel : Below w1.heap.size w1 w2 := (by rw [hw1]; exact bz); clear bz; have bw2 := Lib.hid (bel2 bw1.out hbel); have zw2 := Lib.hid hbel.size; have vw2g := Lib.hid (vw1g.out.below hbel vw1g.out.lt); have vw2x := Lib.hid (vw1x.out.below hbel vw1x.out.lt); clear hbel; have vf1 := (show Var w2 (w.heap.size) 23 [.int .i64 gp, .int .i64 gs, .int .i64 gr] from vw2g.out); have c2 := vf1.cell (j := 0) rfl; have c3 := vf1.cell (j := 1) rfl; have c4 := vf1.cell (j := 2) rfl; clear vf1; have vf5 := (show Var w2 (w.heap.size + 1) 27 [.int .u32 (vl sq), .int .u32 (vl pv), .int .u32 (vl fr), .slice a n cap] from vw2x.out); have c6 := vf5.cell (j := 0) rfl; have c7 := vf5.cell (j := 1) rfl; have c8 := vf5.cell (j := 2) rfl; have c9 := vf5.cell (j := 3) rfl; clear vf5))
    | (go_at_call 33; ((with_reducible refine (HBY.out _ (Batch.Tb.below HT.out bw2.out) (Batch.WAt.below HRW.out bw2.out)).mono ?_); rintro e w3 ⟨rfl, bz⟩; have hbel : Below w2.heap.size w2 w3 := (by exact bz); clear bz; have bw3 := Lib.hid (bel2 bw2.out hbel); have zw3 := Lib.hid hbel.size; have vw3g := Lib.hid (vw2g.out.below hbel vw2g.out.lt); have vw3x := Lib.hid (vw2x.out.below hbel vw2x.out.lt); clear hbel; clear c2 c3 c4 c6 c7 c8 c9; have vf10 := (show Var w3 (w.heap.size) 23 [.int .i64 gp, .int .i64 gs, .int .i64 gr] from vw3g.out); have c11 := vf10.cell (j := 0) rfl; have c12 := vf10.cell (j := 1) rfl; have c13 := vf10.cell (j := 2) rfl; clear vf10; have vf14 := (show Var w3 (w.heap.size + 1) 27 [.int .u32 (vl sq), .int .u32 (vl pv), .int .u32 (vl fr), .slice a n cap] from vw3x.out); have c15 := vf14.cell (j := 0) rfl; have c16 := vf14.cell (j := 1) rfl; have c17 := vf14.cell (j := 2) rfl; have c18 := vf14.cell (j := 3) rfl; clear vf14)))
  go_ret2
  exact ⟨_, rfl, FMine.nil _ _, bw3.out⟩
set_option maxRecDepth 100000 in
set_option maxHeartbeats 8000000 in
theorem cut_3 (gp gs gr : Int) (sq pv fr : W) (a : Option Addr) (n cap : Nat) (L : List Wr) (B : ByteArray) (nd : Int) (hnd : 1 ≤ nd) (hnd2 : nd ≤ 2000000) (hBm : B.size ≤ 1000000) (s0 s1 s2 s3 s4 s5 : Int) (fk fa fb : Int) (FB : ByteArray)
    (HR : Hid (∀ w, Calls Tryz.prog 32 #[.agg #[.int .i64 gp, .int .i64 gs, .int .i64 gr]] w fun e w' => e = .returned (.bool true) ∧ Below w.heap.size w w'))
    (HBY : Hid (∀ w, Tb w → WAt w a L → Calls Tryz.prog 33 #[.slice a n cap] w fun e w' => e = .returned (.tuple #[.string B, .int .i64 0]) ∧ Below w.heap.size w w'))
    (HN : Hid (∀ w, Calls Tryz.prog 34 #[.agg #[.int .i64 gp, .int .i64 gs, .int .i64 gr], .int .i64 (B.size : Int)] w fun e w' => e = .returned (.int .i64 nd) ∧ Below w.heap.size w w'))
    (HSL : Hid (∀ w, Calls Tryz.prog 36 #[.agg #[.int .u32 (vl sq), .int .u32 (vl pv), .int .u32 (vl fr), .slice a n cap], .int .i64 (nd - 1), .string B] w fun e w' => e = .returned (.agg #[.int .u32 s0, .int .u32 s1, .int .u32 s2, .int .u32 s3, .int .u32 s4, .int .u32 s5]) ∧ Below w.heap.size w w'))
    (HF : Hid (∀ w, Calls Tryz.prog 35 #[.iface 46 (.agg #[.int .u32 s0, .int .u32 s1, .int .u32 s2, .int .u32 s3, .int .u32 s4, .int .u32 s5])] w fun e w' => e = .returned (.tuple #[.agg #[.int .i64 fk, .int .u32 fa, .int .u32 fb, .string FB], .int .i64 2]) ∧ Below w.heap.size w w')) (w : World) (HT : Hid (Tb w)) (HRW : Hid (WAt w a L)) :
    Calls Tryz.prog 13 #[.agg #[.int .i64 gp, .int .i64 gs, .int .i64 gr], .agg #[.int .u32 (vl sq), .int .u32 (vl pv), .int .u32 (vl fr), .slice a n cap]] w (CutSays ([], 2) w) := by
  go_enter Tryz.func13, Tryz.ntmps13
  go_wp2_with (first
    | (go_at_call 32; ((with_reducible refine (HR.out _).mono ?_); rintro e w2 ⟨rfl, bz⟩; obtain ⟨w1, hw1⟩ : ∃ wx, wx = ((w.alloc (.cells #[.int .i64 gp, .int .i64 gs, .int .i64 gr] 23)).alloc (.cells #[.int .u32 (vl sq), .int .u32 (vl pv), .int .u32 (vl fr), .slice a n cap] 27)) := ⟨_, rfl⟩; have bw1 := Lib.hid (show Below w.heap.size w w1 by rw [hw1]; exact (bel2 (Geom.bel_alloc _ _) (Geom.bel_alloc _ _))); have zw1 := Lib.hid (show w.heap.size + 2 ≤ w1.heap.size by rw [hw1]; simp); have vw1g := Lib.hid (show Var w1 (w.heap.size) 23 [.int .i64 gp, .int .i64 gs, .int .i64 gr] by rw [hw1]; exact ((Var.new w 23 [.int .i64 gp, .int .i64 gs, .int .i64 gr]).alloc _)); have vw1x := Lib.hid (show Var w1 (w.heap.size + 1) 27 [.int .u32 (vl sq), .int .u32 (vl pv), .int .u32 (vl fr), .slice a n cap] by rw [hw1]; exact (show Var ((w.alloc (.cells #[.int .i64 gp, .int .i64 gs, .int .i64 gr] 23)).alloc (.cells #[.int .u32 (vl sq), .int .u32 (vl pv), .int .u32 (vl fr), .slice a n cap] 27)) (w.heap.size + 1) 27 [.int .u32 (vl sq), .int .u32 (vl pv), .int .u32 (vl fr), .slice a n cap] from by have h := Var.new (w.alloc (.cells #[.int .i64 gp, .int .i64 gs, .int .i64 gr] 23)) 27 [.int .u32 (vl sq), .int .u32 (vl pv), .int .u32 (vl fr), .slice a n cap]; rw [show (w.alloc (.cells #[.int .i64 gp, .int .i64 gs, .int .i64 gr] 23)).heap.size = w.heap.size + 1 by simp] at h; exact h)); have hbel : Below w1.heap.size w1 w2 := (by rw [hw1]; exact bz); clear bz; have bw2 := Lib.hid (bel2 bw1.out hbel); have zw2 := Lib.hid hbel.size; have vw2g := Lib.hid (vw1g.out.below hbel vw1g.out.lt); have vw2x := Lib.hid (vw1x.out.below hbel vw1x.out.lt); clear hbel; have vf1 := (show Var w2 (w.heap.size) 23 [.int .i64 gp, .int .i64 gs, .int .i64 gr] from vw2g.out); have c2 := vf1.cell (j := 0) rfl; have c3 := vf1.cell (j := 1) rfl; have c4 := vf1.cell (j := 2) rfl; clear vf1; have vf5 := (show Var w2 (w.heap.size + 1) 27 [.int .u32 (vl sq), .int .u32 (vl pv), .int .u32 (vl fr), .slice a n cap] from vw2x.out); have c6 := vf5.cell (j := 0) rfl; have c7 := vf5.cell (j := 1) rfl; have c8 := vf5.cell (j := 2) rfl; have c9 := vf5.cell (j := 3) rfl; clear vf5))
    | (go_at_call 33; ((with_reducible refine (HBY.out _ (Batch.Tb.below HT.out bw2.out) (Batch.WAt.below HRW.out bw2.out)).mono ?_); rintro e w3 ⟨rfl, bz⟩; have hbel : Below w2.heap.size w2 w3 := (by exact bz); clear bz; have bw3 := Lib.hid (bel2 bw2.out hbel); have zw3 := Lib.hid hbel.size; have vw3g := Lib.hid (vw2g.out.below hbel vw2g.out.lt); have vw3x := Lib.hid (vw2x.out.below hbel vw2x.out.lt); clear hbel; clear c2 c3 c4 c6 c7 c8 c9; have vf10 := (show Var w3 (w.heap.size) 23 [.int .i64 gp, .int .i64 gs, .int .i64 gr] from vw3g.out); have c11 := vf10.cell (j := 0) rfl; have c12 := vf10.cell (j := 1) rfl; have c13 := vf10.cell (j := 2) rfl; clear vf10; have vf14 := (show Var w3 (w.heap.size + 1) 27 [.int .u32 (vl sq), .int .u32 (vl pv), .int .u32 (vl fr), .slice a n cap] from vw3x.out); have c15 := vf14.cell (j := 0) rfl; have c16 := vf14.cell (j := 1) rfl; have c17 := vf14.cell (j := 2) rfl; have c18 := vf14.cell (j := 3) rfl; clear vf14))
    | (go_at_call 34; ((with_reducible refine (HN.out _).mono ?_); rintro e w4 ⟨rfl, bz⟩; have hbel : Below w3.heap.size w3 w4 := (by exact bz); clear bz; have bw4 := Lib.hid (bel2 bw3.out hbel); have zw4 := Lib.hid hbel.size; have vw4g := Lib.hid (vw3g.out.below hbel vw3g.out.lt); have vw4x := Lib.hid (vw3x.out.below hbel vw3x.out.lt); clear hbel; clear c11 c12 c13 c15 c16 c17 c18; have vf19 := (show Var w4 (w.heap.size) 23 [.int .i64 gp, .int .i64 gs, .int .i64 gr] from vw4g.out); have c20 := vf19.cell (j := 0) rfl; have c21 := vf19.cell (j := 1) rfl; have c22 := vf19.cell (j := 2) rfl; clear vf19; have vf23 := (show Var w4 (w.heap.size + 1) 27 [.int .u32 (vl sq), .int .u32 (vl pv), .int .u32 (vl fr), .slice a n cap] from vw4x.out); have c24 := vf23.cell (j := 0) rfl; have c25 := vf23.cell (j := 1) rfl; have c26 := vf23.cell (j := 2) rfl; have c27 := vf23.cell (j := 3) rfl; clear vf23))
    | (go_at_call 36; ((with_reducible refine (HSL.out _).mono ?_); rintro e w5 ⟨rfl, bz⟩; have hbel : Below w4.heap.size w4 w5 := (by exact bz); clear bz; have bw5 := Lib.hid (bel2 bw4.out hbel); have zw5 := Lib.hid hbel.size; have vw5g := Lib.hid (vw4g.out.below hbel vw4g.out.lt); have vw5x := Lib.hid (vw4x.out.below hbel vw4x.out.lt); clear hbel; clear c20 c21 c22 c24 c25 c26 c27))
    | (go_at_call 35; ((with_reducible refine (HF.out _).mono ?_); rintro e w6 ⟨rfl, bz⟩; have hbel : Below w5.heap.size w5 w6 := (by exact bz); clear bz; have bw6 := Lib.hid (bel2 bw5.out hbel); have zw6 := Lib.hid hbel.size; have vw6g := Lib.hid (vw5g.out.below hbel vw5g.out.lt); have vw6x := Lib.hid (vw5x.out.below hbel vw5x.out.lt); clear hbel; have vf28 := (show Var (w6.alloc (.cells #[.int .i64 fk, .int .u32 fa, .int .u32 fb, .string FB] 29)) (w.heap.size) 23 [.int .i64 gp, .int .i64 gs, .int .i64 gr] from (vw6g.out.alloc _)); have c29 := vf28.cell (j := 0) rfl; have c30 := vf28.cell (j := 1) rfl; have c31 := vf28.cell (j := 2) rfl; clear vf28; have vf32 := (show Var (w6.alloc (.cells #[.int .i64 fk, .int .u32 fa, .int .u32 fb, .string FB] 29)) (w.heap.size + 1) 27 [.int .u32 (vl sq), .int .u32 (vl pv), .int .u32 (vl fr), .slice a n cap] from (vw6x.out.alloc _)); have c33 := vf32.cell (j := 0) rfl; have c34 := vf32.cell (j := 1) rfl; have c35 := vf32.cell (j := 2) rfl; have c36 := vf32.cell (j := 3) rfl; clear vf32; have vf37 := (show Var (w6.alloc (.cells #[.int .i64 fk, .int .u32 fa, .int .u32 fb, .string FB] 29)) (w6.heap.size) 29 [.int .i64 fk, .int .u32 fa, .int .u32 fb, .string FB] from (Var.new w6 29 [.int .i64 fk, .int .u32 fa, .int .u32 fb, .string FB])); have c38 := vf37.cell (j := 0) rfl; have c39 := vf37.cell (j := 1) rfl; have c40 := vf37.cell (j := 2) rfl; have c41 := vf37.cell (j := 3) rfl; clear vf37)))
  go_ret2
  exact ⟨_, rfl, FMine.nil _ _, (bel2 bw6.out (Geom.bel_alloc _ _))⟩
set_option maxRecDepth 100000 in
set_option maxHeartbeats 8000000 in
theorem cut_4 (gp gs gr : Int) (sq pv fr : W) (a : Option Addr) (n cap : Nat) (L : List Wr) (B : ByteArray) (nd : Int) (hnd : 1 ≤ nd) (hnd2 : nd ≤ 2000000) (hBm : B.size ≤ 1000000) (s0 s1 s2 s3 s4 s5 : Int) (fk fa fb : Int) (FB : ByteArray) (mo : Int) (qm : decide (mo < nd) = true)
    (HR : Hid (∀ w, Calls Tryz.prog 32 #[.agg #[.int .i64 gp, .int .i64 gs, .int .i64 gr]] w fun e w' => e = .returned (.bool true) ∧ Below w.heap.size w w'))
    (HBY : Hid (∀ w, Tb w → WAt w a L → Calls Tryz.prog 33 #[.slice a n cap] w fun e w' => e = .returned (.tuple #[.string B, .int .i64 0]) ∧ Below w.heap.size w w'))
    (HN : Hid (∀ w, Calls Tryz.prog 34 #[.agg #[.int .i64 gp, .int .i64 gs, .int .i64 gr], .int .i64 (B.size : Int)] w fun e w' => e = .returned (.int .i64 nd) ∧ Below w.heap.size w w'))
    (HSL : Hid (∀ w, Calls Tryz.prog 36 #[.agg #[.int .u32 (vl sq), .int .u32 (vl pv), .int .u32 (vl fr), .slice a n cap], .int .i64 (nd - 1), .string B] w fun e w' => e = .returned (.agg #[.int .u32 s0, .int .u32 s1, .int .u32 s2, .int .u32 s3, .int .u32 s4, .int .u32 s5]) ∧ Below w.heap.size w w'))
    (HF : Hid (∀ w, Calls Tryz.prog 35 #[.iface 46 (.agg #[.int .u32 s0, .int .u32 s1, .int .u32 s2, .int .u32 s3, .int .u32 s4, .int .u32 s5])] w fun e w' => e = .returned (.tuple #[.agg #[.int .i64 fk, .int .u32 fa, .int .u32 fb, .string FB], .int .i64 0]) ∧ Below w.heap.size w w'))
    (HM : Hid (∀ w, Calls Tryz.prog 37 #[.agg #[.int .i64 gp, .int .i64 gs, .int .i64 gr]] w fun e w' => e = .returned (.int .i64 mo) ∧ Below w.heap.size w w')) (w : World) (HT : Hid (Tb w)) (HRW : Hid (WAt w a L)) :
    Calls Tryz.prog 13 #[.agg #[.int .i64 gp, .int .i64 gs, .int .i64 gr], .agg #[.int .u32 (vl sq), .int .u32 (vl pv), .int .u32 (vl fr), .slice a n cap]] w (CutSays ([], 14) w) := by
  go_enter Tryz.func13, Tryz.ntmps13
  go_wp2_with (first
    | (go_at_call 32; ((with_reducible refine (HR.out _).mono ?_); rintro e w2 ⟨rfl, bz⟩; obtain ⟨w1, hw1⟩ : ∃ wx, wx = ((w.alloc (.cells #[.int .i64 gp, .int .i64 gs, .int .i64 gr] 23)).alloc (.cells #[.int .u32 (vl sq), .int .u32 (vl pv), .int .u32 (vl fr), .slice a n cap] 27)) := ⟨_, rfl⟩; have bw1 := Lib.hid (show Below w.heap.size w w1 by rw [hw1]; exact (bel2 (Geom.bel_alloc _ _) (Geom.bel_alloc _ _))); have zw1 := Lib.hid (show w.heap.size + 2 ≤ w1.heap.size by rw [hw1]; simp); have vw1g := Lib.hid (show Var w1 (w.heap.size) 23 [.int .i64 gp, .int .i64 gs, .int .i64 gr] by rw [hw1]; exact ((Var.new w 23 [.int .i64 gp, .int .i64 gs, .int .i64 gr]).alloc _)); have vw1x := Lib.hid (show Var w1 (w.heap.size + 1) 27 [.int .u32 (vl sq), .int .u32 (vl pv), .int .u32 (vl fr), .slice a n cap] by rw [hw1]; exact (show Var ((w.alloc (.cells #[.int .i64 gp, .int .i64 gs, .int .i64 gr] 23)).alloc (.cells #[.int .u32 (vl sq), .int .u32 (vl pv), .int .u32 (vl fr), .slice a n cap] 27)) (w.heap.size + 1) 27 [.int .u32 (vl sq), .int .u32 (vl pv), .int .u32 (vl fr), .slice a n cap] from by have h := Var.new (w.alloc (.cells #[.int .i64 gp, .int .i64 gs, .int .i64 gr] 23)) 27 [.int .u32 (vl sq), .int .u32 (vl pv), .int .u32 (vl fr), .slice a n cap]; rw [show (w.alloc (.cells #[.int .i64 gp, .int .i64 gs, .int .i64 gr] 23)).heap.size = w.heap.size + 1 by simp] at h; exact h)); have hbel : Below w1.heap.size w1 w2 := (by rw [hw1]; exact bz); clear bz; have bw2 := Lib.hid (bel2 bw1.out hbel); have zw2 := Lib.hid hbel.size; have vw2g := Lib.hid (vw1g.out.below hbel vw1g.out.lt); have vw2x := Lib.hid (vw1x.out.below hbel vw1x.out.lt); clear hbel; have vf1 := (show Var w2 (w.heap.size) 23 [.int .i64 gp, .int .i64 gs, .int .i64 gr] from vw2g.out); have c2 := vf1.cell (j := 0) rfl; have c3 := vf1.cell (j := 1) rfl; have c4 := vf1.cell (j := 2) rfl; clear vf1; have vf5 := (show Var w2 (w.heap.size + 1) 27 [.int .u32 (vl sq), .int .u32 (vl pv), .int .u32 (vl fr), .slice a n cap] from vw2x.out); have c6 := vf5.cell (j := 0) rfl; have c7 := vf5.cell (j := 1) rfl; have c8 := vf5.cell (j := 2) rfl; have c9 := vf5.cell (j := 3) rfl; clear vf5))
    | (go_at_call 33; ((with_reducible refine (HBY.out _ (Batch.Tb.below HT.out bw2.out) (Batch.WAt.below HRW.out bw2.out)).mono ?_); rintro e w3 ⟨rfl, bz⟩; have hbel : Below w2.heap.size w2 w3 := (by exact bz); clear bz; have bw3 := Lib.hid (bel2 bw2.out hbel); have zw3 := Lib.hid hbel.size; have vw3g := Lib.hid (vw2g.out.below hbel vw2g.out.lt); have vw3x := Lib.hid (vw2x.out.below hbel vw2x.out.lt); clear hbel; clear c2 c3 c4 c6 c7 c8 c9; have vf10 := (show Var w3 (w.heap.size) 23 [.int .i64 gp, .int .i64 gs, .int .i64 gr] from vw3g.out); have c11 := vf10.cell (j := 0) rfl; have c12 := vf10.cell (j := 1) rfl; have c13 := vf10.cell (j := 2) rfl; clear vf10; have vf14 := (show Var w3 (w.heap.size + 1) 27 [.int .u32 (vl sq), .int .u32 (vl pv), .int .u32 (vl fr), .slice a n cap] from vw3x.out); have c15 := vf14.cell (j := 0) rfl; have c16 := vf14.cell (j := 1) rfl; have c17 := vf14.cell (j := 2) rfl; have c18 := vf14.cell (j := 3) rfl; clear vf14))
    | (go_at_call 34; ((with_reducible refine (HN.out _).mono ?_); rintro e w4 ⟨rfl, bz⟩; have hbel : Below w3.heap.size w3 w4 := (by exact bz); clear bz; have bw4 := Lib.hid (bel2 bw3.out hbel); have zw4 := Lib.hid hbel.size; have vw4g := Lib.hid (vw3g.out.below hbel vw3g.out.lt); have vw4x := Lib.hid (vw3x.out.below hbel vw3x.out.lt); clear hbel; clear c11 c12 c13 c15 c16 c17 c18; have vf19 := (show Var w4 (w.heap.size) 23 [.int .i64 gp, .int .i64 gs, .int .i64 gr] from vw4g.out); have c20 := vf19.cell (j := 0) rfl; have c21 := vf19.cell (j := 1) rfl; have c22 := vf19.cell (j := 2) rfl; clear vf19; have vf23 := (show Var w4 (w.heap.size + 1) 27 [.int .u32 (vl sq), .int .u32 (vl pv), .int .u32 (vl fr), .slice a n cap] from vw4x.out); have c24 := vf23.cell (j := 0) rfl; have c25 := vf23.cell (j := 1) rfl; have c26 := vf23.cell (j := 2) rfl; have c27 := vf23.cell (j := 3) rfl; clear vf23))
    | (go_at_call 36; ((with_reducible refine (HSL.out _).mono ?_); rintro e w5 ⟨rfl, bz⟩; have hbel : Below w4.heap.size w4 w5 := (by exact bz); clear bz; have bw5 := Lib.hid (bel2 bw4.out hbel); have zw5 := Lib.hid hbel.size; have vw5g := Lib.hid (vw4g.out.below hbel vw4g.out.lt); have vw5x := Lib.hid (vw4x.out.below hbel vw4x.out.lt); clear hbel; clear c20 c21 c22 c24 c25 c26 c27))
    | (go_at_call 35; ((with_reducible refine (HF.out _).mono ?_); rintro e w6 ⟨rfl, bz⟩; have hbel : Below w5.heap.size w5 w6 := (by exact bz); clear bz; have bw6 := Lib.hid (bel2 bw5.out hbel); have zw6 := Lib.hid hbel.size; have vw6g := Lib.hid (vw5g.out.below hbel vw5g.out.lt); have vw6x := Lib.hid (vw5x.out.below hbel vw5x.out.lt); clear hbel; have vf28 := (show Var (w6.alloc (.cells #[.int .i64 fk, .int .u32 fa, .int .u32 fb, .string FB] 29)) (w.heap.size) 23 [.int .i64 gp, .int .i64 gs, .int .i64 gr] from (vw6g.out.alloc _)); have c29 := vf28.cell (j := 0) rfl; have c30 := vf28.cell (j := 1) rfl; have c31 := vf28.cell (j := 2) rfl; clear vf28; have vf32 := (show Var (w6.alloc (.cells #[.int .i64 fk, .int .u32 fa, .int .u32 fb, .string FB] 29)) (w.heap.size + 1) 27 [.int .u32 (vl sq), .int .u32 (vl pv), .int .u32 (vl fr), .slice a n cap] from (vw6x.out.alloc _)); have c33 := vf32.cell (j := 0) rfl; have c34 := vf32.cell (j := 1) rfl; have c35 := vf32.cell (j := 2) rfl; have c36 := vf32.cell (j := 3) rfl; clear vf32; have vf37 := (show Var (w6.alloc (.cells #[.int .i64 fk, .int .u32 fa, .int .u32 fb, .string FB] 29)) (w6.heap.size) 29 [.int .i64 fk, .int .u32 fa, .int .u32 fb, .string FB] from (Var.new w6 29 [.int .i64 fk, .int .u32 fa, .int .u32 fb, .string FB])); have c38 := vf37.cell (j := 0) rfl; have c39 := vf37.cell (j := 1) rfl; have c40 := vf37.cell (j := 2) rfl; have c41 := vf37.cell (j := 3) rfl; clear vf37))
    | (go_at_call 37; ((with_reducible refine (HM.out _).mono ?_); rintro e w8 ⟨rfl, bz⟩; obtain ⟨w7, hw7⟩ : ∃ wx, wx = (w6.alloc (.cells #[.int .i64 fk, .int .u32 fa, .int .u32 fb, .string FB] 29)) := ⟨_, rfl⟩; have bw7 := Lib.hid (show Below w.heap.size w w7 by rw [hw7]; exact (bel2 bw6.out (Geom.bel_alloc _ _))); have zw7 := Lib.hid (show w6.heap.size + 1 ≤ w7.heap.size by rw [hw7]; simp); have vw7g := Lib.hid (show Var w7 (w.heap.size) 23 [.int .i64 gp, .int .i64 gs, .int .i64 gr] by rw [hw7]; exact (vw6g.out.alloc _)); have vw7x := Lib.hid (show Var w7 (w.heap.size + 1) 27 [.int .u32 (vl sq), .int .u32 (vl pv), .int .u32 (vl fr), .slice a n cap] by rw [hw7]; exact (vw6x.out.alloc _)); have vw7f := Lib.hid (show Var w7 (w6.heap.size) 29 [.int .i64 fk, .int .u32 fa, .int .u32 fb, .string FB] by rw [hw7]; exact (Var.new w6 29 [.int .i64 fk, .int .u32 fa, .int .u32 fb, .string FB])); have hbel : Below w7.heap.size w7 w8 := (by rw [hw7]; exact bz); clear bz; have bw8 := Lib.hid (bel2 bw7.out hbel); have zw8 := Lib.hid hbel.size; have vw8g := Lib.hid (vw7g.out.below hbel vw7g.out.lt); have vw8x := Lib.hid (vw7x.out.below hbel vw7x.out.lt); have vw8f := Lib.hid (vw7f.out.below hbel vw7f.out.lt); clear hbel; clear c29 c30 c31 c33 c34 c35 c36 c38 c39 c40 c41; have vf42 := (show Var w8 (w.heap.size) 23 [.int .i64 gp, .int .i64 gs, .int .i64 gr] from vw8g.out); have c43 := vf42.cell (j := 0) rfl; have c44 := vf42.cell (j := 1) rfl; have c45 := vf42.cell (j := 2) rfl; clear vf42; have vf46 := (show Var w8 (w.heap.size + 1) 27 [.int .u32 (vl sq), .int .u32 (vl pv), .int .u32 (vl fr), .slice a n cap] from vw8x.out); have c47 := vf46.cell (j := 0) rfl; have c48 := vf46.cell (j := 1) rfl; have c49 := vf46.cell (j := 2) rfl; have c50 := vf46.cell (j := 3) rfl; clear vf46; have vf51 := (show Var w8 (w6.heap.size) 29 [.int .i64 fk, .int .u32 fa, .int .u32 fb, .string FB] from vw8f.out); have c52 := vf51.cell (j := 0) rfl; have c53 := vf51.cell (j := 1) rfl; have c54 := vf51.cell (j := 2) rfl; have c55 := vf51.cell (j := 3) rfl; clear vf51)))
  go_ret2
  exact ⟨_, rfl, FMine.nil _ _, bw8.out⟩
set_option maxRecDepth 100000 in
set_option maxHeartbeats 8000000 in
theorem cut_5 (gp gs gr : Int) (sq pv fr : W) (a : Option Addr) (n cap : Nat) (L : List Wr) (B : ByteArray) (nd : Int) (hnd : 1 ≤ nd) (hnd2 : nd ≤ 2000000) (hBm : B.size ≤ 1000000) (s0 s1 s2 s3 s4 s5 : Int) (fk fa fb : Int) (FB : ByteArray) (mo : Int) (qm : decide (mo < nd) = false) (r : Int) (PL : List Fr) (hPL : PL.length ≤ 1000000) (ff : Fr) (hff : fC ff = [.int .i64 fk, .int .u32 fa, .int .u32 fb, .string FB])
    (HR : Hid (∀ w, Calls Tryz.prog 32 #[.agg #[.int .i64 gp, .int .i64 gs, .int .i64 gr]] w fun e w' => e = .returned (.bool true) ∧ Below w.heap.size w w'))
    (HBY : Hid (∀ w, Tb w → WAt w a L → Calls Tryz.prog 33 #[.slice a n cap] w fun e w' => e = .returned (.tuple #[.string B, .int .i64 0]) ∧ Below w.heap.size w w'))
    (HN : Hid (∀ w, Calls Tryz.prog 34 #[.agg #[.int .i64 gp, .int .i64 gs, .int .i64 gr], .int .i64 (B.size : Int)] w fun e w' => e = .returned (.int .i64 nd) ∧ Below w.heap.size w w'))
    (HSL : Hid (∀ w, Calls Tryz.prog 36 #[.agg #[.int .u32 (vl sq), .int .u32 (vl pv), .int .u32 (vl fr), .slice a n cap], .int .i64 (nd - 1), .string B] w fun e w' => e = .returned (.agg #[.int .u32 s0, .int .u32 s1, .int .u32 s2, .int .u32 s3, .int .u32 s4, .int .u32 s5]) ∧ Below w.heap.size w w'))
    (HF : Hid (∀ w, Calls Tryz.prog 35 #[.iface 46 (.agg #[.int .u32 s0, .int .u32 s1, .int .u32 s2, .int .u32 s3, .int .u32 s4, .int .u32 s5])] w fun e w' => e = .returned (.tuple #[.agg #[.int .i64 fk, .int .u32 fa, .int .u32 fb, .string FB], .int .i64 0]) ∧ Below w.heap.size w w'))
    (HM : Hid (∀ w, Calls Tryz.prog 37 #[.agg #[.int .i64 gp, .int .i64 gs, .int .i64 gr]] w fun e w' => e = .returned (.int .i64 mo) ∧ Below w.heap.size w w'))
    (HRM : Hid (∀ w, Calls Tryz.prog 39 #[.agg #[.int .i64 gp, .int .i64 gs, .int .i64 gr]] w fun e w' => e = .returned (.int .i64 r) ∧ Below w.heap.size w w'))
    (HPT : Hid (∀ w, Calls Tryz.prog 38 #[.int .u32 (vl sq), .string B, .int .i64 r] w fun e w' => ∃ v, e = .returned v ∧ FMine w' w.heap.size v PL ∧ Below w.heap.size w w')) (w : World) (HT : Hid (Tb w)) (HRW : Hid (WAt w a L)) :
    Calls Tryz.prog 13 #[.agg #[.int .i64 gp, .int .i64 gs, .int .i64 gr], .agg #[.int .u32 (vl sq), .int .u32 (vl pv), .int .u32 (vl fr), .slice a n cap]] w (CutSays (PL ++ [ff], 0) w) := by
  go_enter Tryz.func13, Tryz.ntmps13
  go_wp2_with (first
    | (go_at_call 32; ((with_reducible refine (HR.out _).mono ?_); rintro e w2 ⟨rfl, bz⟩; obtain ⟨w1, hw1⟩ : ∃ wx, wx = ((w.alloc (.cells #[.int .i64 gp, .int .i64 gs, .int .i64 gr] 23)).alloc (.cells #[.int .u32 (vl sq), .int .u32 (vl pv), .int .u32 (vl fr), .slice a n cap] 27)) := ⟨_, rfl⟩; have bw1 := Lib.hid (show Below w.heap.size w w1 by rw [hw1]; exact (bel2 (Geom.bel_alloc _ _) (Geom.bel_alloc _ _))); have zw1 := Lib.hid (show w.heap.size + 2 ≤ w1.heap.size by rw [hw1]; simp); have vw1g := Lib.hid (show Var w1 (w.heap.size) 23 [.int .i64 gp, .int .i64 gs, .int .i64 gr] by rw [hw1]; exact ((Var.new w 23 [.int .i64 gp, .int .i64 gs, .int .i64 gr]).alloc _)); have vw1x := Lib.hid (show Var w1 (w.heap.size + 1) 27 [.int .u32 (vl sq), .int .u32 (vl pv), .int .u32 (vl fr), .slice a n cap] by rw [hw1]; exact (show Var ((w.alloc (.cells #[.int .i64 gp, .int .i64 gs, .int .i64 gr] 23)).alloc (.cells #[.int .u32 (vl sq), .int .u32 (vl pv), .int .u32 (vl fr), .slice a n cap] 27)) (w.heap.size + 1) 27 [.int .u32 (vl sq), .int .u32 (vl pv), .int .u32 (vl fr), .slice a n cap] from by have h := Var.new (w.alloc (.cells #[.int .i64 gp, .int .i64 gs, .int .i64 gr] 23)) 27 [.int .u32 (vl sq), .int .u32 (vl pv), .int .u32 (vl fr), .slice a n cap]; rw [show (w.alloc (.cells #[.int .i64 gp, .int .i64 gs, .int .i64 gr] 23)).heap.size = w.heap.size + 1 by simp] at h; exact h)); have hbel : Below w1.heap.size w1 w2 := (by rw [hw1]; exact bz); clear bz; have bw2 := Lib.hid (bel2 bw1.out hbel); have zw2 := Lib.hid hbel.size; have vw2g := Lib.hid (vw1g.out.below hbel vw1g.out.lt); have vw2x := Lib.hid (vw1x.out.below hbel vw1x.out.lt); clear hbel; have vf1 := (show Var w2 (w.heap.size) 23 [.int .i64 gp, .int .i64 gs, .int .i64 gr] from vw2g.out); have c2 := vf1.cell (j := 0) rfl; have c3 := vf1.cell (j := 1) rfl; have c4 := vf1.cell (j := 2) rfl; clear vf1; have vf5 := (show Var w2 (w.heap.size + 1) 27 [.int .u32 (vl sq), .int .u32 (vl pv), .int .u32 (vl fr), .slice a n cap] from vw2x.out); have c6 := vf5.cell (j := 0) rfl; have c7 := vf5.cell (j := 1) rfl; have c8 := vf5.cell (j := 2) rfl; have c9 := vf5.cell (j := 3) rfl; clear vf5))
    | (go_at_call 33; ((with_reducible refine (HBY.out _ (Batch.Tb.below HT.out bw2.out) (Batch.WAt.below HRW.out bw2.out)).mono ?_); rintro e w3 ⟨rfl, bz⟩; have hbel : Below w2.heap.size w2 w3 := (by exact bz); clear bz; have bw3 := Lib.hid (bel2 bw2.out hbel); have zw3 := Lib.hid hbel.size; have vw3g := Lib.hid (vw2g.out.below hbel vw2g.out.lt); have vw3x := Lib.hid (vw2x.out.below hbel vw2x.out.lt); clear hbel; clear c2 c3 c4 c6 c7 c8 c9; have vf10 := (show Var w3 (w.heap.size) 23 [.int .i64 gp, .int .i64 gs, .int .i64 gr] from vw3g.out); have c11 := vf10.cell (j := 0) rfl; have c12 := vf10.cell (j := 1) rfl; have c13 := vf10.cell (j := 2) rfl; clear vf10; have vf14 := (show Var w3 (w.heap.size + 1) 27 [.int .u32 (vl sq), .int .u32 (vl pv), .int .u32 (vl fr), .slice a n cap] from vw3x.out); have c15 := vf14.cell (j := 0) rfl; have c16 := vf14.cell (j := 1) rfl; have c17 := vf14.cell (j := 2) rfl; have c18 := vf14.cell (j := 3) rfl; clear vf14))
    | (go_at_call 34; ((with_reducible refine (HN.out _).mono ?_); rintro e w4 ⟨rfl, bz⟩; have hbel : Below w3.heap.size w3 w4 := (by exact bz); clear bz; have bw4 := Lib.hid (bel2 bw3.out hbel); have zw4 := Lib.hid hbel.size; have vw4g := Lib.hid (vw3g.out.below hbel vw3g.out.lt); have vw4x := Lib.hid (vw3x.out.below hbel vw3x.out.lt); clear hbel; clear c11 c12 c13 c15 c16 c17 c18; have vf19 := (show Var w4 (w.heap.size) 23 [.int .i64 gp, .int .i64 gs, .int .i64 gr] from vw4g.out); have c20 := vf19.cell (j := 0) rfl; have c21 := vf19.cell (j := 1) rfl; have c22 := vf19.cell (j := 2) rfl; clear vf19; have vf23 := (show Var w4 (w.heap.size + 1) 27 [.int .u32 (vl sq), .int .u32 (vl pv), .int .u32 (vl fr), .slice a n cap] from vw4x.out); have c24 := vf23.cell (j := 0) rfl; have c25 := vf23.cell (j := 1) rfl; have c26 := vf23.cell (j := 2) rfl; have c27 := vf23.cell (j := 3) rfl; clear vf23))
    | (go_at_call 36; ((with_reducible refine (HSL.out _).mono ?_); rintro e w5 ⟨rfl, bz⟩; have hbel : Below w4.heap.size w4 w5 := (by exact bz); clear bz; have bw5 := Lib.hid (bel2 bw4.out hbel); have zw5 := Lib.hid hbel.size; have vw5g := Lib.hid (vw4g.out.below hbel vw4g.out.lt); have vw5x := Lib.hid (vw4x.out.below hbel vw4x.out.lt); clear hbel; clear c20 c21 c22 c24 c25 c26 c27))
    | (go_at_call 35; ((with_reducible refine (HF.out _).mono ?_); rintro e w6 ⟨rfl, bz⟩; have hbel : Below w5.heap.size w5 w6 := (by exact bz); clear bz; have bw6 := Lib.hid (bel2 bw5.out hbel); have zw6 := Lib.hid hbel.size; have vw6g := Lib.hid (vw5g.out.below hbel vw5g.out.lt); have vw6x := Lib.hid (vw5x.out.below hbel vw5x.out.lt); clear hbel; have vf28 := (show Var (w6.alloc (.cells #[.int .i64 fk, .int .u32 fa, .int .u32 fb, .string FB] 29)) (w.heap.size) 23 [.int .i64 gp, .int .i64 gs, .int .i64 gr] from (vw6g.out.alloc _)); have c29 := vf28.cell (j := 0) rfl; have c30 := vf28.cell (j := 1) rfl; have c31 := vf28.cell (j := 2) rfl; clear vf28; have vf32 := (show Var (w6.alloc (.cells #[.int .i64 fk, .int .u32 fa, .int .u32 fb, .string FB] 29)) (w.heap.size + 1) 27 [.int .u32 (vl sq), .int .u32 (vl pv), .int .u32 (vl fr), .slice a n cap] from (vw6x.out.alloc _)); have c33 := vf32.cell (j := 0) rfl; have c34 := vf32.cell (j := 1) rfl; have c35 := vf32.cell (j := 2) rfl; have c36 := vf32.cell (j := 3) rfl; clear vf32; have vf37 := (show Var (w6.alloc (.cells #[.int .i64 fk, .int .u32 fa, .int .u32 fb, .string FB] 29)) (w6.heap.size) 29 [.int .i64 fk, .int .u32 fa, .int .u32 fb, .string FB] from (Var.new w6 29 [.int .i64 fk, .int .u32 fa, .int .u32 fb, .string FB])); have c38 := vf37.cell (j := 0) rfl; have c39 := vf37.cell (j := 1) rfl; have c40 := vf37.cell (j := 2) rfl; have c41 := vf37.cell (j := 3) rfl; clear vf37))
    | (go_at_call 37; ((with_reducible refine (HM.out _).mono ?_); rintro e w8 ⟨rfl, bz⟩; obtain ⟨w7, hw7⟩ : ∃ wx, wx = (w6.alloc (.cells #[.int .i64 fk, .int .u32 fa, .int .u32 fb, .string FB] 29)) := ⟨_, rfl⟩; have bw7 := Lib.hid (show Below w.heap.size w w7 by rw [hw7]; exact (bel2 bw6.out (Geom.bel_alloc _ _))); have zw7 := Lib.hid (show w6.heap.size + 1 ≤ w7.heap.size by rw [hw7]; simp); have vw7g := Lib.hid (show Var w7 (w.heap.size) 23 [.int .i64 gp, .int .i64 gs, .int .i64 gr] by rw [hw7]; exact (vw6g.out.alloc _)); have vw7x := Lib.hid (show Var w7 (w.heap.size + 1) 27 [.int .u32 (vl sq), .int .u32 (vl pv), .int .u32 (vl fr), .slice a n cap] by rw [hw7]; exact (vw6x.out.alloc _)); have vw7f := Lib.hid (show Var w7 (w6.heap.size) 29 [.int .i64 fk, .int .u32 fa, .int .u32 fb, .string FB] by rw [hw7]; exact (Var.new w6 29 [.int .i64 fk, .int .u32 fa, .int .u32 fb, .string FB])); have hbel : Below w7.heap.size w7 w8 := (by rw [hw7]; exact bz); clear bz; have bw8 := Lib.hid (bel2 bw7.out hbel); have zw8 := Lib.hid hbel.size; have vw8g := Lib.hid (vw7g.out.below hbel vw7g.out.lt); have vw8x := Lib.hid (vw7x.out.below hbel vw7x.out.lt); have vw8f := Lib.hid (vw7f.out.below hbel vw7f.out.lt); clear hbel; clear c29 c30 c31 c33 c34 c35 c36 c38 c39 c40 c41; have vf42 := (show Var w8 (w.heap.size) 23 [.int .i64 gp, .int .i64 gs, .int .i64 gr] from vw8g.out); have c43 := vf42.cell (j := 0) rfl; have c44 := vf42.cell (j := 1) rfl; have c45 := vf42.cell (j := 2) rfl; clear vf42; have vf46 := (show Var w8 (w.heap.size + 1) 27 [.int .u32 (vl sq), .int .u32 (vl pv), .int .u32 (vl fr), .slice a n cap] from vw8x.out); have c47 := vf46.cell (j := 0) rfl; have c48 := vf46.cell (j := 1) rfl; have c49 := vf46.cell (j := 2) rfl; have c50 := vf46.cell (j := 3) rfl; clear vf46; have vf51 := (show Var w8 (w6.heap.size) 29 [.int .i64 fk, .int .u32 fa, .int .u32 fb, .string FB] from vw8f.out); have c52 := vf51.cell (j := 0) rfl; have c53 := vf51.cell (j := 1) rfl; have c54 := vf51.cell (j := 2) rfl; have c55 := vf51.cell (j := 3) rfl; clear vf51)))
  clear c43 c44 c45 c47 c48 c49 c50 c52 c53 c54 c55
  refine wp_region_tail 8 [45, 46, 47, 48, 49, 50, 51, 52] (fun w' => Below w8.heap.size w8 w') (VT [.pointer (some ⟨w.heap.size + 1, 0, none⟩), .int .u32 (vl sq), .string B, .agg #[.int .i64 gp, .int .i64 gs, .int .i64 gr], .int .i64 r, undef, .agg #[.int .i64 fk, .int .u32 fa, .int .u32 fb, .string FB], undef] [(5, mineSp w.heap.size PL), (7, oneSp [.int .i64 fk, .int .u32 fa, .int .u32 fb, .string FB])]) (by kernel_rfl) (by kernel_rfl) (by kernel_rfl) (by decide) rfl (by decide) (by simp) (VT.mono _ _) (Below.refl _ _).drew ?each ?done
  case each =>
    simp only [List.take_succ_cons, List.take_zero, Each]
    refine ⟨?o0, ?o1, ?o2, ?o3, ?o4, ?o5, ?o6, ?o7, trivial⟩
    case o0 =>
      intro ys wx hBx hdeps
      clear hdeps
      simp only [fill, List.foldl_cons, List.foldl_nil, Act.put, List.setIfInBounds_toArray, List.set_cons_succ, List.set_cons_zero]
      go_wp2_with fail
      exact ⟨_, rfl, rfl, hBx, Below.refl _ _⟩
    case o1 =>
      intro ys wx hBx hdeps
      simp only [Deps, Region.binds, List.getD_cons_zero, List.getD_cons_succ, forall_const, and_true, true_and] at hdeps
      have y0 : ys 45 = .pointer (some ⟨w.heap.size + 1, 0, none⟩) := by first | exact hdeps | exact hdeps.1 | exact hdeps.2.1 | exact hdeps.2 | exact hdeps.2.2
      clear hdeps
      have q56 := (vw8x.out.below hBx vw8x.out.lt).cell (j := 0) rfl
      simp only [y0, fill, List.foldl_cons, List.foldl_nil, Act.put, List.setIfInBounds_toArray, List.set_cons_succ, List.set_cons_zero]
      go_wp2_with fail
      exact ⟨_, rfl, rfl, hBx, Below.refl _ _⟩
    case o2 =>
      intro ys wx hBx hdeps
      clear hdeps
      simp only [fill, List.foldl_cons, List.foldl_nil, Act.put, List.setIfInBounds_toArray, List.set_cons_succ, List.set_cons_zero]
      go_wp2_with fail
      exact ⟨_, rfl, rfl, hBx, Below.refl _ _⟩
    case o3 =>
      intro ys wx hBx hdeps
      clear hdeps
      have q57 := (vw8g.out.below hBx vw8g.out.lt).cell (j := 0) rfl
      have q58 := (vw8g.out.below hBx vw8g.out.lt).cell (j := 1) rfl
      have q59 := (vw8g.out.below hBx vw8g.out.lt).cell (j := 2) rfl
      simp only [fill, List.foldl_cons, List.foldl_nil, Act.put, List.setIfInBounds_toArray, List.set_cons_succ, List.set_cons_zero]
      go_wp2_with fail
      exact ⟨_, rfl, rfl, hBx, Below.refl _ _⟩
    case o4 =>
      intro ys wx hBx hdeps
      simp only [Deps, Region.binds, List.getD_cons_zero, List.getD_cons_succ, forall_const, and_true, true_and] at hdeps
      have y3 : ys 48 = .agg #[.int .i64 gp, .int .i64 gs, .int .i64 gr] := by first | exact hdeps | exact hdeps.1 | exact hdeps.2.1 | exact hdeps.2 | exact hdeps.2.2
      clear hdeps
      simp only [y3, fill, List.foldl_cons, List.foldl_nil, Act.put, List.setIfInBounds_toArray, List.set_cons_succ, List.set_cons_zero]
      go_wp2_with (go_at_call 39; (with_reducible refine (HRM.out _).mono ?_); rintro e w3 ⟨rfl, hbm⟩)
      exact ⟨_, rfl, rfl, hBx.trans (hbm.mono hBx.size), hbm⟩
    case o5 =>
      intro ys wx hBx hdeps
      simp only [Deps, Region.binds, List.getD_cons_zero, List.getD_cons_succ, forall_const, and_true, true_and] at hdeps
      have y1 : ys 46 = .int .u32 (vl sq) := by first | exact hdeps.1 | exact hdeps.2.1 | exact hdeps.2.2.1 | exact hdeps.2.2.2.1 | exact hdeps.2 | exact hdeps.2.2 | exact hdeps.2.2.2 | exact hdeps.2.2.2.2
      have y2 : ys 47 = .string B := by first | exact hdeps.1 | exact hdeps.2.1 | exact hdeps.2.2.1 | exact hdeps.2.2.2.1 | exact hdeps.2 | exact hdeps.2.2 | exact hdeps.2.2.2 | exact hdeps.2.2.2.2
      have y4 : ys 49 = .int .i64 r := by first | exact hdeps.1 | exact hdeps.2.1 | exact hdeps.2.2.1 | exact hdeps.2.2.2.1 | exact hdeps.2 | exact hdeps.2.2 | exact hdeps.2.2.2 | exact hdeps.2.2.2.2
      clear hdeps
      simp only [y1, y2, y4, fill, List.foldl_cons, List.foldl_nil, Act.put, List.setIfInBounds_toArray, List.set_cons_succ, List.set_cons_zero]
      go_wp2_with (go_at_call 38; (with_reducible refine (HPT.out _).mono ?_); rintro e w3 ⟨v, rfl, hown, hbm⟩)
      exact ⟨_, rfl, hown.base (bel2 bw8.out hBx).size, hBx.trans (hbm.mono hBx.size), hbm⟩
    case o6 =>
      intro ys wx hBx hdeps
      clear hdeps
      have q60 := (vw8f.out.below hBx vw8f.out.lt).cell (j := 0) rfl
      have q61 := (vw8f.out.below hBx vw8f.out.lt).cell (j := 1) rfl
      have q62 := (vw8f.out.below hBx vw8f.out.lt).cell (j := 2) rfl
      have q63 := (vw8f.out.below hBx vw8f.out.lt).cell (j := 3) rfl
      simp only [fill, List.foldl_cons, List.foldl_nil, Act.put, List.setIfInBounds_toArray, List.set_cons_succ, List.set_cons_zero]
      go_wp2_with fail
      exact ⟨_, rfl, rfl, hBx, Below.refl _ _⟩
    case o7 =>
      intro ys wx hBx hdeps
      simp only [Deps, Region.binds, List.getD_cons_zero, List.getD_cons_succ, forall_const, and_true, true_and] at hdeps
      have y6 : ys 51 = .agg #[.int .i64 fk, .int .u32 fa, .int .u32 fb, .string FB] := by first | exact hdeps | exact hdeps.1 | exact hdeps.2.1 | exact hdeps.2 | exact hdeps.2.2
      clear hdeps
      simp only [y6, fill, List.foldl_cons, List.foldl_nil, Act.put, List.setIfInBounds_toArray, List.set_cons_succ, List.set_cons_zero]
      go_wp2_with fail
      exact ⟨_, rfl, ⟨_, rfl, lies_new wx [.int .i64 fk, .int .u32 fa, .int .u32 fb, .string FB] 29⟩, hBx.alloc hBx.size _, (Below.refl _ _).alloc (Nat.le_refl _) _⟩
  case done =>
    intro ys w9 hBx hV
    have bw9 := Lib.hid (bel2 bw8.out hBx)
    have zw9 := Lib.hid hBx.size
    have vw9g := Lib.hid (vw8g.out.below hBx vw8g.out.lt)
    have vw9x := Lib.hid (vw8x.out.below hBx vw8x.out.lt)
    have vw9f := Lib.hid (vw8f.out.below hBx vw8f.out.lt)
    have M50 := Lib.hid (show FMine w9 w.heap.size (ys 50) PL from hV 5 (by decide))
    have hh : ∃ g, ys 52 = .slice (some ⟨g, 0, none⟩) 1 1 ∧ Lies w9 g 0 [.int .i64 fk, .int .u32 fa, .int .u32 fb, .string FB] := hV 7 (by decide)
    with_reducible refine Exists.elim hh ?_
    intro g52 hh2
    have e52 := hh2.1
    have L52 := Lib.hid hh2.2
    clear hh hh2
    clear hBx hV
    simp only [e52, fill, List.drop_succ_cons, List.drop_zero, List.foldl_cons, List.foldl_nil, Act.put, List.setIfInBounds_toArray, List.set_cons_succ, List.set_cons_zero]
    refine append_tup rfl _ _ 30 rfl w.heap.size 29 (.agg #[.int .i64 0, .int .u32 0, .int .u32 0, .string ⟨#[]⟩]) 4 32 Tryz.underlying30 infoF rfl (by decide) (ys 50) PL.length (flatF PL) rfl M50.out g52 [.int .i64 fk, .int .u32 fa, .int .u32 fb, .string FB] rfl rfl L52.out ?c1 ?c2 ?c3 ?c5 ?_
    case c1 => simp [Value.oneCell']
    case c2 => omega
    case c3 => unfold maxLen; omega
    case c5 => exact bw9.out.size
    intro g cap2 w9 hown9 hgrow9 hat9 hlt9
    have HB9 := Lib.hid (below_append bw9.out hgrow9 bw9.out.size (fun t ht => (owns_lt M50.out t ht).2))
    go_wp2
    go_ret2
    exact ⟨_, rfl, by unfold FMine; rw [flatF_snoc, hff, List.length_append]; exact hown9, HB9.out⟩
theorem cut_any (g : Gm) (x : Gp) (a : Option Addr) (cap : Nat) (hl : x.wr.length ≤ 1000000) (hz : ∀ y ∈ x.wr, y.key.size ≤ 8796093022208) (w : World) (hT : Tb w) (hr : WAt w a x.wr) :
    Calls Tryz.prog 13 #[gV g, gpV x (.slice a x.wr.length cap)] w (CutSays (cutG g x) w) := by
  have HT := Lib.hid hT
  have HRW := Lib.hid hr
  have HR := Lib.hid (fun w => Geom.right_any g w)
  have HBY := Lib.hid (fun w hT hr => Batch.bytes_any a x.wr cap hl hz w hT hr)
  unfold cutG
  cases hg : rightG g with
  | false =>
    rw [hg] at HR
    rw [if_pos rfl]
    exact cut_1 g.page g.pages g.regions x.seq x.prev x.frm a x.wr.length cap x.wr ByteArray.empty HR w HT HRW
  | true =>
    rw [hg] at HR
    rw [if_neg (by simp)]
    by_cases hc : (bytesW x.wr).2 ≠ 0
    · rw [if_pos hc]
      have qc : (((bytesW x.wr).2 : Int) == 0) = false := by rw [beq_eq_false_iff_ne]; omega
      exact cut_2 g.page g.pages g.regions x.seq x.prev x.frm a x.wr.length cap x.wr _ (bytesW x.wr).2 qc (by rw [bne, qc]; rfl) HR HBY w HT HRW
    rw [if_neg hc]
    have hc0 : (bytesW x.wr).2 = 0 := by omega
    rw [hc0] at HBY
    obtain ⟨B, hB⟩ : ∃ B, B = (bytesW x.wr).1 := ⟨_, rfl⟩
    have hBs := bytes_small hc0
    rw [← hB] at HBY hBs ⊢
    have hbs : bs B.data.toList = B := bs_list B
    have hbl : B.data.toList.length = B.size := by simp
    have hsm := right_small.1 hg
    obtain ⟨rp1, rp2, rp3⟩ := roomN_pos hsm
    have hnd := partsN_need g hsm B.size hBs.1 (by omega)
    have hnp := partsN_pos (n := B.size) (show 0 < roomN g by omega) (by omega)
    have hnle : partsN (roomN g) B.size ≤ 1000000 := by
      have h := (partsN_spec (n := B.size) (show 0 < roomN g by omega) (partsN (roomN g) B.size - 1)).2 (by omega)
      have h2 : partsN (roomN g) B.size - 1 ≤ (partsN (roomN g) B.size - 1) * roomN g := Nat.le_mul_of_pos_right _ (by omega)
      omega
    obtain ⟨N, hN⟩ : ∃ N, N = partsN (roomN g) B.size := ⟨_, rfl⟩
    rw [← hN] at hnd hnp hnle
    have HN := Lib.hid (fun w => Geom.need_any g (B.size : Int) w)
    have HM := Lib.hid (fun w => Geom.most_any g w)
    have HRM := Lib.hid (fun w => Geom.room_any g w)
    rw [hg] at HN HM HRM
    simp only [if_true] at HN HM HRM
    have HSL := Lib.hid (fun w => sealed_any x (.slice a x.wr.length cap) N (by omega) B.data.toList (by omega) w)
    have HF := Lib.hid (fun w => frame_any (.fin x.seq (wd (N : Int)) x.prev x.frm (CrcM.sum B.data.toList) (wd (B.data.toList.length : Int))) w)
    rw [hbs] at HSL
    rw [show (N : Int) = needG g (B.size : Int) - 1 by omega] at HSL
    cases hx : formG x with
    | false =>
      rw [if_pos rfl]
      rw [frameP_not (seal_wrong hx)] at HF
      rw [show (N : Int) = needG g (B.size : Int) - 1 by omega] at HF
      exact cut_3 g.page g.pages g.regions x.seq x.prev x.frm a x.wr.length cap x.wr B (needG g (B.size : Int)) (by omega) (by omega) (by omega) _ _ _ _ _ _ _ _ _ _ HR HBY HN HSL HF w HT HRW
    | true =>
      rw [if_neg (by simp)]
      have hsr : pieceR (Piece.pcFrame (.fin x.seq (wd (N : Int)) x.prev x.frm (CrcM.sum B.data.toList) (wd (B.data.toList.length : Int)))) = true := seal_right hx hnp (by omega) (by omega) (by omega)
      rw [frameP_ok hsr] at HF
      have hsf : sealF x N B.data.toList = Piece.pcFrame (.fin x.seq (wd (N : Int)) x.prev x.frm (CrcM.sum B.data.toList) (wd (B.data.toList.length : Int))) := rfl
      rw [← hsf] at HF
      rw [show (N : Int) = needG g (B.size : Int) - 1 by omega] at HF
      by_cases hm : mostG g < needG g (B.size : Int)
      · rw [if_pos hm]
        exact cut_4 g.page g.pages g.regions x.seq x.prev x.frm a x.wr.length cap x.wr B (needG g (B.size : Int)) (by omega) (by omega) (by omega) _ _ _ _ _ _ _ _ _ _ (mostG g) (decide_eq_true hm) HR HBY HN HSL HF HM w HT HRW
      · rw [if_neg hm]
        have HPT := Lib.hid (fun w => parts_any x.seq (form_seq hx) (roomN g) (by omega) (by omega) B.data.toList (by omega) w)
        rw [hbs, rp3] at HPT
        have hfr : framesG g x B.data.toList = partsF x.seq (roomN g) B.data.toList ++ [sealF x N B.data.toList] := by unfold framesG; rw [hbl, ← hN]
        rw [hfr]
        exact cut_5 g.page g.pages g.regions x.seq x.prev x.frm a x.wr.length cap x.wr B (needG g (B.size : Int)) (by omega) (by omega) (by omega) _ _ _ _ _ _ _ _ _ _ (mostG g) (decide_eq_false hm) (g.page - 15) _ (by rw [partsF_len, hbl, ← hN]; exact hnle) (sealF x N B.data.toList) rfl HR HBY HN HSL HF HM HRM HPT w HT HRW
end Go.Proofs.YtligapgjdpdihaaGreatDoor.Group
