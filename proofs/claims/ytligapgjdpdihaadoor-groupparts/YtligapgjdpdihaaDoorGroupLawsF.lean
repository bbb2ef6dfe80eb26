/-
  The walk of GroupParts.
-/
import Derived.Test.YtligapgjdpdihaaDoorGroupLawsS
set_option linter.unusedVariables false
set_option linter.unusedSimpArgs false
namespace Go.Proofs.YtligapgjdpdihaaDoor.Group
open Go.RowKit
open CrcM (W)
open Crc (le4 sumOf vl wd putS)
open Flash (bs bs_size bs_list list_bs cut)
open Go.Proofs.YtligapgjdpdihaaDoor.Frame (Fr zeroF fV fC bel2 below_drewN)
open Piece (pieceR isSeqB)
open Tup Bytes Own
open Geom (Gm gV rightG mostG needG Small right_small smallG small_small)
open Batch (Wr WAt WMine Tb bytesW layB rightW readW writesOf makeW)
open Go.Proofs.YtligapgjdpdihaaDoor.Region (fill Then Deps Each wp_region_is wp_region_is_tail wp_region_each wp_region_tail)
set_option maxRecDepth 100000 in
set_option maxHeartbeats 8000000 in
theorem parts_f (gp gs gr hp hq hr : Int) (sq pv fr : W) (a : Option Addr) (n cap : Nat) (L : List Wr) (s0 s1 s2 : W) (M : List Wr) (PL : List Fr) (c9 : Nat) (q0 : ((c9 : Int) == 0) = false) (q00 : ((c9 : Int) != 0) = true)
    (HGE : Hid (∀ w, Calls Tryd.prog 9 #[.agg #[.int .i64 gp, .int .i64 gs, .int .i64 gr]] w fun e w' => e = .returned (.agg #[.int .i64 hp, .int .i64 hq, .int .i64 hr]) ∧ Below w.heap.size w w'))
    (HSH : Hid (∀ w, WAt w a L → Calls Tryd.prog 11 #[.agg #[.int .u32 (vl sq), .int .u32 (vl pv), .int .u32 (vl fr), .slice a n cap]] w fun e w' => ∃ va vc, e = .returned (.agg #[.int .u32 (vl s0), .int .u32 (vl s1), .int .u32 (vl s2), .slice va M.length vc]) ∧ WMine w' w.heap.size (.slice va M.length vc) M ∧ Below w.heap.size w w'))
    (HC : Hid (∀ w a c, Tb w → WAt w a M → Calls Tryd.prog 12 #[.agg #[.int .i64 hp, .int .i64 hq, .int .i64 hr], .agg #[.int .u32 (vl s0), .int .u32 (vl s1), .int .u32 (vl s2), .slice a M.length c]] w fun e w' => ∃ va vc, e = .returned (.tuple #[.slice va PL.length vc, .int .i64 (c9 : Int)]) ∧ FMine w' w.heap.size (.slice va PL.length vc) PL ∧ Below w.heap.size w w'))
    (HAL : Hid (∀ w, Tb w → Calls Tryd.prog 14 #[] w fun e w' => e = .returned (.bool true) ∧ Below w.heap.size w w')) (w : World) (HT : Hid (Tb w)) (HRW : Hid (WAt w a L)) :
    Calls Tryd.prog 7 #[.agg #[.int .i64 gp, .int .i64 gs, .int .i64 gr], .agg #[.int .u32 (vl sq), .int .u32 (vl pv), .int .u32 (vl fr), .slice a n cap]] w fun e w' => e = .returned (.bool true) ∧ Below w.heap.size w w' := by
  go_enter Tryd.func7, Tryd.ntmps7
  go_wp2_with (first
    | (go_at_call 9; go_loud ((with_reducible refine (HGE.out _).mono ?_); rintro e w2 ⟨rfl, bz⟩; obtain ⟨w1, hw1⟩ : ∃ wx, wx = ((w.alloc (.cells #[.int .i64 gp, .int .i64 gs, .int .i64 gr] 23)).alloc (.cells #[.int .u32 (vl sq), .int .u32 (vl pv), .int .u32 (vl fr), .slice a n cap] 27)) := ⟨_, rfl⟩; have bw1 := Lib.hid (show Below w.heap.size w w1 by rw [hw1]; exact (bel2 (Geom.bel_alloc _ _) (Geom.bel_alloc _ _))); have zw1 := Lib.hid (show w.heap.size + 2 ≤ w1.heap.size by rw [hw1]; simp); have vw1g := Lib.hid (show Var w1 (w.heap.size) 23 [.int .i64 gp, .int .i64 gs, .int .i64 gr] by rw [hw1]; exact ((Var.new w 23 [.int .i64 gp, .int .i64 gs, .int .i64 gr]).alloc _)); have vw1x := Lib.hid (show Var w1 (w.heap.size + 1) 27 [.int .u32 (vl sq), .int .u32 (vl pv), .int .u32 (vl fr), .slice a n cap] by rw [hw1]; exact (show Var ((w.alloc (.cells #[.int .i64 gp, .int .i64 gs, .int .i64 gr] 23)).alloc (.cells #[.int .u32 (vl sq), .int .u32 (vl pv), .int .u32 (vl fr), .slice a n cap] 27)) (w.heap.size + 1) 27 [.int .u32 (vl sq), .int .u32 (vl pv), .int .u32 (vl fr), .slice a n cap] from by have h := Var.new (w.alloc (.cells #[.int .i64 gp, .int .i64 gs, .int .i64 gr] 23)) 27 [.int .u32 (vl sq), .int .u32 (vl pv), .int .u32 (vl fr), .slice a n cap]; rw [show (w.alloc (.cells #[.int .i64 gp, .int .i64 gs, .int .i64 gr] 23)).heap.size = w.heap.size + 1 by simp] at h; exact h)); have hbel : Below w1.heap.size w1 w2 := (by rw [hw1]; exact bz); clear bz; have bw2 := Lib.hid (bel2 bw1.out hbel); have zw2 := Lib.hid hbel.size; have vw2g := Lib.hid (vw1g.out.below hbel vw1g.out.lt); have vw2x := Lib.hid (vw1x.out.below hbel vw1x.out.lt); clear hbel; have vf1 := (show Var w2 (w.heap.size) 23 [.int .i64 gp, .int .i64 gs, .int .i64 gr] from vw2g.out); have c2 := vf1.cell (j := 0) rfl; have c3 := vf1.cell (j := 1) rfl; have c4 := vf1.cell (j := 2) rfl; clear vf1; have vf5 := (show Var w2 (w.heap.size + 1) 27 [.int .u32 (vl sq), .int .u32 (vl pv), .int .u32 (vl fr), .slice a n cap] from vw2x.out); have c6 := vf5.cell (j := 0) rfl; have c7 := vf5.cell (j := 1) rfl; have c8 := vf5.cell (j := 2) rfl; have c9 := vf5.cell (j := 3) rfl; clear vf5; have vf10 := (show Var w2 (w.heap.size) 23 [.int .i64 gp, .int .i64 gs, .int .i64 gr] from vw2g.out); have f11 := vf10.frozen 0; have f12 := vf10.frozen 1; have f13 := vf10.frozen 2; clear vf10; have vf14 := (show Var w2 (w.heap.size + 1) 27 [.int .u32 (vl sq), .int .u32 (vl pv), .int .u32 (vl fr), .slice a n cap] from vw2x.out); have f15 := vf14.frozen 0; have f16 := vf14.frozen 1; have f17 := vf14.frozen 2; have f18 := vf14.frozen 3; clear vf14; have vf19 := (show Var (((w2.setCell ⟨w.heap.size, 0, none⟩ (.int .i64 hp)).setCell ⟨w.heap.size, 1, none⟩ (.int .i64 hq)).setCell ⟨w.heap.size, 2, none⟩ (.int .i64 hr)) (w.heap.size) 23 [.int .i64 hp, .int .i64 hq, .int .i64 hr] from (((vw2g.out.set 0 (.int .i64 hp)).set 1 (.int .i64 hq)).set 2 (.int .i64 hr))); have c20 := vf19.cell (j := 0) rfl; have c21 := vf19.cell (j := 1) rfl; have c22 := vf19.cell (j := 2) rfl; clear vf19; have vf23 := (show Var (((w2.setCell ⟨w.heap.size, 0, none⟩ (.int .i64 hp)).setCell ⟨w.heap.size, 1, none⟩ (.int .i64 hq)).setCell ⟨w.heap.size, 2, none⟩ (.int .i64 hr)) (w.heap.size + 1) 27 [.int .u32 (vl sq), .int .u32 (vl pv), .int .u32 (vl fr), .slice a n cap] from (Var.othr2 (Var.othr2 (Var.othr2 vw2x.out ⟨w.heap.size, 0, none⟩ (.int .i64 hp) (by have := zw1.out; have := zw2.out; have := vw2x.out.lt; simp only; omega)) ⟨w.heap.size, 1, none⟩ (.int .i64 hq) (by have := zw1.out; have := zw2.out; have := vw2x.out.lt; simp only; omega)) ⟨w.heap.size, 2, none⟩ (.int .i64 hr) (by have := zw1.out; have := zw2.out; have := vw2x.out.lt; simp only; omega))); have c24 := vf23.cell (j := 0) rfl; have c25 := vf23.cell (j := 1) rfl; have c26 := vf23.cell (j := 2) rfl; have c27 := vf23.cell (j := 3) rfl; clear vf23; have vf28 := (show Var (((w2.setCell ⟨w.heap.size, 0, none⟩ (.int .i64 hp)).setCell ⟨w.heap.size, 1, none⟩ (.int .i64 hq)).setCell ⟨w.heap.size, 2, none⟩ (.int .i64 hr)) (w.heap.size + 1) 27 [.int .u32 (vl sq), .int .u32 (vl pv), .int .u32 (vl fr), .slice a n cap] from (Var.othr2 (Var.othr2 (Var.othr2 vw2x.out ⟨w.heap.size, 0, none⟩ (.int .i64 hp) (by have := zw1.out; have := zw2.out; have := vw2x.out.lt; simp only; omega)) ⟨w.heap.size, 1, none⟩ (.int .i64 hq) (by have := zw1.out; have := zw2.out; have := vw2x.out.lt; simp only; omega)) ⟨w.heap.size, 2, none⟩ (.int .i64 hr) (by have := zw1.out; have := zw2.out; have := vw2x.out.lt; simp only; omega))); have f29 := vf28.frozen 0; have f30 := vf28.frozen 1; have f31 := vf28.frozen 2; have f32 := vf28.frozen 3; clear vf28))
    | (go_at_call 11; go_loud ((with_reducible refine (HSH.out _ (Batch.WAt.below HRW.out (((bw2.out.setCell (p := ⟨w.heap.size, 0, none⟩) (by have := zw1.out; have := zw2.out; simp only; omega) _).setCell (p := ⟨w.heap.size, 1, none⟩) (by have := zw1.out; have := zw2.out; simp only; omega) _).setCell (p := ⟨w.heap.size, 2, none⟩) (by have := zw1.out; have := zw2.out; simp only; omega) _))).mono ?_); rintro e w4 ⟨ve, vf, rfl, hown, bz⟩; obtain ⟨w3, hw3⟩ : ∃ wx, wx = (((w2.setCell ⟨w.heap.size, 0, none⟩ (.int .i64 hp)).setCell ⟨w.heap.size, 1, none⟩ (.int .i64 hq)).setCell ⟨w.heap.size, 2, none⟩ (.int .i64 hr)) := ⟨_, rfl⟩; have bw3 := Lib.hid (show Below w.heap.size w w3 by rw [hw3]; exact (((bw2.out.setCell (p := ⟨w.heap.size, 0, none⟩) (by have := zw1.out; have := zw2.out; simp only; omega) _).setCell (p := ⟨w.heap.size, 1, none⟩) (by have := zw1.out; have := zw2.out; simp only; omega) _).setCell (p := ⟨w.heap.size, 2, none⟩) (by have := zw1.out; have := zw2.out; simp only; omega) _)); have zw3 := Lib.hid (show w2.heap.size + 0 ≤ w3.heap.size by rw [hw3]; simp); have vw3g := Lib.hid (show Var w3 (w.heap.size) 23 [.int .i64 hp, .int .i64 hq, .int .i64 hr] by rw [hw3]; exact (((vw2g.out.set 0 (.int .i64 hp)).set 1 (.int .i64 hq)).set 2 (.int .i64 hr))); have vw3x := Lib.hid (show Var w3 (w.heap.size + 1) 27 [.int .u32 (vl sq), .int .u32 (vl pv), .int .u32 (vl fr), .slice a n cap] by rw [hw3]; exact (Var.othr2 (Var.othr2 (Var.othr2 vw2x.out ⟨w.heap.size, 0, none⟩ (.int .i64 hp) (by have := zw1.out; have := zw2.out; have := vw2x.out.lt; simp only; omega)) ⟨w.heap.size, 1, none⟩ (.int .i64 hq) (by have := zw1.out; have := zw2.out; have := vw2x.out.lt; simp only; omega)) ⟨w.heap.size, 2, none⟩ (.int .i64 hr) (by have := zw1.out; have := zw2.out; have := vw2x.out.lt; simp only; omega))); have hbel : Below w3.heap.size w3 w4 := (by rw [hw3]; exact bz); clear bz; have bw4 := Lib.hid (bel2 bw3.out hbel); have zw4 := Lib.hid hbel.size; have vw4g := Lib.hid (vw3g.out.below hbel vw3g.out.lt); have vw4x := Lib.hid (vw3x.out.below hbel vw3x.out.lt); have rw4M := Lib.hid (show World.ownsRow w4 w3.heap.size 55 3 (.slice ve M.length vf) (M.length) (Batch.flatW M) from (by rw [hw3]; exact hown)); clear hbel; clear c2 c3 c4 c6 c7 c8 c9 f11 f12 f13 f15 f16 f17 f18 c20 c21 c22 c24 c25 c26 c27 f29 f30 f31 f32; clear hown; have vf33 := (show Var w4 (w.heap.size) 23 [.int .i64 hp, .int .i64 hq, .int .i64 hr] from vw4g.out); have c34 := vf33.cell (j := 0) rfl; have c35 := vf33.cell (j := 1) rfl; have c36 := vf33.cell (j := 2) rfl; clear vf33; have vf37 := (show Var w4 (w.heap.size + 1) 27 [.int .u32 (vl sq), .int .u32 (vl pv), .int .u32 (vl fr), .slice a n cap] from vw4x.out); have c38 := vf37.cell (j := 0) rfl; have c39 := vf37.cell (j := 1) rfl; have c40 := vf37.cell (j := 2) rfl; have c41 := vf37.cell (j := 3) rfl; clear vf37; have vf42 := (show Var w4 (w.heap.size + 1) 27 [.int .u32 (vl sq), .int .u32 (vl pv), .int .u32 (vl fr), .slice a n cap] from vw4x.out); have f43 := vf42.frozen 0; have f44 := vf42.frozen 1; have f45 := vf42.frozen 2; have f46 := vf42.frozen 3; clear vf42; have vf47 := (show Var ((((w4.setCell ⟨w.heap.size + 1, 0, none⟩ (.int .u32 (vl s0))).setCell ⟨w.heap.size + 1, 1, none⟩ (.int .u32 (vl s1))).setCell ⟨w.heap.size + 1, 2, none⟩ (.int .u32 (vl s2))).setCell ⟨w.heap.size + 1, 3, none⟩ (.slice ve M.length vf)) (w.heap.size) 23 [.int .i64 hp, .int .i64 hq, .int .i64 hr] from (Var.othr2 (Var.othr2 (Var.othr2 (Var.othr2 vw4g.out ⟨w.heap.size + 1, 0, none⟩ (.int .u32 (vl s0)) (by have := zw1.out; have := zw2.out; have := zw3.out; have := zw4.out; have := vw4g.out.lt; simp only; omega)) ⟨w.heap.size + 1, 1, none⟩ (.int .u32 (vl s1)) (by have := zw1.out; have := zw2.out; have := zw3.out; have := zw4.out; have := vw4g.out.lt; simp only; omega)) ⟨w.heap.size + 1, 2, none⟩ (.int .u32 (vl s2)) (by have := zw1.out; have := zw2.out; have := zw3.out; have := zw4.out; have := vw4g.out.lt; simp only; omega)) ⟨w.heap.size + 1, 3, none⟩ (.slice ve M.length vf) (by have := zw1.out; have := zw2.out; have := zw3.out; have := zw4.out; have := vw4g.out.lt; simp only; omega))); have c48 := vf47.cell (j := 0) rfl; have c49 := vf47.cell (j := 1) rfl; have c50 := vf47.cell (j := 2) rfl; clear vf47; have vf51 := (show Var ((((w4.setCell ⟨w.heap.size + 1, 0, none⟩ (.int .u32 (vl s0))).setCell ⟨w.heap.size + 1, 1, none⟩ (.int .u32 (vl s1))).setCell ⟨w.heap.size + 1, 2, none⟩ (.int .u32 (vl s2))).setCell ⟨w.heap.size + 1, 3, none⟩ (.slice ve M.length vf)) (w.heap.size + 1) 27 [.int .u32 (vl s0), .int .u32 (vl s1), .int .u32 (vl s2), .slice ve M.length vf] from ((((vw4x.out.set 0 (.int .u32 (vl s0))).set 1 (.int .u32 (vl s1))).set 2 (.int .u32 (vl s2))).set 3 (.slice ve M.length vf))); have c52 := vf51.cell (j := 0) rfl; have c53 := vf51.cell (j := 1) rfl; have c54 := vf51.cell (j := 2) rfl; have c55 := vf51.cell (j := 3) rfl; clear vf51))
    | (go_at_call 12; go_loud ((with_reducible refine (HC.out _ _ _ (Batch.Tb.below HT.out ((((bw4.out.setCell (p := ⟨w.heap.size + 1, 0, none⟩) (by have := zw1.out; have := zw2.out; have := zw3.out; have := zw4.out; simp only; omega) _).setCell (p := ⟨w.heap.size + 1, 1, none⟩) (by have := zw1.out; have := zw2.out; have := zw3.out; have := zw4.out; simp only; omega) _).setCell (p := ⟨w.heap.size + 1, 2, none⟩) (by have := zw1.out; have := zw2.out; have := zw3.out; have := zw4.out; simp only; omega) _).setCell (p := ⟨w.heap.size + 1, 3, none⟩) (by have := zw1.out; have := zw2.out; have := zw3.out; have := zw4.out; simp only; omega) _)) (wat_of (owns_set_far (owns_set_far (owns_set_far (owns_set_far rw4M.out ⟨w.heap.size + 1, 0, none⟩ (.int .u32 (vl s0)) (by have := zw1.out; have := zw2.out; have := zw3.out; have := zw4.out; simp only; omega)) ⟨w.heap.size + 1, 1, none⟩ (.int .u32 (vl s1)) (by have := zw1.out; have := zw2.out; have := zw3.out; have := zw4.out; simp only; omega)) ⟨w.heap.size + 1, 2, none⟩ (.int .u32 (vl s2)) (by have := zw1.out; have := zw2.out; have := zw3.out; have := zw4.out; simp only; omega)) ⟨w.heap.size + 1, 3, none⟩ (.slice ve M.length vf) (by have := zw1.out; have := zw2.out; have := zw3.out; have := zw4.out; simp only; omega)))).mono ?_); rintro e w6 ⟨vg, vh, rfl, hown, bz⟩; obtain ⟨w5, hw5⟩ : ∃ wx, wx = ((((w4.setCell ⟨w.heap.size + 1, 0, none⟩ (.int .u32 (vl s0))).setCell ⟨w.heap.size + 1, 1, none⟩ (.int .u32 (vl s1))).setCell ⟨w.heap.size + 1, 2, none⟩ (.int .u32 (vl s2))).setCell ⟨w.heap.size + 1, 3, none⟩ (.slice ve M.length vf)) := ⟨_, rfl⟩; have bw5 := Lib.hid (show Below w.heap.size w w5 by rw [hw5]; exact ((((bw4.out.setCell (p := ⟨w.heap.size + 1, 0, none⟩) (by have := zw1.out; have := zw2.out; have := zw3.out; have := zw4.out; simp only; omega) _).setCell (p := ⟨w.heap.size + 1, 1, none⟩) (by have := zw1.out; have := zw2.out; have := zw3.out; have := zw4.out; simp only; omega) _).setCell (p := ⟨w.heap.size + 1, 2, none⟩) (by have := zw1.out; have := zw2.out; have := zw3.out; have := zw4.out; simp only; omega) _).setCell (p := ⟨w.heap.size + 1, 3, none⟩) (by have := zw1.out; have := zw2.out; have := zw3.out; have := zw4.out; simp only; omega) _)); have zw5 := Lib.hid (show w4.heap.size + 0 ≤ w5.heap.size by rw [hw5]; simp); have vw5g := Lib.hid (show Var w5 (w.heap.size) 23 [.int .i64 hp, .int .i64 hq, .int .i64 hr] by rw [hw5]; exact (Var.othr2 (Var.othr2 (Var.othr2 (Var.othr2 vw4g.out ⟨w.heap.size + 1, 0, none⟩ (.int .u32 (vl s0)) (by have := zw1.out; have := zw2.out; have := zw3.out; have := zw4.out; have := vw4g.out.lt; simp only; omega)) ⟨w.heap.size + 1, 1, none⟩ (.int .u32 (vl s1)) (by have := zw1.out; have := zw2.out; have := zw3.out; have := zw4.out; have := vw4g.out.lt; simp only; omega)) ⟨w.heap.size + 1, 2, none⟩ (.int .u32 (vl s2)) (by have := zw1.out; have := zw2.out; have := zw3.out; have := zw4.out; have := vw4g.out.lt; simp only; omega)) ⟨w.heap.size + 1, 3, none⟩ (.slice ve M.length vf) (by have := zw1.out; have := zw2.out; have := zw3.out; have := zw4.out; have := vw4g.out.lt; simp only; omega))); have vw5x := Lib.hid (show Var w5 (w.heap.size + 1) 27 [.int .u32 (vl s0), .int .u32 (vl s1), .int .u32 (vl s2), .slice ve M.length vf] by rw [hw5]; exact ((((vw4x.out.set 0 (.int .u32 (vl s0))).set 1 (.int .u32 (vl s1))).set 2 (.int .u32 (vl s2))).set 3 (.slice ve M.length vf))); have rw5M := Lib.hid (show World.ownsRow (w5) (w3.heap.size) 55 3 (.slice ve M.length vf) (M.length) (Batch.flatW M) by rw [hw5]; exact (owns_set_far (owns_set_far (owns_set_far (owns_set_far rw4M.out ⟨w.heap.size + 1, 0, none⟩ (.int .u32 (vl s0)) (by have := zw1.out; have := zw2.out; have := zw3.out; have := zw4.out; simp only; omega)) ⟨w.heap.size + 1, 1, none⟩ (.int .u32 (vl s1)) (by have := zw1.out; have := zw2.out; have := zw3.out; have := zw4.out; simp only; omega)) ⟨w.heap.size + 1, 2, none⟩ (.int .u32 (vl s2)) (by have := zw1.out; have := zw2.out; have := zw3.out; have := zw4.out; simp only; omega)) ⟨w.heap.size + 1, 3, none⟩ (.slice ve M.length vf) (by have := zw1.out; have := zw2.out; have := zw3.out; have := zw4.out; simp only; omega))); have hbel : Below w5.heap.size w5 w6 := (by rw [hw5]; exact bz); clear bz; have bw6 := Lib.hid (bel2 bw5.out hbel); have zw6 := Lib.hid hbel.size; have vw6g := Lib.hid (vw5g.out.below hbel vw5g.out.lt); have vw6x := Lib.hid (vw5x.out.below hbel vw5x.out.lt); have rw6M := Lib.hid (owns_below rw5M.out hbel); have rw6P := Lib.hid (show World.ownsRow w6 w5.heap.size 49 4 (.slice vg PL.length vh) (PL.length) (flatF PL) from (by rw [hw5]; exact hown)); clear hbel; clear c34 c35 c36 c38 c39 c40 c41 f43 f44 f45 f46 c48 c49 c50 c52 c53 c54 c55; clear hown; have vf56 := (show Var w6 (w.heap.size) 23 [.int .i64 hp, .int .i64 hq, .int .i64 hr] from vw6g.out); have c57 := vf56.cell (j := 0) rfl; have c58 := vf56.cell (j := 1) rfl; have c59 := vf56.cell (j := 2) rfl; clear vf56; have vf60 := (show Var w6 (w.heap.size + 1) 27 [.int .u32 (vl s0), .int .u32 (vl s1), .int .u32 (vl s2), .slice ve M.length vf] from vw6x.out); have c61 := vf60.cell (j := 0) rfl; have c62 := vf60.cell (j := 1) rfl; have c63 := vf60.cell (j := 2) rfl; have c64 := vf60.cell (j := 3) rfl; clear vf60))
    | (go_at_call 14; go_loud ((with_reducible refine (HAL.out _ (Batch.Tb.below HT.out bw6.out)).mono ?_); rintro e w7 ⟨rfl, bz⟩; have hbel : Below w6.heap.size w6 w7 := (by exact bz); clear bz; have bw7 := Lib.hid (bel2 bw6.out hbel); have zw7 := Lib.hid hbel.size; have vw7g := Lib.hid (vw6g.out.below hbel vw6g.out.lt); have vw7x := Lib.hid (vw6x.out.below hbel vw6x.out.lt); have rw7M := Lib.hid (owns_below rw6M.out hbel); have rw7P := Lib.hid (owns_below rw6P.out hbel); clear hbel; clear c57 c58 c59 c61 c62 c63 c64; have vf65 := (show Var w7 (w.heap.size) 23 [.int .i64 hp, .int .i64 hq, .int .i64 hr] from vw7g.out); have c66 := vf65.cell (j := 0) rfl; have c67 := vf65.cell (j := 1) rfl; have c68 := vf65.cell (j := 2) rfl; clear vf65; have vf69 := (show Var w7 (w.heap.size + 1) 27 [.int .u32 (vl s0), .int .u32 (vl s1), .int .u32 (vl s2), .slice ve M.length vf] from vw7x.out); have c70 := vf69.cell (j := 0) rfl; have c71 := vf69.cell (j := 1) rfl; have c72 := vf69.cell (j := 2) rfl; have c73 := vf69.cell (j := 3) rfl; clear vf69))
    | (go_at_call 14; go_loud ((with_reducible refine (HAL.out _ (Batch.Tb.below HT.out bw7.out)).mono ?_); rintro e w8 ⟨rfl, bz⟩; have hbel : Below w7.heap.size w7 w8 := (by exact bz); clear bz; have bw8 := Lib.hid (bel2 bw7.out hbel); have zw8 := Lib.hid hbel.size; have vw8g := Lib.hid (vw7g.out.below hbel vw7g.out.lt); have vw8x := Lib.hid (vw7x.out.below hbel vw7x.out.lt); have rw8M := Lib.hid (owns_below rw7M.out hbel); have rw8P := Lib.hid (owns_below rw7P.out hbel); clear hbel; clear c66 c67 c68 c70 c71 c72 c73)))
  go_ret
  exact ⟨rfl, bw8.out⟩
set_option maxRecDepth 100000 in
set_option maxHeartbeats 8000000 in
theorem parts_ok (gp gs gr hp hq hr : Int) (sq pv fr : W) (a : Option Addr) (n cap : Nat) (L : List Wr) (s0 s1 s2 : W) (M : List Wr) (PL : List Fr) (np : Nat) (rm : Int) (hnp : (PL.length : Int) - 1 = (np : Int)) (hn1 : 1 ≤ np) (hfew : PL.length ≤ 1000) (B : ByteArray) (XB : Nat → ByteArray) (TX : Nat → ByteArray) (hT0 : TX 0 = ⟨#[]⟩) (hTn : TX np = B) (hTs : ∀ k, k < np → TX k ++ XB k = TX (k + 1)) (hsz : ∀ k, k ≤ np → (TX k).size ≤ 1000000) (hne : ∀ k, k < np → ((XB k).toList == ([] : List UInt8)) = false ∧ (XB k).size ≤ 1000000) (hfull : ∀ k : Nat, (k : Int) < (PL.length : Int) - 2 → (((XB k).size : Int) == rm) = true) (hrw : ∀ k : Nat, k < np → (flatF PL)[k * 4]? = some (.int .i64 2) ∧ (flatF PL)[k * 4 + 1]? = some (.int .u32 (vl s0)) ∧ (flatF PL)[k * 4 + 2]? = some (.int .u32 (k : Int)) ∧ (flatF PL)[k * 4 + 3]? = some (.string (XB k))) (hl : (flatF PL)[np * 4]? = some (.int .i64 3) ∧ (flatF PL)[np * 4 + 1]? = some (.int .u32 (vl s0)) ∧ (flatF PL)[np * 4 + 2]? = some (.int .u32 (np : Int)))
    (HGE : Hid (∀ w, Calls Tryd.prog 9 #[.agg #[.int .i64 gp, .int .i64 gs, .int .i64 gr]] w fun e w' => e = .returned (.agg #[.int .i64 hp, .int .i64 hq, .int .i64 hr]) ∧ Below w.heap.size w w'))
    (HSH : Hid (∀ w, WAt w a L → Calls Tryd.prog 11 #[.agg #[.int .u32 (vl sq), .int .u32 (vl pv), .int .u32 (vl fr), .slice a n cap]] w fun e w' => ∃ va vc, e = .returned (.agg #[.int .u32 (vl s0), .int .u32 (vl s1), .int .u32 (vl s2), .slice va M.length vc]) ∧ WMine w' w.heap.size (.slice va M.length vc) M ∧ Below w.heap.size w w'))
    (HC : Hid (∀ w a c, Tb w → WAt w a M → Calls Tryd.prog 12 #[.agg #[.int .i64 hp, .int .i64 hq, .int .i64 hr], .agg #[.int .u32 (vl s0), .int .u32 (vl s1), .int .u32 (vl s2), .slice a M.length c]] w fun e w' => ∃ va vc, e = .returned (.tuple #[.slice va PL.length vc, .int .i64 0]) ∧ FMine w' w.heap.size (.slice va PL.length vc) PL ∧ Below w.heap.size w w'))
    (HAL : Hid (∀ w, Tb w → Calls Tryd.prog 14 #[] w fun e w' => e = .returned (.bool true) ∧ Below w.heap.size w w'))
    (HRB : Hid (∀ w a c, WAt w a M → Calls Tryd.prog 19 #[.slice a M.length c] w fun e w' => e = .returned (.tuple #[.string B, .int .i64 0]) ∧ Below w.heap.size w w'))
    (HRM : Hid (∀ w, Calls Tryd.prog 23 #[.agg #[.int .i64 hp, .int .i64 hq, .int .i64 hr]] w fun e w' => e = .returned (.int .i64 rm) ∧ Below w.heap.size w w')) (w : World) (HT : Hid (Tb w)) (HRW : Hid (WAt w a L)) :
    Calls Tryd.prog 7 #[.agg #[.int .i64 gp, .int .i64 gs, .int .i64 gr], .agg #[.int .u32 (vl sq), .int .u32 (vl pv), .int .u32 (vl fr), .slice a n cap]] w fun e w' => e = .returned (.bool true) ∧ Below w.heap.size w w' := by
  have HTS := Lib.hid hTs
  have HSZ := Lib.hid hsz
  have HNE := Lib.hid hne
  have HFU := Lib.hid hfull
  have HP := Lib.hid hrw
  have HL := Lib.hid hl
  have HTN := Lib.hid hTn
  have HT0 := Lib.hid hT0
  clear hTs hsz hne hfull hrw hl hTn hT0
  go_enter Tryd.func7, Tryd.ntmps7
  go_wp2_with (first
    | (go_at_call 9; go_loud ((with_reducible refine (HGE.out _).mono ?_); rintro e w2 ⟨rfl, bz⟩; obtain ⟨w1, hw1⟩ : ∃ wx, wx = ((w.alloc (.cells #[.int .i64 gp, .int .i64 gs, .int .i64 gr] 23)).alloc (.cells #[.int .u32 (vl sq), .int .u32 (vl pv), .int .u32 (vl fr), .slice a n cap] 27)) := ⟨_, rfl⟩; have bw1 := Lib.hid (show Below w.heap.size w w1 by rw [hw1]; exact (bel2 (Geom.bel_alloc _ _) (Geom.bel_alloc _ _))); have zw1 := Lib.hid (show w.heap.size + 2 ≤ w1.heap.size by rw [hw1]; simp); have vw1g := Lib.hid (show Var w1 (w.heap.size) 23 [.int .i64 gp, .int .i64 gs, .int .i64 gr] by rw [hw1]; exact ((Var.new w 23 [.int .i64 gp, .int .i64 gs, .int .i64 gr]).alloc _)); have vw1x := Lib.hid (show Var w1 (w.heap.size + 1) 27 [.int .u32 (vl sq), .int .u32 (vl pv), .int .u32 (vl fr), .slice a n cap] by rw [hw1]; exact (show Var ((w.alloc (.cells #[.int .i64 gp, .int .i64 gs, .int .i64 gr] 23)).alloc (.cells #[.int .u32 (vl sq), .int .u32 (vl pv), .int .u32 (vl fr), .slice a n cap] 27)) (w.heap.size + 1) 27 [.int .u32 (vl sq), .int .u32 (vl pv), .int .u32 (vl fr), .slice a n cap] from by have h := Var.new (w.alloc (.cells #[.int .i64 gp, .int .i64 gs, .int .i64 gr] 23)) 27 [.int .u32 (vl sq), .int .u32 (vl pv), .int .u32 (vl fr), .slice a n cap]; rw [show (w.alloc (.cells #[.int .i64 gp, .int .i64 gs, .int .i64 gr] 23)).heap.size = w.heap.size + 1 by simp] at h; exact h)); have hbel : Below w1.heap.size w1 w2 := (by rw [hw1]; exact bz); clear bz; have bw2 := Lib.hid (bel2 bw1.out hbel); have zw2 := Lib.hid hbel.size; have vw2g := Lib.hid (vw1g.out.below hbel vw1g.out.lt); have vw2x := Lib.hid (vw1x.out.below hbel vw1x.out.lt); clear hbel; have vf1 := (show Var w2 (w.heap.size) 23 [.int .i64 gp, .int .i64 gs, .int .i64 gr] from vw2g.out); have c2 := vf1.cell (j := 0) rfl; have c3 := vf1.cell (j := 1) rfl; have c4 := vf1.cell (j := 2) rfl; clear vf1; have vf5 := (show Var w2 (w.heap.size + 1) 27 [.int .u32 (vl sq), .int .u32 (vl pv), .int .u32 (vl fr), .slice a n cap] from vw2x.out); have c6 := vf5.cell (j := 0) rfl; have c7 := vf5.cell (j := 1) rfl; have c8 := vf5.cell (j := 2) rfl; have c9 := vf5.cell (j := 3) rfl; clear vf5; have vf10 := (show Var w2 (w.heap.size) 23 [.int .i64 gp, .int .i64 gs, .int .i64 gr] from vw2g.out); have f11 := vf10.frozen 0; have f12 := vf10.frozen 1; have f13 := vf10.frozen 2; clear vf10; have vf14 := (show Var w2 (w.heap.size + 1) 27 [.int .u32 (vl sq), .int .u32 (vl pv), .int .u32 (vl fr), .slice a n cap] from vw2x.out); have f15 := vf14.frozen 0; have f16 := vf14.frozen 1; have f17 := vf14.frozen 2; have f18 := vf14.frozen 3; clear vf14; have vf19 := (show Var (((w2.setCell ⟨w.heap.size, 0, none⟩ (.int .i64 hp)).setCell ⟨w.heap.size, 1, none⟩ (.int .i64 hq)).setCell ⟨w.heap.size, 2, none⟩ (.int .i64 hr)) (w.heap.size) 23 [.int .i64 hp, .int .i64 hq, .int .i64 hr] from (((vw2g.out.set 0 (.int .i64 hp)).set 1 (.int .i64 hq)).set 2 (.int .i64 hr))); have c20 := vf19.cell (j := 0) rfl; have c21 := vf19.cell (j := 1) rfl; have c22 := vf19.cell (j := 2) rfl; clear vf19; have vf23 := (show Var (((w2.setCell ⟨w.heap.size, 0, none⟩ (.int .i64 hp)).setCell ⟨w.heap.size, 1, none⟩ (.int .i64 hq)).setCell ⟨w.heap.size, 2, none⟩ (.int .i64 hr)) (w.heap.size + 1) 27 [.int .u32 (vl sq), .int .u32 (vl pv), .int .u32 (vl fr), .slice a n cap] from (Var.othr2 (Var.othr2 (Var.othr2 vw2x.out ⟨w.heap.size, 0, none⟩ (.int .i64 hp) (by have := zw1.out; have := zw2.out; have := vw2x.out.lt; simp only; omega)) ⟨w.heap.size, 1, none⟩ (.int .i64 hq) (by have := zw1.out; have := zw2.out; have := vw2x.out.lt; simp only; omega)) ⟨w.heap.size, 2, none⟩ (.int .i64 hr) (by have := zw1.out; have := zw2.out; have := vw2x.out.lt; simp only; omega))); have c24 := vf23.cell (j := 0) rfl; have c25 := vf23.cell (j := 1) rfl; have c26 := vf23.cell (j := 2) rfl; have c27 := vf23.cell (j := 3) rfl; clear vf23; have vf28 := (show Var (((w2.setCell ⟨w.heap.size, 0, none⟩ (.int .i64 hp)).setCell ⟨w.heap.size, 1, none⟩ (.int .i64 hq)).setCell ⟨w.heap.size, 2, none⟩ (.int .i64 hr)) (w.heap.size + 1) 27 [.int .u32 (vl sq), .int .u32 (vl pv), .int .u32 (vl fr), .slice a n cap] from (Var.othr2 (Var.othr2 (Var.othr2 vw2x.out ⟨w.heap.size, 0, none⟩ (.int .i64 hp) (by have := zw1.out; have := zw2.out; have := vw2x.out.lt; simp only; omega)) ⟨w.heap.size, 1, none⟩ (.int .i64 hq) (by have := zw1.out; have := zw2.out; have := vw2x.out.lt; simp only; omega)) ⟨w.heap.size, 2, none⟩ (.int .i64 hr) (by have := zw1.out; have := zw2.out; have := vw2x.out.lt; simp only; omega))); have f29 := vf28.frozen 0; have f30 := vf28.frozen 1; have f31 := vf28.frozen 2; have f32 := vf28.frozen 3; clear vf28))
    | (go_at_call 11; go_loud ((with_reducible refine (HSH.out _ (Batch.WAt.below HRW.out (((bw2.out.setCell (p := ⟨w.heap.size, 0, none⟩) (by have := zw1.out; have := zw2.out; simp only; omega) _).setCell (p := ⟨w.heap.size, 1, none⟩) (by have := zw1.out; have := zw2.out; simp only; omega) _).setCell (p := ⟨w.heap.size, 2, none⟩) (by have := zw1.out; have := zw2.out; simp only; omega) _))).mono ?_); rintro e w4 ⟨ve, vf, rfl, hown, bz⟩; obtain ⟨w3, hw3⟩ : ∃ wx, wx = (((w2.setCell ⟨w.heap.size, 0, none⟩ (.int .i64 hp)).setCell ⟨w.heap.size, 1, none⟩ (.int .i64 hq)).setCell ⟨w.heap.size, 2, none⟩ (.int .i64 hr)) := ⟨_, rfl⟩; have bw3 := Lib.hid (show Below w.heap.size w w3 by rw [hw3]; exact (((bw2.out.setCell (p := ⟨w.heap.size, 0, none⟩) (by have := zw1.out; have := zw2.out; simp only; omega) _).setCell (p := ⟨w.heap.size, 1, none⟩) (by have := zw1.out; have := zw2.out; simp only; omega) _).setCell (p := ⟨w.heap.size, 2, none⟩) (by have := zw1.out; have := zw2.out; simp only; omega) _)); have zw3 := Lib.hid (show w2.heap.size + 0 ≤ w3.heap.size by rw [hw3]; simp); have vw3g := Lib.hid (show Var w3 (w.heap.size) 23 [.int .i64 hp, .int .i64 hq, .int .i64 hr] by rw [hw3]; exact (((vw2g.out.set 0 (.int .i64 hp)).set 1 (.int .i64 hq)).set 2 (.int .i64 hr))); have vw3x := Lib.hid (show Var w3 (w.heap.size + 1) 27 [.int .u32 (vl sq), .int .u32 (vl pv), .int .u32 (vl fr), .slice a n cap] by rw [hw3]; exact (Var.othr2 (Var.othr2 (Var.othr2 vw2x.out ⟨w.heap.size, 0, none⟩ (.int .i64 hp) (by have := zw1.out; have := zw2.out; have := vw2x.out.lt; simp only; omega)) ⟨w.heap.size, 1, none⟩ (.int .i64 hq) (by have := zw1.out; have := zw2.out; have := vw2x.out.lt; simp only; omega)) ⟨w.heap.size, 2, none⟩ (.int .i64 hr) (by have := zw1.out; have := zw2.out; have := vw2x.out.lt; simp only; omega))); have hbel : Below w3.heap.size w3 w4 := (by rw [hw3]; exact bz); clear bz; have bw4 := Lib.hid (bel2 bw3.out hbel); have zw4 := Lib.hid hbel.size; have vw4g := Lib.hid (vw3g.out.below hbel vw3g.out.lt); have vw4x := Lib.hid (vw3x.out.below hbel vw3x.out.lt); have rw4M := Lib.hid (show World.ownsRow w4 w3.heap.size 55 3 (.slice ve M.length vf) (M.length) (Batch.flatW M) from (by rw [hw3]; exact hown)); clear hbel; clear c2 c3 c4 c6 c7 c8 c9 f11 f12 f13 f15 f16 f17 f18 c20 c21 c22 c24 c25 c26 c27 f29 f30 f31 f32; clear hown; have vf33 := (show Var w4 (w.heap.size) 23 [.int .i64 hp, .int .i64 hq, .int .i64 hr] from vw4g.out); have c34 := vf33.cell (j := 0) rfl; have c35 := vf33.cell (j := 1) rfl; have c36 := vf33.cell (j := 2) rfl; clear vf33; have vf37 := (show Var w4 (w.heap.size + 1) 27 [.int .u32 (vl sq), .int .u32 (vl pv), .int .u32 (vl fr), .slice a n cap] from vw4x.out); have c38 := vf37.cell (j := 0) rfl; have c39 := vf37.cell (j := 1) rfl; have c40 := vf37.cell (j := 2) rfl; have c41 := vf37.cell (j := 3) rfl; clear vf37; have vf42 := (show Var w4 (w.heap.size + 1) 27 [.int .u32 (vl sq), .int .u32 (vl pv), .int .u32 (vl fr), .slice a n cap] from vw4x.out); have f43 := vf42.frozen 0; have f44 := vf42.frozen 1; have f45 := vf42.frozen 2; have f46 := vf42.frozen 3; clear vf42; have vf47 := (show Var ((((w4.setCell ⟨w.heap.size + 1, 0, none⟩ (.int .u32 (vl s0))).setCell ⟨w.heap.size + 1, 1, none⟩ (.int .u32 (vl s1))).setCell ⟨w.heap.size + 1, 2, none⟩ (.int .u32 (vl s2))).setCell ⟨w.heap.size + 1, 3, none⟩ (.slice ve M.length vf)) (w.heap.size) 23 [.int .i64 hp, .int .i64 hq, .int .i64 hr] from (Var.othr2 (Var.othr2 (Var.othr2 (Var.othr2 vw4g.out ⟨w.heap.size + 1, 0, none⟩ (.int .u32 (vl s0)) (by have := zw1.out; have := zw2.out; have := zw3.out; have := zw4.out; have := vw4g.out.lt; simp only; omega)) ⟨w.heap.size + 1, 1, none⟩ (.int .u32 (vl s1)) (by have := zw1.out; have := zw2.out; have := zw3.out; have := zw4.out; have := vw4g.out.lt; simp only; omega)) ⟨w.heap.size + 1, 2, none⟩ (.int .u32 (vl s2)) (by have := zw1.out; have := zw2.out; have := zw3.out; have := zw4.out; have := vw4g.out.lt; simp only; omega)) ⟨w.heap.size + 1, 3, none⟩ (.slice ve M.length vf) (by have := zw1.out; have := zw2.out; have := zw3.out; have := zw4.out; have := vw4g.out.lt; simp only; omega))); have c48 := vf47.cell (j := 0) rfl; have c49 := vf47.cell (j := 1) rfl; have c50 := vf47.cell (j := 2) rfl; clear vf47; have vf51 := (show Var ((((w4.setCell ⟨w.heap.size + 1, 0, none⟩ (.int .u32 (vl s0))).setCell ⟨w.heap.size + 1, 1, none⟩ (.int .u32 (vl s1))).setCell ⟨w.heap.size + 1, 2, none⟩ (.int .u32 (vl s2))).setCell ⟨w.heap.size + 1, 3, none⟩ (.slice ve M.length vf)) (w.heap.size + 1) 27 [.int .u32 (vl s0), .int .u32 (vl s1), .int .u32 (vl s2), .slice ve M.length vf] from ((((vw4x.out.set 0 (.int .u32 (vl s0))).set 1 (.int .u32 (vl s1))).set 2 (.int .u32 (vl s2))).set 3 (.slice ve M.length vf))); have c52 := vf51.cell (j := 0) rfl; have c53 := vf51.cell (j := 1) rfl; have c54 := vf51.cell (j := 2) rfl; have c55 := vf51.cell (j := 3) rfl; clear vf51))
    | (go_at_call 12; go_loud ((with_reducible refine (HC.out _ _ _ (Batch.Tb.below HT.out ((((bw4.out.setCell (p := ⟨w.heap.size + 1, 0, none⟩) (by have := zw1.out; have := zw2.out; have := zw3.out; have := zw4.out; simp only; omega) _).setCell (p := ⟨w.heap.size + 1, 1, none⟩) (by have := zw1.out; have := zw2.out; have := zw3.out; have := zw4.out; simp only; omega) _).setCell (p := ⟨w.heap.size + 1, 2, none⟩) (by have := zw1.out; have := zw2.out; have := zw3.out; have := zw4.out; simp only; omega) _).setCell (p := ⟨w.heap.size + 1, 3, none⟩) (by have := zw1.out; have := zw2.out; have := zw3.out; have := zw4.out; simp only; omega) _)) (wat_of (owns_set_far (owns_set_far (owns_set_far (owns_set_far rw4M.out ⟨w.heap.size + 1, 0, none⟩ (.int .u32 (vl s0)) (by have := zw1.out; have := zw2.out; have := zw3.out; have := zw4.out; simp only; omega)) ⟨w.heap.size + 1, 1, none⟩ (.int .u32 (vl s1)) (by have := zw1.out; have := zw2.out; have := zw3.out; have := zw4.out; simp only; omega)) ⟨w.heap.size + 1, 2, none⟩ (.int .u32 (vl s2)) (by have := zw1.out; have := zw2.out; have := zw3.out; have := zw4.out; simp only; omega)) ⟨w.heap.size + 1, 3, none⟩ (.slice ve M.length vf) (by have := zw1.out; have := zw2.out; have := zw3.out; have := zw4.out; simp only; omega)))).mono ?_); rintro e w6 ⟨vg, vh, rfl, hown, bz⟩; obtain ⟨w5, hw5⟩ : ∃ wx, wx = ((((w4.setCell ⟨w.heap.size + 1, 0, none⟩ (.int .u32 (vl s0))).setCell ⟨w.heap.size + 1, 1, none⟩ (.int .u32 (vl s1))).setCell ⟨w.heap.size + 1, 2, none⟩ (.int .u32 (vl s2))).setCell ⟨w.heap.size + 1, 3, none⟩ (.slice ve M.length vf)) := ⟨_, rfl⟩; have bw5 := Lib.hid (show Below w.heap.size w w5 by rw [hw5]; exact ((((bw4.out.setCell (p := ⟨w.heap.size + 1, 0, none⟩) (by have := zw1.out; have := zw2.out; have := zw3.out; have := zw4.out; simp only; omega) _).setCell (p := ⟨w.heap.size + 1, 1, none⟩) (by have := zw1.out; have := zw2.out; have := zw3.out; have := zw4.out; simp only; omega) _).setCell (p := ⟨w.heap.size + 1, 2, none⟩) (by have := zw1.out; have := zw2.out; have := zw3.out; have := zw4.out; simp only; omega) _).setCell (p := ⟨w.heap.size + 1, 3, none⟩) (by have := zw1.out; have := zw2.out; have := zw3.out; have := zw4.out; simp only; omega) _)); have zw5 := Lib.hid (show w4.heap.size + 0 ≤ w5.heap.size by rw [hw5]; simp); have vw5g := Lib.hid (show Var w5 (w.heap.size) 23 [.int .i64 hp, .int .i64 hq, .int .i64 hr] by rw [hw5]; exact (Var.othr2 (Var.othr2 (Var.othr2 (Var.othr2 vw4g.out ⟨w.heap.size + 1, 0, none⟩ (.int .u32 (vl s0)) (by have := zw1.out; have := zw2.out; have := zw3.out; have := zw4.out; have := vw4g.out.lt; simp only; omega)) ⟨w.heap.size + 1, 1, none⟩ (.int .u32 (vl s1)) (by have := zw1.out; have := zw2.out; have := zw3.out; have := zw4.out; have := vw4g.out.lt; simp only; omega)) ⟨w.heap.size + 1, 2, none⟩ (.int .u32 (vl s2)) (by have := zw1.out; have := zw2.out; have := zw3.out; have := zw4.out; have := vw4g.out.lt; simp only; omega)) ⟨w.heap.size + 1, 3, none⟩ (.slice ve M.length vf) (by have := zw1.out; have := zw2.out; have := zw3.out; have := zw4.out; have := vw4g.out.lt; simp only; omega))); have vw5x := Lib.hid (show Var w5 (w.heap.size + 1) 27 [.int .u32 (vl s0), .int .u32 (vl s1), .int .u32 (vl s2), .slice ve M.length vf] by rw [hw5]; exact ((((vw4x.out.set 0 (.int .u32 (vl s0))).set 1 (.int .u32 (vl s1))).set 2 (.int .u32 (vl s2))).set 3 (.slice ve M.length vf))); have rw5M := Lib.hid (show World.ownsRow (w5) (w3.heap.size) 55 3 (.slice ve M.length vf) (M.length) (Batch.flatW M) by rw [hw5]; exact (owns_set_far (owns_set_far (owns_set_far (owns_set_far rw4M.out ⟨w.heap.size + 1, 0, none⟩ (.int .u32 (vl s0)) (by have := zw1.out; have := zw2.out; have := zw3.out; have := zw4.out; simp only; omega)) ⟨w.heap.size + 1, 1, none⟩ (.int .u32 (vl s1)) (by have := zw1.out; have := zw2.out; have := zw3.out; have := zw4.out; simp only; omega)) ⟨w.heap.size + 1, 2, none⟩ (.int .u32 (vl s2)) (by have := zw1.out; have := zw2.out; have := zw3.out; have := zw4.out; simp only; omega)) ⟨w.heap.size + 1, 3, none⟩ (.slice ve M.length vf) (by have := zw1.out; have := zw2.out; have := zw3.out; have := zw4.out; simp only; omega))); have hbel : Below w5.heap.size w5 w6 := (by rw [hw5]; exact bz); clear bz; have bw6 := Lib.hid (bel2 bw5.out hbel); have zw6 := Lib.hid hbel.size; have vw6g := Lib.hid (vw5g.out.below hbel vw5g.out.lt); have vw6x := Lib.hid (vw5x.out.below hbel vw5x.out.lt); have rw6M := Lib.hid (owns_below rw5M.out hbel); have rw6P := Lib.hid (show World.ownsRow w6 w5.heap.size 49 4 (.slice vg PL.length vh) (PL.length) (flatF PL) from (by rw [hw5]; exact hown)); clear hbel; clear c34 c35 c36 c38 c39 c40 c41 f43 f44 f45 f46 c48 c49 c50 c52 c53 c54 c55; clear hown; have vf56 := (show Var w6 (w.heap.size) 23 [.int .i64 hp, .int .i64 hq, .int .i64 hr] from vw6g.out); have c57 := vf56.cell (j := 0) rfl; have c58 := vf56.cell (j := 1) rfl; have c59 := vf56.cell (j := 2) rfl; clear vf56; have vf60 := (show Var w6 (w.heap.size + 1) 27 [.int .u32 (vl s0), .int .u32 (vl s1), .int .u32 (vl s2), .slice ve M.length vf] from vw6x.out); have c61 := vf60.cell (j := 0) rfl; have c62 := vf60.cell (j := 1) rfl; have c63 := vf60.cell (j := 2) rfl; have c64 := vf60.cell (j := 3) rfl; clear vf60))
    | (go_at_call 14; go_loud ((with_reducible refine (HAL.out _ (Batch.Tb.below HT.out bw6.out)).mono ?_); rintro e w7 ⟨rfl, bz⟩; have hbel : Below w6.heap.size w6 w7 := (by exact bz); clear bz; have bw7 := Lib.hid (bel2 bw6.out hbel); have zw7 := Lib.hid hbel.size; have vw7g := Lib.hid (vw6g.out.below hbel vw6g.out.lt); have vw7x := Lib.hid (vw6x.out.below hbel vw6x.out.lt); have rw7M := Lib.hid (owns_below rw6M.out hbel); have rw7P := Lib.hid (owns_below rw6P.out hbel); clear hbel; clear c57 c58 c59 c61 c62 c63 c64; have vf65 := (show Var w7 (w.heap.size) 23 [.int .i64 hp, .int .i64 hq, .int .i64 hr] from vw7g.out); have c66 := vf65.cell (j := 0) rfl; have c67 := vf65.cell (j := 1) rfl; have c68 := vf65.cell (j := 2) rfl; clear vf65; have vf69 := (show Var w7 (w.heap.size + 1) 27 [.int .u32 (vl s0), .int .u32 (vl s1), .int .u32 (vl s2), .slice ve M.length vf] from vw7x.out); have c70 := vf69.cell (j := 0) rfl; have c71 := vf69.cell (j := 1) rfl; have c72 := vf69.cell (j := 2) rfl; have c73 := vf69.cell (j := 3) rfl; clear vf69)))
  have h0' : 0 < PL.length := by omega
  with_reducible refine Exists.elim (fmine_some (fm_of rw7P.out) h0') ?_
  intro gP hh
  have hgP := hh.1
  subst hgP
  clear hh c66 c67 c68 c70 c71 c72 c73
  have hk0 : (0 : Int) ≤ (np : Int) := by omega
  go_loopw [7, 8] (fun s i wr => ∃ k : Nat, i = .int .i64 (k : Int) ∧ k ≤ np ∧ s = .string (TX k) ∧ Below w7.heap.size w7 wr) (fun _ i _ => np - (intOf i).toNat)
  case atStart => exact ⟨0, rfl, Nat.zero_le _, by rw [HT0.out], Below.refl _ _⟩
  case round =>
    obtain ⟨k, rfl, hk, rfl, hbel⟩ := hrel
    have HBW := Lib.hid (bel2 bw7.out hbel)
    have vgr := Lib.hid (vw7g.out.below hbel vw7g.out.lt)
    have vxr := Lib.hid (vw7x.out.below hbel vw7x.out.lt)
    have rP := Lib.hid (owns_below rw7P.out hbel)
    have rM := Lib.hid (owns_below rw7M.out hbel)
    have HB := Lib.hid hbel
    clear hbel
    by_cases hlt : k < np
    case pos =>
      have d1 : decide ((k : Int) < (np : Int)) = true := by simp; omega
      have d2 : decide (k < np) = true := by simp; omega
      have hkl : k < PL.length := by omega
      have hkl2 : (k : Int) < (PL.length : Int) := by omega
      have hk32 : (k : Int) % 4294967296 = (k : Int) := by omega
      have HP0 := Lib.hid (HP.out k hlt)
      have q3 := (HNE.out k hlt).1
      have hs1 := (HNE.out k hlt).2
      have hs2 := HSZ.out k (by omega)
      have hsum : (TX k).size + (XB k).size ≤ 140737488351232 := by omega
      have HAPP := Lib.hid (HTS.out k hlt)
      have q0 : ((2 : Int) == 2) = true := rfl
      have q1 : (vl s0 == vl s0) = true := beq_self_eq_true _
      have q2 : ((k : Int) == (k : Int)) = true := beq_self_eq_true _
      have q1' : (vl s0 != vl s0) = false := by rw [bne, q1]; rfl
      have q2' : ((k : Int) != (k : Int)) = false := by rw [bne, q2]; rfl
      by_cases hlt2 : (k : Int) < (PL.length : Int) - 2
      case pos =>
        have d5 : decide ((k : Int) < (PL.length : Int) - 2) = true := decide_eq_true hlt2
        have q4 := HFU.out k hlt2
        have q4' : (((XB k).size : Int) != rm) = false := by rw [bne, q4]; rfl
        clear hlt2
        generalize XB k = X at *
        go_wp2
        refine wp_region_is [36, 37, 38, 39, 40, 41, 42, 43, 44, 45, 46, 47, 48, 49, 50, 51, 52, 53, 54, 55, 56, 57, 58, 59, 60, 61, 62, 63, 64, 65, 66, 67, 68, 69, 70, 71, 72, 73, 74, 75, 76, 77, 78, 79, 80, 81, 82, 83, 84, 85, 86, 87] (fun w' => Below wr.heap.size wr w')
          [.slice (some ⟨gP, 0, none⟩) PL.length vh, .int .i64 (k : Int), .pointer (some ⟨gP, k * 4, none⟩), .pointer (some ⟨gP, k * 4, none⟩), .int .i64 2, .bool false, .bool false, .slice (some ⟨gP, 0, none⟩) PL.length vh, .int .i64 (k : Int), .pointer (some ⟨gP, k * 4, none⟩), .pointer (some ⟨gP, k * 4 + 1, none⟩), .int .u32 (vl s0), .pointer (some ⟨w.heap.size + 1, 0, none⟩), .int .u32 (vl s0), .bool false, .bool false, .bool false, .slice (some ⟨gP, 0, none⟩) PL.length vh, .int .i64 (k : Int), .pointer (some ⟨gP, k * 4, none⟩), .pointer (some ⟨gP, k * 4 + 2, none⟩), .int .u32 (k : Int), .int .i64 (k : Int), .int .u32 (k : Int), .bool false, .bool false, .bool false, .slice (some ⟨gP, 0, none⟩) PL.length vh, .int .i64 (k : Int), .pointer (some ⟨gP, k * 4, none⟩), .pointer (some ⟨gP, k * 4 + 3, none⟩), .string X, .bool false, .bool false, .bool false, .int .i64 (k : Int), .slice (some ⟨gP, 0, none⟩) PL.length vh, .int .i64 (PL.length : Int), .int .i64 ((PL.length : Int) - 2), .bool true, .bool true, .slice (some ⟨gP, 0, none⟩) PL.length vh, .int .i64 (k : Int), .pointer (some ⟨gP, k * 4, none⟩), .pointer (some ⟨gP, k * 4 + 3, none⟩), .string X, .int .i64 (X.size : Int), .agg #[.int .i64 hp, .int .i64 hq, .int .i64 hr], .int .i64 rm, .bool false, .bool false, .bool false] (by kernel_rfl) (by kernel_rfl) rfl (by decide) (by simp) (Below.refl _ _).drew ?each ?done
        case each =>
          simp only [Each]
          repeat' (first | exact trivial | refine And.intro ?_ ?_)
          all_goals
            intro ys wx hBx hdeps
            simp only [Deps, Region.binds, List.getD_cons_zero, List.getD_cons_succ, forall_const, and_true] at hdeps
            have y0 := owns_cell (owns_below rP.out hBx) HP0.out.1
            have y1 := owns_cell (owns_below rP.out hBx) HP0.out.2.1
            have y2 := owns_cell (owns_below rP.out hBx) HP0.out.2.2.1
            have y3 := owns_cell (owns_below rP.out hBx) HP0.out.2.2.2
            have z0 := (vxr.out.below hBx vxr.out.lt).cell (j := 0) rfl
            have u0 := (vgr.out.below hBx vgr.out.lt).cell (j := 0) rfl
            have u1 := (vgr.out.below hBx vgr.out.lt).cell (j := 1) rfl
            have u2 := (vgr.out.below hBx vgr.out.lt).cell (j := 2) rfl
            simp only [hdeps, fill, List.foldl_cons, List.foldl_nil, Act.put, List.setIfInBounds_toArray, List.set_cons_succ, List.set_cons_zero]
            first
              | (go_wp2_with fail; exact ⟨_, rfl, rfl, hBx, Below.refl _ _⟩)
              | (go_wp2_with (go_at_call 23; (with_reducible refine (HRM.out _).mono ?_); rintro e w3 ⟨rfl, hbm⟩); exact ⟨_, rfl, rfl, hBx.trans (hbm.mono hBx.size), hbm⟩)
        case done =>
          intro ys wx hBx hV
          have hbx := Lib.hid (bel2 HB.out hBx)
          have h87 : ys 87 = .bool false := hV 51 (by decide)
          clear hBx hV
          simp only [h87, fill, List.drop_succ_cons, List.drop_zero, List.foldl_cons, List.foldl_nil, Act.put, List.setIfInBounds_toArray, List.set_cons_succ, List.set_cons_zero]
          have e0 := owns_cell (owns_below rw7P.out hbx.out) HP0.out.2.2.2
          go_wp2
          go_roundw
          case rel => exact ⟨k + 1, by go_num, by omega, by rw [HAPP.out], hbx.out⟩
          case measure => simp [intOf]; omega
      case neg =>
        have d5 : decide ((k : Int) < (PL.length : Int) - 2) = false := decide_eq_false hlt2
        clear hlt2
        generalize XB k = X at *
        go_wp2
        refine wp_region_is [36, 37, 38, 39, 40, 41, 42, 43, 44, 45, 46, 47, 48, 49, 50, 51, 52, 53, 54, 55, 56, 57, 58, 59, 60, 61, 62, 63, 64, 65, 66, 67, 68, 69, 70, 71, 72, 73, 74, 75, 76, 77, 78, 79, 80, 81, 82, 83, 84, 85, 86, 87] (fun w' => Below wr.heap.size wr w')
          [.slice (some ⟨gP, 0, none⟩) PL.length vh, .int .i64 (k : Int), .pointer (some ⟨gP, k * 4, none⟩), .pointer (some ⟨gP, k * 4, none⟩), .int .i64 2, .bool false, .bool false, .slice (some ⟨gP, 0, none⟩) PL.length vh, .int .i64 (k : Int), .pointer (some ⟨gP, k * 4, none⟩), .pointer (some ⟨gP, k * 4 + 1, none⟩), .int .u32 (vl s0), .pointer (some ⟨w.heap.size + 1, 0, none⟩), .int .u32 (vl s0), .bool false, .bool false, .bool false, .slice (some ⟨gP, 0, none⟩) PL.length vh, .int .i64 (k : Int), .pointer (some ⟨gP, k * 4, none⟩), .pointer (some ⟨gP, k * 4 + 2, none⟩), .int .u32 (k : Int), .int .i64 (k : Int), .int .u32 (k : Int), .bool false, .bool false, .bool false, .slice (some ⟨gP, 0, none⟩) PL.length vh, .int .i64 (k : Int), .pointer (some ⟨gP, k * 4, none⟩), .pointer (some ⟨gP, k * 4 + 3, none⟩), .string X, .bool false, .bool false, .bool false, .int .i64 (k : Int), .slice (some ⟨gP, 0, none⟩) PL.length vh, .int .i64 (PL.length : Int), .int .i64 ((PL.length : Int) - 2), .bool false, .bool false, undef, undef, undef, undef, undef, undef, undef, undef, undef, .bool false, .bool false] (by kernel_rfl) (by kernel_rfl) rfl (by decide) (by simp) (Below.refl _ _).drew ?each ?done
        case each =>
          simp only [Each]
          repeat' (first | exact trivial | refine And.intro ?_ ?_)
          all_goals
            intro ys wx hBx hdeps
            simp only [Deps, Region.binds, List.getD_cons_zero, List.getD_cons_succ, forall_const, and_true] at hdeps
            have y0 := owns_cell (owns_below rP.out hBx) HP0.out.1
            have y1 := owns_cell (owns_below rP.out hBx) HP0.out.2.1
            have y2 := owns_cell (owns_below rP.out hBx) HP0.out.2.2.1
            have y3 := owns_cell (owns_below rP.out hBx) HP0.out.2.2.2
            have z0 := (vxr.out.below hBx vxr.out.lt).cell (j := 0) rfl
            have u0 := (vgr.out.below hBx vgr.out.lt).cell (j := 0) rfl
            have u1 := (vgr.out.below hBx vgr.out.lt).cell (j := 1) rfl
            have u2 := (vgr.out.below hBx vgr.out.lt).cell (j := 2) rfl
            simp only [hdeps, fill, List.foldl_cons, List.foldl_nil, Act.put, List.setIfInBounds_toArray, List.set_cons_succ, List.set_cons_zero]
            first
              | (go_wp2_with fail; exact ⟨_, rfl, rfl, hBx, Below.refl _ _⟩)
              | (go_wp2_with (go_at_call 23; (with_reducible refine (HRM.out _).mono ?_); rintro e w3 ⟨rfl, hbm⟩); exact ⟨_, rfl, rfl, hBx.trans (hbm.mono hBx.size), hbm⟩)
        case done =>
          intro ys wx hBx hV
          have hbx := Lib.hid (bel2 HB.out hBx)
          have h87 : ys 87 = .bool false := hV 51 (by decide)
          clear hBx hV
          simp only [h87, fill, List.drop_succ_cons, List.drop_zero, List.foldl_cons, List.foldl_nil, Act.put, List.setIfInBounds_toArray, List.set_cons_succ, List.set_cons_zero]
          have e0 := owns_cell (owns_below rw7P.out hbx.out) HP0.out.2.2.2
          go_wp2
          go_roundw
          case rel => exact ⟨k + 1, by go_num, by omega, by rw [HAPP.out], hbx.out⟩
          case measure => simp [intOf]; omega
    case neg =>
      obtain rfl : k = np := by omega
      have d1 : decide ((k : Int) < (k : Int)) = false := by simp
      have d2 : decide (k < k) = false := by simp
      have d3 : decide ((1 : Int) ≤ (k : Int)) = true := by simp; omega
      have d4 : decide (1 ≤ k) = true := by simp; omega
      have hkl : k < PL.length := by omega
      have hkl2 : (k : Int) < (PL.length : Int) := by omega
      have hk32 : (k : Int) % 4294967296 = (k : Int) := by omega
      have q0 : ((3 : Int) == 3) = true := rfl
      have q1 : (vl s0 == vl s0) = true := beq_self_eq_true _
      have q2 : ((k : Int) == (k : Int)) = true := beq_self_eq_true _
      have q3 : (B.toList == B.toList) = true := beq_self_eq_true _
      rw [HTN.out]
      have vf801 := (show Var wr (w.heap.size + 1) 27 [.int .u32 (vl s0), .int .u32 (vl s1), .int .u32 (vl s2), .slice ve M.length vf] from vxr.out)
      have c802 := vf801.cell (j := 0) rfl
      have c803 := vf801.cell (j := 1) rfl
      have c804 := vf801.cell (j := 2) rfl
      have c805 := vf801.cell (j := 3) rfl
      clear vf801
      go_wp2_with (first
    | (go_at_call 19; go_loud ((with_reducible refine (HRB.out _ _ _ (wat_of rM.out)).mono ?_); rintro e w41 ⟨rfl, bz⟩; have hbel : Below wr.heap.size wr w41 := (by exact bz); clear bz; have bw41 := Lib.hid (bel2 HBW.out hbel); have zw41 := Lib.hid hbel.size; have vw41x := Lib.hid (vxr.out.below hbel vxr.out.lt); have rw41P := Lib.hid (owns_below rP.out hbel); have rw41M := Lib.hid (owns_below rM.out hbel); clear hbel; clear c802 c803 c804 c805; have vf806 := (show Var w41 (w.heap.size + 1) 27 [.int .u32 (vl s0), .int .u32 (vl s1), .int .u32 (vl s2), .slice ve M.length vf] from vw41x.out); have c807 := vf806.cell (j := 0) rfl; have c808 := vf806.cell (j := 1) rfl; have c809 := vf806.cell (j := 2) rfl; have c810 := vf806.cell (j := 3) rfl; clear vf806; have e0 := owns_cell rw41P.out HL.out.1; have e1 := owns_cell rw41P.out HL.out.2.1; have e2 := owns_cell rw41P.out HL.out.2.2)))
      go_quiet (fail)
      go_wp2
      go_ret
      exact ⟨rfl, below_draw bw41.out ⟨_, rfl⟩⟩
theorem parts_law (g : Gm) (x : Gp) (a : Option Addr) (cap : Nat) (hl : x.wr.length ≤ maxLen) (w : World) (hT : Tb w) (hr : WAt w a x.wr) :
    Calls Tryd.prog 7 #[gV g, gpV x (.slice a x.wr.length cap)] w fun e w' => e = .returned (.bool true) ∧ Below w.heap.size w w' := by
  have HSH := fun w hr => shaped_mine (shaped_any x a cap hl w hr)
  have hl2 := shaped_few x
  have hk2 := shaped_key x
  have HC := fun (g : Gm) (x : Gp) h1 h2 w a c hT hr => cut_mine (cut_any g x a c h1 h2 w hT hr)
  have HC := HC (smallG g) (shapedG x) (by omega) hk2
  have HGE := fun w => Geom.geom_any g w
  have HA := fun w hT => alive_any w hT
  have HSM := small_small g
  have HSG := fun w a b c d ha hb => sameG_any (shapedG x) a b c d (by omega) w ha hb
  have HRB := fun w a c hr => Batch.refBytes_any a (shapedG x).wr c (by unfold maxLen; omega) hk2 w hr
  have HN := fun (n : Int) w => Geom.need_any (smallG g) n w
  have HM := fun w => Geom.most_any (smallG g) w
  have HRO := fun w => Geom.room_any (smallG g) w
  rw [right_small.2 HSM] at HM HRO
  simp only [right_small.2 HSM, if_true] at HN HM HRO
  by_cases hc : (cutG (smallG g) (shapedG x)).2 = 0
  · generalize smallG g = h at *
    generalize shapedG x = y at *
    obtain ⟨b, hb, he⟩ := cut_ok (g := h) (x := y) (l := (cutG h y).1) (by rw [← hc])
    rw [hc] at HC
    have hz := hb.sizes
    have hfew : (cutG h y).1.length ≤ 1000 := by rw [he]; exact frames_few hb
    have hpl : (cutG h y).1.length = partsN (roomN h) b.length + 1 := by rw [he]; exact framesG_len _ _ _
    rw [hb.code] at HRB
    rw [← hz.2.2.2.2.2.2.2.1] at HRB
    have hrp := (roomN_pos HSM).2.2
    have hcl : ∀ k, (cut b (k * roomN h) (roomN h)).length = min (roomN h) (b.length - k * roomN h) := fun k => by unfold cut; rw [List.length_take, List.length_drop]
    have hsp := fun k => partsN_spec (r := roomN h) (n := b.length) (by omega) k
    refine parts_ok g.page g.pages g.regions h.page h.pages h.regions x.seq x.prev x.frm a x.wr.length cap x.wr y.seq y.prev y.frm y.wr (cutG h y).1 (partsN (roomN h) b.length) (h.page - 15) (by omega) (by omega) hfew (bs b) (fun k => bs (cut b (k * roomN h) (roomN h))) (fun k => bs (b.take (k * roomN h))) ?_ ?_ ?_ ?_ ?_ ?_ ?_ ?_ HGE HSH HC HA HRB HRO w hT hr
    · rw [Nat.zero_mul]; rfl
    · have h1 := (hsp (partsN (roomN h) b.length))
      rw [List.take_of_length_le (by omega)]
    · intro k hk
      rw [Nat.add_mul, Nat.one_mul, List.take_add]
      apply ByteArray.ext
      simp [bs, cut]
    · intro k hk
      rw [bs_size, List.length_take]; omega
    · intro k hk
      have h1 := (hsp k).2 hk
      have h2 := hcl k
      refine ⟨?_, by rw [bs_size, h2]; omega⟩
      rw [Piece.bs_empty]
      cases hh : cut b (k * roomN h) (roomN h) with
      | nil => rw [hh] at h2; simp at h2; omega
      | cons _ _ => rfl
    · intro k hk
      have h1 := (hsp (k + 1)).2 (by omega)
      rw [Nat.add_mul, Nat.one_mul] at h1
      rw [bs_size, hcl k, show min (roomN h) (b.length - k * roomN h) = roomN h by omega, hrp]
      exact beq_self_eq_true _
    · intro k hk
      have hg : (cutG h y).1[k]? = some (partAt y.seq (roomN h) b k) := by rw [he]; exact part_get hk
      obtain ⟨f0, f1, f2, f3⟩ := flatF_at _ _ _ hg
      refine ⟨f0, f1, ?_, f3⟩
      rw [f2]
      show some (Value.int .u32 (vl (wd (k : Int)))) = _
      rw [Crc.vl_wd (by omega) (by omega)]
    · have hg := last_get (l := (cutG h y).1) (by omega)
      rw [hpl, Nat.add_sub_cancel] at hg
      rw [show lastF (cutG h y).1 = sealF y (partsN (roomN h) b.length) b by rw [he]; exact frames_last _ _ _] at hg
      obtain ⟨f0, f1, f2, f3⟩ := flatF_at _ _ _ hg
      refine ⟨f0, f1, ?_⟩
      rw [f2]
      show some (Value.int .u32 (vl (wd (partsN (roomN h) b.length : Int)))) = _
      rw [Crc.vl_wd (by omega) (by omega)]
  · generalize smallG g = h at *
    generalize shapedG x = y at *
    have q0 : (((cutG h y).2 : Int) == 0) = false := by rw [beq_eq_false_iff_ne]; omega
    exact parts_f g.page g.pages g.regions h.page h.pages h.regions x.seq x.prev x.frm a x.wr.length cap x.wr y.seq y.prev y.frm y.wr (cutG h y).1 (cutG h y).2 q0 (by rw [bne, q0]; rfl) HGE HSH HC HA w hT hr
end Go.Proofs.YtligapgjdpdihaaDoor.Group
