/-
  What package group's Join answers (1, 2, 3a, 3b).
-/
import Derived.Test.YtligapgjdpdihaaDoorGroupXb
import Derived.Test.YtligapgjdpdihaaDoorRunBatchXb
import Derived.Test.YtligapgjdpdihaaDoorCrcB
set_option linter.unusedVariables false
set_option linter.unusedSimpArgs false
namespace Go.Proofs.YtligapgjdpdihaaDoor.Group
open Go.RowKit
open CrcM (W)
open Crc (le4 sumOf vl wd putS)
open Flash (bs bs_size bs_list list_bs cut)
open Go.Proofs.YtligapgjdpdihaaDoor.Frame (Fr zeroF fV fC bel2 below_drewN)
open Piece (pieceR isSeqB ofF ofF_ok ofF_not pcOf pcV Pc of_any asPart_any asSeal_any asPartV asSealV isPartP isSealP sealV partV)
open Tup Bytes Own
open Batch (Wr WAt WMine Tb readW)
open Go.Proofs.YtligapgjdpdihaaDoor.Region (fill Then Deps Each wp_region_is wp_region_is_tail wp_region_each wp_region_tail)
set_option maxRecDepth 100000 in
set_option maxHeartbeats 8000000 in
theorem join_1 (a : Option Addr) (n cap : Nat) (hn : n < 2) (w : World) : Calls Tryd.prog 16 #[.slice a n cap] w (JoinSays (zeroGp, 3) w) := by
  have d1 : decide ((n : Int) < 2) = true := by simp; omega
  have d2 : decide (n < 2) = true := by simp; omega
  go_enter Tryd.func16, Tryd.ntmps16
  go_wp2
  have vf1 := (show Var (w.alloc (.cells #[.int .u32 0, .int .u32 0, .int .u32 0, .slice none 0 0] 27)) (w.heap.size) 27 [.int .u32 0, .int .u32 0, .int .u32 0, .slice none 0 0] from (Var.new w 27 [.int .u32 0, .int .u32 0, .int .u32 0, .slice none 0 0]))
  have c2 := vf1.cell (j := 0) rfl
  have c3 := vf1.cell (j := 1) rfl
  have c4 := vf1.cell (j := 2) rfl
  have c5 := vf1.cell (j := 3) rfl
  clear vf1
  refine bodyPost_ret (v := .tuple #[.agg #[.int .u32 0, .int .u32 0, .int .u32 0, .slice none 0 0], .int .i64 3]) (by rw [results_cell_tmp rfl]; simp [go_sem, c2, c3, c4, c5]) rfl ?_
  exact ⟨_, rfl, Batch.WMine.nil _ _, (Geom.bel_alloc _ _)⟩
set_option maxRecDepth 100000 in
set_option maxHeartbeats 8000000 in
theorem join_2 (b off n cap : Nat) (w : World) (m : Nat) (hm1 : 1 ≤ m) (hmn : m < n) (hm : (n : Int) - 1 = (m : Int)) (hn : n ≤ 1000) (hcap : n ≤ cap) (kd : Int) (fa fb : W) (FB : ByteArray) (hcell : w.cell? ⟨b, off + m * 4, none⟩ = some (.int .i64 kd) ∧ w.cell? ⟨b, off + m * 4 + 1, none⟩ = some (.int .u32 (vl fa)) ∧ w.cell? ⟨b, off + m * 4 + 2, none⟩ = some (.int .u32 (vl fb)) ∧ w.cell? ⟨b, off + m * 4 + 3, none⟩ = some (.string FB))
    (HSO : Hid (∀ w, Calls Tryd.prog 37 #[.agg #[.int .i64 kd, .int .u32 (vl fa), .int .u32 (vl fb), .string FB]] w fun e w' => e = .returned (.tuple #[.agg #[.int .u32 0, .int .u32 0, .int .u32 0, .int .u32 0, .int .u32 0, .int .u32 0], .bool false]) ∧ Below w.heap.size w w')) :
    Calls Tryd.prog 16 #[.slice (some ⟨b, off, none⟩) n cap] w (JoinSays (zeroGp, 2) w) := by
  have hlow : Below w.heap.size w (w.alloc (.cells #[.int .u32 0, .int .u32 0, .int .u32 0, .slice none 0 0] 27)) := Geom.bel_alloc _ _
  have k0 : (w.alloc (.cells #[.int .u32 0, .int .u32 0, .int .u32 0, .slice none 0 0] 27)).cell? ⟨b, off + m * 4, none⟩ = some (.int .i64 kd) := by rw [hlow.cell (p := ⟨b, off + m * 4, none⟩) (block_lt_of_cell hcell.1)]; exact hcell.1
  have k1 : (w.alloc (.cells #[.int .u32 0, .int .u32 0, .int .u32 0, .slice none 0 0] 27)).cell? ⟨b, off + m * 4 + 1, none⟩ = some (.int .u32 (vl fa)) := by rw [hlow.cell (p := ⟨b, off + m * 4 + 1, none⟩) (block_lt_of_cell hcell.2.1)]; exact hcell.2.1
  have k2 : (w.alloc (.cells #[.int .u32 0, .int .u32 0, .int .u32 0, .slice none 0 0] 27)).cell? ⟨b, off + m * 4 + 2, none⟩ = some (.int .u32 (vl fb)) := by rw [hlow.cell (p := ⟨b, off + m * 4 + 2, none⟩) (block_lt_of_cell hcell.2.2.1)]; exact hcell.2.2.1
  have k3 : (w.alloc (.cells #[.int .u32 0, .int .u32 0, .int .u32 0, .slice none 0 0] 27)).cell? ⟨b, off + m * 4 + 3, none⟩ = some (.string FB) := by rw [hlow.cell (p := ⟨b, off + m * 4 + 3, none⟩) (block_lt_of_cell hcell.2.2.2)]; exact hcell.2.2.2
  clear hlow hcell
  have d1 : decide ((n : Int) < 2) = false := by simp; omega
  have d2 : decide (n < 2) = false := by simp; omega
  go_enter Tryd.func16, Tryd.ntmps16
  go_wp2_with (first
    | (go_at_call 37; ((with_reducible refine (HSO.out _).mono ?_); rintro e w2 ⟨rfl, bz⟩; obtain ⟨w1, hw1⟩ : ∃ wx, wx = (w.alloc (.cells #[.int .u32 0, .int .u32 0, .int .u32 0, .slice none 0 0] 27)) := ⟨_, rfl⟩; have bw1 := Lib.hid (show Below w.heap.size w w1 by rw [hw1]; exact (Geom.bel_alloc _ _)); have zw1 := Lib.hid (show w.heap.size + 1 ≤ w1.heap.size by rw [hw1]; simp); have vw1r := Lib.hid (show Var w1 (w.heap.size) 27 [.int .u32 0, .int .u32 0, .int .u32 0, .slice none 0 0] by rw [hw1]; exact (Var.new w 27 [.int .u32 0, .int .u32 0, .int .u32 0, .slice none 0 0])); have hbel : Below w1.heap.size w1 w2 := (by rw [hw1]; exact bz); clear bz; have bw2 := Lib.hid (bel2 bw1.out hbel); have zw2 := Lib.hid hbel.size; have vw2r := Lib.hid (vw1r.out.below hbel vw1r.out.lt); clear hbel; clear k0 k1 k2 k3; have vf1 := (show Var w2 (w.heap.size) 27 [.int .u32 0, .int .u32 0, .int .u32 0, .slice none 0 0] from vw2r.out); have c2 := vf1.cell (j := 0) rfl; have c3 := vf1.cell (j := 1) rfl; have c4 := vf1.cell (j := 2) rfl; have c5 := vf1.cell (j := 3) rfl; clear vf1; have vf6 := (show Var w2 (w.heap.size) 27 [.int .u32 0, .int .u32 0, .int .u32 0, .slice none 0 0] from vw2r.out); have f7 := vf6.frozen 0; have f8 := vf6.frozen 1; have f9 := vf6.frozen 2; have f10 := vf6.frozen 3; clear vf6; have vf11 := (show Var (w2.alloc (.cells #[.int .u32 0, .int .u32 0, .int .u32 0, .int .u32 0, .int .u32 0, .int .u32 0] 61)) (w.heap.size) 27 [.int .u32 0, .int .u32 0, .int .u32 0, .slice none 0 0] from (vw2r.out.alloc _)); have c12 := vf11.cell (j := 0) rfl; have c13 := vf11.cell (j := 1) rfl; have c14 := vf11.cell (j := 2) rfl; have c15 := vf11.cell (j := 3) rfl; clear vf11; have vf16 := (show Var (w2.alloc (.cells #[.int .u32 0, .int .u32 0, .int .u32 0, .int .u32 0, .int .u32 0, .int .u32 0] 61)) (w2.heap.size) 61 [.int .u32 0, .int .u32 0, .int .u32 0, .int .u32 0, .int .u32 0, .int .u32 0] from (Var.new w2 61 [.int .u32 0, .int .u32 0, .int .u32 0, .int .u32 0, .int .u32 0, .int .u32 0])); have c17 := vf16.cell (j := 0) rfl; have c18 := vf16.cell (j := 1) rfl; have c19 := vf16.cell (j := 2) rfl; have c20 := vf16.cell (j := 3) rfl; have c21 := vf16.cell (j := 4) rfl; have c22 := vf16.cell (j := 5) rfl; clear vf16; have vf23 := (show Var (w2.alloc (.cells #[.int .u32 0, .int .u32 0, .int .u32 0, .int .u32 0, .int .u32 0, .int .u32 0] 61)) (w.heap.size) 27 [.int .u32 0, .int .u32 0, .int .u32 0, .slice none 0 0] from (vw2r.out.alloc _)); have f24 := vf23.frozen 0; have f25 := vf23.frozen 1; have f26 := vf23.frozen 2; have f27 := vf23.frozen 3; clear vf23)))
  have vf28 := (show Var (((((w2.alloc (.cells #[.int .u32 0, .int .u32 0, .int .u32 0, .int .u32 0, .int .u32 0, .int .u32 0] 61)).setCell ⟨w.heap.size, 0, none⟩ (.int .u32 0)).setCell ⟨w.heap.size, 1, none⟩ (.int .u32 0)).setCell ⟨w.heap.size, 2, none⟩ (.int .u32 0)).setCell ⟨w.heap.size, 3, none⟩ (.slice none 0 0)) (w.heap.size) 27 [.int .u32 0, .int .u32 0, .int .u32 0, .slice none 0 0] from (((((vw2r.out.alloc _).set 0 (.int .u32 0)).set 1 (.int .u32 0)).set 2 (.int .u32 0)).set 3 (.slice none 0 0)))
  have c29 := vf28.cell (j := 0) rfl
  have c30 := vf28.cell (j := 1) rfl
  have c31 := vf28.cell (j := 2) rfl
  have c32 := vf28.cell (j := 3) rfl
  clear vf28
  refine bodyPost_ret (v := .tuple #[.agg #[.int .u32 0, .int .u32 0, .int .u32 0, .slice none 0 0], .int .i64 2]) (by rw [results_cell_tmp rfl]; simp [go_sem, c29, c30, c31, c32]) rfl ?_
  exact ⟨_, rfl, Batch.WMine.nil _ _, (((((bel2 bw2.out (Geom.bel_alloc _ _)).setCell (p := ⟨w.heap.size, 0, none⟩) (by have := zw1.out; have := zw2.out; simp only; omega) _).setCell (p := ⟨w.heap.size, 1, none⟩) (by have := zw1.out; have := zw2.out; simp only; omega) _).setCell (p := ⟨w.heap.size, 2, none⟩) (by have := zw1.out; have := zw2.out; simp only; omega) _).setCell (p := ⟨w.heap.size, 3, none⟩) (by have := zw1.out; have := zw2.out; simp only; omega) _)⟩
set_option maxRecDepth 100000 in
set_option maxHeartbeats 8000000 in
theorem join_3a (b off n cap : Nat) (w : World) (m : Nat) (hm1 : 1 ≤ m) (hmn : m < n) (hm : (n : Int) - 1 = (m : Int)) (hn : n ≤ 1000) (hcap : n ≤ cap) (kd : Int) (fa fb : W) (FB : ByteArray) (hcell : w.cell? ⟨b, off + m * 4, none⟩ = some (.int .i64 kd) ∧ w.cell? ⟨b, off + m * 4 + 1, none⟩ = some (.int .u32 (vl fa)) ∧ w.cell? ⟨b, off + m * 4 + 2, none⟩ = some (.int .u32 (vl fb)) ∧ w.cell? ⟨b, off + m * 4 + 3, none⟩ = some (.string FB)) (s0 s1 s2 s3 s4 s5 : W) (T : ByteArray) (hT : T.size ≤ 2000000000) (l : List Fr)
    (HSO : Hid (∀ w, Calls Tryd.prog 37 #[.agg #[.int .i64 kd, .int .u32 (vl fa), .int .u32 (vl fb), .string FB]] w fun e w' => e = .returned (.tuple #[.agg #[.int .u32 (vl s0), .int .u32 (vl s1), .int .u32 (vl s2), .int .u32 (vl s3), .int .u32 (vl s4), .int .u32 (vl s5)], .bool true]) ∧ Below w.heap.size w w'))
    (HTO : Hid (∀ w, FAt w (some ⟨b, off, none⟩) l → Calls Tryd.prog 38 #[.slice (some ⟨b, off, none⟩) m cap, .int .u32 (vl s0)] w fun e w' => e = .returned (.tuple #[.string T, .bool false]) ∧ Below w.heap.size w w'))
    (HRW : Hid (FAt w (some ⟨b, off, none⟩) l)) :
    Calls Tryd.prog 16 #[.slice (some ⟨b, off, none⟩) n cap] w (JoinSays (zeroGp, 2) w) := by
  have hlow : Below w.heap.size w (w.alloc (.cells #[.int .u32 0, .int .u32 0, .int .u32 0, .slice none 0 0] 27)) := Geom.bel_alloc _ _
  have k0 : (w.alloc (.cells #[.int .u32 0, .int .u32 0, .int .u32 0, .slice none 0 0] 27)).cell? ⟨b, off + m * 4, none⟩ = some (.int .i64 kd) := by rw [hlow.cell (p := ⟨b, off + m * 4, none⟩) (block_lt_of_cell hcell.1)]; exact hcell.1
  have k1 : (w.alloc (.cells #[.int .u32 0, .int .u32 0, .int .u32 0, .slice none 0 0] 27)).cell? ⟨b, off + m * 4 + 1, none⟩ = some (.int .u32 (vl fa)) := by rw [hlow.cell (p := ⟨b, off + m * 4 + 1, none⟩) (block_lt_of_cell hcell.2.1)]; exact hcell.2.1
  have k2 : (w.alloc (.cells #[.int .u32 0, .int .u32 0, .int .u32 0, .slice none 0 0] 27)).cell? ⟨b, off + m * 4 + 2, none⟩ = some (.int .u32 (vl fb)) := by rw [hlow.cell (p := ⟨b, off + m * 4 + 2, none⟩) (block_lt_of_cell hcell.2.2.1)]; exact hcell.2.2.1
  have k3 : (w.alloc (.cells #[.int .u32 0, .int .u32 0, .int .u32 0, .slice none 0 0] 27)).cell? ⟨b, off + m * 4 + 3, none⟩ = some (.string FB) := by rw [hlow.cell (p := ⟨b, off + m * 4 + 3, none⟩) (block_lt_of_cell hcell.2.2.2)]; exact hcell.2.2.2
  clear hlow hcell
  have d1 : decide ((n : Int) < 2) = false := by simp; omega
  have d2 : decide (n < 2) = false := by simp; omega
  go_enter Tryd.func16, Tryd.ntmps16
  go_wp2_with (first
    | (go_at_call 37; ((with_reducible refine (HSO.out _).mono ?_); rintro e w2 ⟨rfl, bz⟩; obtain ⟨w1, hw1⟩ : ∃ wx, wx = (w.alloc (.cells #[.int .u32 0, .int .u32 0, .int .u32 0, .slice none 0 0] 27)) := ⟨_, rfl⟩; have bw1 := Lib.hid (show Below w.heap.size w w1 by rw [hw1]; exact (Geom.bel_alloc _ _)); have zw1 := Lib.hid (show w.heap.size + 1 ≤ w1.heap.size by rw [hw1]; simp); have vw1r := Lib.hid (show Var w1 (w.heap.size) 27 [.int .u32 0, .int .u32 0, .int .u32 0, .slice none 0 0] by rw [hw1]; exact (Var.new w 27 [.int .u32 0, .int .u32 0, .int .u32 0, .slice none 0 0])); have hbel : Below w1.heap.size w1 w2 := (by rw [hw1]; exact bz); clear bz; have bw2 := Lib.hid (bel2 bw1.out hbel); have zw2 := Lib.hid hbel.size; have vw2r := Lib.hid (vw1r.out.below hbel vw1r.out.lt); clear hbel; clear k0 k1 k2 k3; have vf1 := (show Var w2 (w.heap.size) 27 [.int .u32 0, .int .u32 0, .int .u32 0, .slice none 0 0] from vw2r.out); have c2 := vf1.cell (j := 0) rfl; have c3 := vf1.cell (j := 1) rfl; have c4 := vf1.cell (j := 2) rfl; have c5 := vf1.cell (j := 3) rfl; clear vf1; have vf6 := (show Var w2 (w.heap.size) 27 [.int .u32 0, .int .u32 0, .int .u32 0, .slice none 0 0] from vw2r.out); have f7 := vf6.frozen 0; have f8 := vf6.frozen 1; have f9 := vf6.frozen 2; have f10 := vf6.frozen 3; clear vf6; have vf11 := (show Var (w2.alloc (.cells #[.int .u32 (vl s0), .int .u32 (vl s1), .int .u32 (vl s2), .int .u32 (vl s3), .int .u32 (vl s4), .int .u32 (vl s5)] 61)) (w.heap.size) 27 [.int .u32 0, .int .u32 0, .int .u32 0, .slice none 0 0] from (vw2r.out.alloc _)); have c12 := vf11.cell (j := 0) rfl; have c13 := vf11.cell (j := 1) rfl; have c14 := vf11.cell (j := 2) rfl; have c15 := vf11.cell (j := 3) rfl; clear vf11; have vf16 := (show Var (w2.alloc (.cells #[.int .u32 (vl s0), .int .u32 (vl s1), .int .u32 (vl s2), .int .u32 (vl s3), .int .u32 (vl s4), .int .u32 (vl s5)] 61)) (w2.heap.size) 61 [.int .u32 (vl s0), .int .u32 (vl s1), .int .u32 (vl s2), .int .u32 (vl s3), .int .u32 (vl s4), .int .u32 (vl s5)] from (Var.new w2 61 [.int .u32 (vl s0), .int .u32 (vl s1), .int .u32 (vl s2), .int .u32 (vl s3), .int .u32 (vl s4), .int .u32 (vl s5)])); have c17 := vf16.cell (j := 0) rfl; have c18 := vf16.cell (j := 1) rfl; have c19 := vf16.cell (j := 2) rfl; have c20 := vf16.cell (j := 3) rfl; have c21 := vf16.cell (j := 4) rfl; have c22 := vf16.cell (j := 5) rfl; clear vf16; have vf23 := (show Var (w2.alloc (.cells #[.int .u32 (vl s0), .int .u32 (vl s1), .int .u32 (vl s2), .int .u32 (vl s3), .int .u32 (vl s4), .int .u32 (vl s5)] 61)) (w.heap.size) 27 [.int .u32 0, .int .u32 0, .int .u32 0, .slice none 0 0] from (vw2r.out.alloc _)); have f24 := vf23.frozen 0; have f25 := vf23.frozen 1; have f26 := vf23.frozen 2; have f27 := vf23.frozen 3; clear vf23)))
  have hslf := fun w => sliceF_h (some ⟨b, off, none⟩) n cap m (by omega) (m : Int) rfl w
  obtain ⟨w3, hw3⟩ : ∃ wx, wx = (w2.alloc (.cells #[.int .u32 (vl s0), .int .u32 (vl s1), .int .u32 (vl s2), .int .u32 (vl s3), .int .u32 (vl s4), .int .u32 (vl s5)] 61)) := ⟨_, rfl⟩
  have bw3 := Lib.hid (show Below w.heap.size w w3 by rw [hw3]; exact (bel2 bw2.out (Geom.bel_alloc _ _)))
  have zw3 := Lib.hid (show w2.heap.size + 1 ≤ w3.heap.size by rw [hw3]; simp)
  have vw3r := Lib.hid (show Var w3 (w.heap.size) 27 [.int .u32 0, .int .u32 0, .int .u32 0, .slice none 0 0] by rw [hw3]; exact (vw2r.out.alloc _))
  have vw3s := Lib.hid (show Var w3 (w2.heap.size) 61 [.int .u32 (vl s0), .int .u32 (vl s1), .int .u32 (vl s2), .int .u32 (vl s3), .int .u32 (vl s4), .int .u32 (vl s5)] by rw [hw3]; exact (Var.new w2 61 [.int .u32 (vl s0), .int .u32 (vl s1), .int .u32 (vl s2), .int .u32 (vl s3), .int .u32 (vl s4), .int .u32 (vl s5)]))
  rw [← hw3]
  clear c2 c3 c4 c5 f7 f8 f9 f10 c12 c13 c14 c15 c17 c18 c19 c20 c21 c22 f24 f25 f26 f27
  refine wp_region_is [29, 30, 31, 32, 33, 34, 28, 35, 36, 7, 6] (fun w' => Below w3.heap.size w3 w')
    [.slice (some ⟨b, off, none⟩) n cap, .int .i64 (m : Int), .slice (some ⟨b, off, none⟩) m cap, .pointer (some ⟨w2.heap.size, 0, none⟩), .int .u32 (vl s0), .tuple #[.string T, .bool false], .tuple #[.string T, .bool false], .string T, .bool false, .string T, .bool false] (by kernel_rfl) (by kernel_rfl) rfl (by decide) (by simp) (Below.refl _ _).drew ?each ?done
  case each =>
    simp only [Each]
    repeat' (first | exact trivial | refine And.intro ?_ ?_)
    all_goals
      intro ys wx hBx hdeps
      simp only [Deps, Region.binds, List.getD_cons_zero, List.getD_cons_succ, forall_const, and_true] at hdeps
      have q28 := (vw3s.out.below hBx vw3s.out.lt).cell (j := 0) rfl
      simp only [hdeps, fill, List.foldl_cons, List.foldl_nil, Act.put, List.setIfInBounds_toArray, List.set_cons_succ, List.set_cons_zero]
      first
        | (go_wp2_with fail; exact ⟨_, rfl, rfl, hBx, Below.refl _ _⟩)
        | (go_wp2_with (go_at_call 38; (with_reducible refine (HTO.out _ (FAt.below HRW.out (bel2 bw3.out hBx))).mono ?_); rintro e w3 ⟨rfl, hbm⟩); exact ⟨_, rfl, rfl, hBx.trans (hbm.mono hBx.size), hbm⟩)
  case done =>
    intro ys wx hBx hV
    obtain ⟨w4, hw4⟩ : ∃ wy, wy = wx := ⟨_, rfl⟩
    rw [← hw4] at hBx ⊢
    have bw4 := Lib.hid (bel2 bw3.out hBx)
    have zw4 := Lib.hid hBx.size
    have vw4r := Lib.hid (vw3r.out.below hBx vw3r.out.lt)
    have vw4s := Lib.hid (vw3s.out.below hBx vw3s.out.lt)
    have h7 : ys 7 = .string T := hV 9 (by decide)
    have h6 : ys 6 = .bool false := hV 10 (by decide)
    clear hBx hV hw4
    simp only [h7, h6, fill, List.drop_succ_cons, List.drop_zero, List.foldl_cons, List.foldl_nil, Act.put, List.setIfInBounds_toArray, List.set_cons_succ, List.set_cons_zero]
    clear hslf
    have vf29 := (show Var w4 (w2.heap.size) 61 [.int .u32 (vl s0), .int .u32 (vl s1), .int .u32 (vl s2), .int .u32 (vl s3), .int .u32 (vl s4), .int .u32 (vl s5)] from vw4s.out)
    have c30 := vf29.cell (j := 0) rfl
    have c31 := vf29.cell (j := 1) rfl
    have c32 := vf29.cell (j := 2) rfl
    have c33 := vf29.cell (j := 3) rfl
    have c34 := vf29.cell (j := 4) rfl
    have c35 := vf29.cell (j := 5) rfl
    clear vf29
    have vf36 := (show Var w4 (w.heap.size) 27 [.int .u32 0, .int .u32 0, .int .u32 0, .slice none 0 0] from vw4r.out)
    have c37 := vf36.cell (j := 0) rfl
    have c38 := vf36.cell (j := 1) rfl
    have c39 := vf36.cell (j := 2) rfl
    have c40 := vf36.cell (j := 3) rfl
    clear vf36
    have vf41 := (show Var w4 (w.heap.size) 27 [.int .u32 0, .int .u32 0, .int .u32 0, .slice none 0 0] from vw4r.out)
    have f42 := vf41.frozen 0
    have f43 := vf41.frozen 1
    have f44 := vf41.frozen 2
    have f45 := vf41.frozen 3
    clear vf41
    go_wp2
    have vf46 := (show Var ((((w4.setCell ⟨w.heap.size, 0, none⟩ (.int .u32 0)).setCell ⟨w.heap.size, 1, none⟩ (.int .u32 0)).setCell ⟨w.heap.size, 2, none⟩ (.int .u32 0)).setCell ⟨w.heap.size, 3, none⟩ (.slice none 0 0)) (w.heap.size) 27 [.int .u32 0, .int .u32 0, .int .u32 0, .slice none 0 0] from ((((vw4r.out.set 0 (.int .u32 0)).set 1 (.int .u32 0)).set 2 (.int .u32 0)).set 3 (.slice none 0 0)))
    have c47 := vf46.cell (j := 0) rfl
    have c48 := vf46.cell (j := 1) rfl
    have c49 := vf46.cell (j := 2) rfl
    have c50 := vf46.cell (j := 3) rfl
    clear vf46
    refine bodyPost_ret (v := .tuple #[.agg #[.int .u32 0, .int .u32 0, .int .u32 0, .slice none 0 0], .int .i64 2]) (by rw [results_cell_tmp rfl]; simp [go_sem, c47, c48, c49, c50]) rfl ?_
    exact ⟨_, rfl, Batch.WMine.nil _ _, ((((bw4.out.setCell (p := ⟨w.heap.size, 0, none⟩) (by have := zw1.out; have := zw2.out; have := zw3.out; have := zw4.out; simp only; omega) _).setCell (p := ⟨w.heap.size, 1, none⟩) (by have := zw1.out; have := zw2.out; have := zw3.out; have := zw4.out; simp only; omega) _).setCell (p := ⟨w.heap.size, 2, none⟩) (by have := zw1.out; have := zw2.out; have := zw3.out; have := zw4.out; simp only; omega) _).setCell (p := ⟨w.heap.size, 3, none⟩) (by have := zw1.out; have := zw2.out; have := zw3.out; have := zw4.out; simp only; omega) _)⟩
set_option maxRecDepth 100000 in
set_option maxHeartbeats 8000000 in
theorem join_3b (b off n cap : Nat) (w : World) (m : Nat) (hm1 : 1 ≤ m) (hmn : m < n) (hm : (n : Int) - 1 = (m : Int)) (hn : n ≤ 1000) (hcap : n ≤ cap) (kd : Int) (fa fb : W) (FB : ByteArray) (hcell : w.cell? ⟨b, off + m * 4, none⟩ = some (.int .i64 kd) ∧ w.cell? ⟨b, off + m * 4 + 1, none⟩ = some (.int .u32 (vl fa)) ∧ w.cell? ⟨b, off + m * 4 + 2, none⟩ = some (.int .u32 (vl fb)) ∧ w.cell? ⟨b, off + m * 4 + 3, none⟩ = some (.string FB)) (s0 s1 s2 s3 s4 s5 : W) (T : ByteArray) (hT : T.size ≤ 2000000000) (l : List Fr)
    (HSO : Hid (∀ w, Calls Tryd.prog 37 #[.agg #[.int .i64 kd, .int .u32 (vl fa), .int .u32 (vl fb), .string FB]] w fun e w' => e = .returned (.tuple #[.agg #[.int .u32 (vl s0), .int .u32 (vl s1), .int .u32 (vl s2), .int .u32 (vl s3), .int .u32 (vl s4), .int .u32 (vl s5)], .bool true]) ∧ Below w.heap.size w w'))
    (HTO : Hid (∀ w, FAt w (some ⟨b, off, none⟩) l → Calls Tryd.prog 38 #[.slice (some ⟨b, off, none⟩) m cap, .int .u32 (vl s0)] w fun e w' => e = .returned (.tuple #[.string T, .bool true]) ∧ Below w.heap.size w w'))
    (HRW : Hid (FAt w (some ⟨b, off, none⟩) l))
    (HIC : Hid (∀ w, Calls Tryd.prog 39 #[.int .u32 (vl s1), .int .i64 (m : Int)] w fun e w' => e = .returned (.bool false) ∧ w = w')) :
    Calls Tryd.prog 16 #[.slice (some ⟨b, off, none⟩) n cap] w (JoinSays (zeroGp, 2) w) := by
  have hlow : Below w.heap.size w (w.alloc (.cells #[.int .u32 0, .int .u32 0, .int .u32 0, .slice none 0 0] 27)) := Geom.bel_alloc _ _
  have k0 : (w.alloc (.cells #[.int .u32 0, .int .u32 0, .int .u32 0, .slice none 0 0] 27)).cell? ⟨b, off + m * 4, none⟩ = some (.int .i64 kd) := by rw [hlow.cell (p := ⟨b, off + m * 4, none⟩) (block_lt_of_cell hcell.1)]; exact hcell.1
  have k1 : (w.alloc (.cells #[.int .u32 0, .int .u32 0, .int .u32 0, .slice none 0 0] 27)).cell? ⟨b, off + m * 4 + 1, none⟩ = some (.int .u32 (vl fa)) := by rw [hlow.cell (p := ⟨b, off + m * 4 + 1, none⟩) (block_lt_of_cell hcell.2.1)]; exact hcell.2.1
  have k2 : (w.alloc (.cells #[.int .u32 0, .int .u32 0, .int .u32 0, .slice none 0 0] 27)).cell? ⟨b, off + m * 4 + 2, none⟩ = some (.int .u32 (vl fb)) := by rw [hlow.cell (p := ⟨b, off + m * 4 + 2, none⟩) (block_lt_of_cell hcell.2.2.1)]; exact hcell.2.2.1
  have k3 : (w.alloc (.cells #[.int .u32 0, .int .u32 0, .int .u32 0, .slice none 0 0] 27)).cell? ⟨b, off + m * 4 + 3, none⟩ = some (.string FB) := by rw [hlow.cell (p := ⟨b, off + m * 4 + 3, none⟩) (block_lt_of_cell hcell.2.2.2)]; exact hcell.2.2.2
  clear hlow hcell
  have d1 : decide ((n : Int) < 2) = false := by simp; omega
  have d2 : decide (n < 2) = false := by simp; omega
  go_enter Tryd.func16, Tryd.ntmps16
  go_wp2_with (first
    | (go_at_call 37; ((with_reducible refine (HSO.out _).mono ?_); rintro e w2 ⟨rfl, bz⟩; obtain ⟨w1, hw1⟩ : ∃ wx, wx = (w.alloc (.cells #[.int .u32 0, .int .u32 0, .int .u32 0, .slice none 0 0] 27)) := ⟨_, rfl⟩; have bw1 := Lib.hid (show Below w.heap.size w w1 by rw [hw1]; exact (Geom.bel_alloc _ _)); have zw1 := Lib.hid (show w.heap.size + 1 ≤ w1.heap.size by rw [hw1]; simp); have vw1r := Lib.hid (show Var w1 (w.heap.size) 27 [.int .u32 0, .int .u32 0, .int .u32 0, .slice none 0 0] by rw [hw1]; exact (Var.new w 27 [.int .u32 0, .int .u32 0, .int .u32 0, .slice none 0 0])); have hbel : Below w1.heap.size w1 w2 := (by rw [hw1]; exact bz); clear bz; have bw2 := Lib.hid (bel2 bw1.out hbel); have zw2 := Lib.hid hbel.size; have vw2r := Lib.hid (vw1r.out.below hbel vw1r.out.lt); clear hbel; clear k0 k1 k2 k3; have vf1 := (show Var w2 (w.heap.size) 27 [.int .u32 0, .int .u32 0, .int .u32 0, .slice none 0 0] from vw2r.out); have c2 := vf1.cell (j := 0) rfl; have c3 := vf1.cell (j := 1) rfl; have c4 := vf1.cell (j := 2) rfl; have c5 := vf1.cell (j := 3) rfl; clear vf1; have vf6 := (show Var w2 (w.heap.size) 27 [.int .u32 0, .int .u32 0, .int .u32 0, .slice none 0 0] from vw2r.out); have f7 := vf6.frozen 0; have f8 := vf6.frozen 1; have f9 := vf6.frozen 2; have f10 := vf6.frozen 3; clear vf6; have vf11 := (show Var (w2.alloc (.cells #[.int .u32 (vl s0), .int .u32 (vl s1), .int .u32 (vl s2), .int .u32 (vl s3), .int .u32 (vl s4), .int .u32 (vl s5)] 61)) (w.heap.size) 27 [.int .u32 0, .int .u32 0, .int .u32 0, .slice none 0 0] from (vw2r.out.alloc _)); have c12 := vf11.cell (j := 0) rfl; have c13 := vf11.cell (j := 1) rfl; have c14 := vf11.cell (j := 2) rfl; have c15 := vf11.cell (j := 3) rfl; clear vf11; have vf16 := (show Var (w2.alloc (.cells #[.int .u32 (vl s0), .int .u32 (vl s1), .int .u32 (vl s2), .int .u32 (vl s3), .int .u32 (vl s4), .int .u32 (vl s5)] 61)) (w2.heap.size) 61 [.int .u32 (vl s0), .int .u32 (vl s1), .int .u32 (vl s2), .int .u32 (vl s3), .int .u32 (vl s4), .int .u32 (vl s5)] from (Var.new w2 61 [.int .u32 (vl s0), .int .u32 (vl s1), .int .u32 (vl s2), .int .u32 (vl s3), .int .u32 (vl s4), .int .u32 (vl s5)])); have c17 := vf16.cell (j := 0) rfl; have c18 := vf16.cell (j := 1) rfl; have c19 := vf16.cell (j := 2) rfl; have c20 := vf16.cell (j := 3) rfl; have c21 := vf16.cell (j := 4) rfl; have c22 := vf16.cell (j := 5) rfl; clear vf16; have vf23 := (show Var (w2.alloc (.cells #[.int .u32 (vl s0), .int .u32 (vl s1), .int .u32 (vl s2), .int .u32 (vl s3), .int .u32 (vl s4), .int .u32 (vl s5)] 61)) (w.heap.size) 27 [.int .u32 0, .int .u32 0, .int .u32 0, .slice none 0 0] from (vw2r.out.alloc _)); have f24 := vf23.frozen 0; have f25 := vf23.frozen 1; have f26 := vf23.frozen 2; have f27 := vf23.frozen 3; clear vf23)))
  have hslf := fun w => sliceF_h (some ⟨b, off, none⟩) n cap m (by omega) (m : Int) rfl w
  obtain ⟨w3, hw3⟩ : ∃ wx, wx = (w2.alloc (.cells #[.int .u32 (vl s0), .int .u32 (vl s1), .int .u32 (vl s2), .int .u32 (vl s3), .int .u32 (vl s4), .int .u32 (vl s5)] 61)) := ⟨_, rfl⟩
  have bw3 := Lib.hid (show Below w.heap.size w w3 by rw [hw3]; exact (bel2 bw2.out (Geom.bel_alloc _ _)))
  have zw3 := Lib.hid (show w2.heap.size + 1 ≤ w3.heap.size by rw [hw3]; simp)
  have vw3r := Lib.hid (show Var w3 (w.heap.size) 27 [.int .u32 0, .int .u32 0, .int .u32 0, .slice none 0 0] by rw [hw3]; exact (vw2r.out.alloc _))
  have vw3s := Lib.hid (show Var w3 (w2.heap.size) 61 [.int .u32 (vl s0), .int .u32 (vl s1), .int .u32 (vl s2), .int .u32 (vl s3), .int .u32 (vl s4), .int .u32 (vl s5)] by rw [hw3]; exact (Var.new w2 61 [.int .u32 (vl s0), .int .u32 (vl s1), .int .u32 (vl s2), .int .u32 (vl s3), .int .u32 (vl s4), .int .u32 (vl s5)]))
  rw [← hw3]
  clear c2 c3 c4 c5 f7 f8 f9 f10 c12 c13 c14 c15 c17 c18 c19 c20 c21 c22 f24 f25 f26 f27
  refine wp_region_is [29, 30, 31, 32, 33, 34, 28, 35, 36, 7, 6] (fun w' => Below w3.heap.size w3 w')
    [.slice (some ⟨b, off, none⟩) n cap, .int .i64 (m : Int), .slice (some ⟨b, off, none⟩) m cap, .pointer (some ⟨w2.heap.size, 0, none⟩), .int .u32 (vl s0), .tuple #[.string T, .bool true], .tuple #[.string T, .bool true], .string T, .bool true, .string T, .bool true] (by kernel_rfl) (by kernel_rfl) rfl (by decide) (by simp) (Below.refl _ _).drew ?each ?done
  case each =>
    simp only [Each]
    repeat' (first | exact trivial | refine And.intro ?_ ?_)
    all_goals
      intro ys wx hBx hdeps
      simp only [Deps, Region.binds, List.getD_cons_zero, List.getD_cons_succ, forall_const, and_true] at hdeps
      have q28 := (vw3s.out.below hBx vw3s.out.lt).cell (j := 0) rfl
      simp only [hdeps, fill, List.foldl_cons, List.foldl_nil, Act.put, List.setIfInBounds_toArray, List.set_cons_succ, List.set_cons_zero]
      first
        | (go_wp2_with fail; exact ⟨_, rfl, rfl, hBx, Below.refl _ _⟩)
        | (go_wp2_with (go_at_call 38; (with_reducible refine (HTO.out _ (FAt.below HRW.out (bel2 bw3.out hBx))).mono ?_); rintro e w3 ⟨rfl, hbm⟩); exact ⟨_, rfl, rfl, hBx.trans (hbm.mono hBx.size), hbm⟩)
  case done =>
    intro ys wx hBx hV
    obtain ⟨w4, hw4⟩ : ∃ wy, wy = wx := ⟨_, rfl⟩
    rw [← hw4] at hBx ⊢
    have bw4 := Lib.hid (bel2 bw3.out hBx)
    have zw4 := Lib.hid hBx.size
    have vw4r := Lib.hid (vw3r.out.below hBx vw3r.out.lt)
    have vw4s := Lib.hid (vw3s.out.below hBx vw3s.out.lt)
    have h7 : ys 7 = .string T := hV 9 (by decide)
    have h6 : ys 6 = .bool true := hV 10 (by decide)
    clear hBx hV hw4
    simp only [h7, h6, fill, List.drop_succ_cons, List.drop_zero, List.foldl_cons, List.foldl_nil, Act.put, List.setIfInBounds_toArray, List.set_cons_succ, List.set_cons_zero]
    clear hslf
    have vf29 := (show Var w4 (w2.heap.size) 61 [.int .u32 (vl s0), .int .u32 (vl s1), .int .u32 (vl s2), .int .u32 (vl s3), .int .u32 (vl s4), .int .u32 (vl s5)] from vw4s.out)
    have c30 := vf29.cell (j := 0) rfl
    have c31 := vf29.cell (j := 1) rfl
    have c32 := vf29.cell (j := 2) rfl
    have c33 := vf29.cell (j := 3) rfl
    have c34 := vf29.cell (j := 4) rfl
    have c35 := vf29.cell (j := 5) rfl
    clear vf29
    have vf36 := (show Var w4 (w.heap.size) 27 [.int .u32 0, .int .u32 0, .int .u32 0, .slice none 0 0] from vw4r.out)
    have c37 := vf36.cell (j := 0) rfl
    have c38 := vf36.cell (j := 1) rfl
    have c39 := vf36.cell (j := 2) rfl
    have c40 := vf36.cell (j := 3) rfl
    clear vf36
    have vf41 := (show Var w4 (w.heap.size) 27 [.int .u32 0, .int .u32 0, .int .u32 0, .slice none 0 0] from vw4r.out)
    have f42 := vf41.frozen 0
    have f43 := vf41.frozen 1
    have f44 := vf41.frozen 2
    have f45 := vf41.frozen 3
    clear vf41
    go_wp2_with (go_at_call 39; (with_reducible refine (HIC.out _).mono ?_); rintro e wsame ⟨rfl, rfl⟩)
    have vf46 := (show Var ((((w4.setCell ⟨w.heap.size, 0, none⟩ (.int .u32 0)).setCell ⟨w.heap.size, 1, none⟩ (.int .u32 0)).setCell ⟨w.heap.size, 2, none⟩ (.int .u32 0)).setCell ⟨w.heap.size, 3, none⟩ (.slice none 0 0)) (w.heap.size) 27 [.int .u32 0, .int .u32 0, .int .u32 0, .slice none 0 0] from ((((vw4r.out.set 0 (.int .u32 0)).set 1 (.int .u32 0)).set 2 (.int .u32 0)).set 3 (.slice none 0 0)))
    have c47 := vf46.cell (j := 0) rfl
    have c48 := vf46.cell (j := 1) rfl
    have c49 := vf46.cell (j := 2) rfl
    have c50 := vf46.cell (j := 3) rfl
    clear vf46
    refine bodyPost_ret (v := .tuple #[.agg #[.int .u32 0, .int .u32 0, .int .u32 0, .slice none 0 0], .int .i64 2]) (by rw [results_cell_tmp rfl]; simp [go_sem, c47, c48, c49, c50]) rfl ?_
    exact ⟨_, rfl, Batch.WMine.nil _ _, ((((bw4.out.setCell (p := ⟨w.heap.size, 0, none⟩) (by have := zw1.out; have := zw2.out; have := zw3.out; have := zw4.out; simp only; omega) _).setCell (p := ⟨w.heap.size, 1, none⟩) (by have := zw1.out; have := zw2.out; have := zw3.out; have := zw4.out; simp only; omega) _).setCell (p := ⟨w.heap.size, 2, none⟩) (by have := zw1.out; have := zw2.out; have := zw3.out; have := zw4.out; simp only; omega) _).setCell (p := ⟨w.heap.size, 3, none⟩) (by have := zw1.out; have := zw2.out; have := zw3.out; have := zw4.out; simp only; omega) _)⟩
end Go.Proofs.YtligapgjdpdihaaDoor.Group
