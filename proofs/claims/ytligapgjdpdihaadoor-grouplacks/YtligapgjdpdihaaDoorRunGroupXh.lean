/-
  Joined texts: GroupXh, GroupXi.
-/
import Derived.Test.YtligapgjdpdihaaDoorGroupXb
import Derived.Test.YtligapgjdpdihaaDoorRunBatchXb
import Derived.Test.YtligapgjdpdihaaDoorCrcB
import Derived.Test.YtligapgjdpdihaaDoorGroupXf
import Derived.Test.YtligapgjdpdihaaDoorGroupXg
/-
  What package group's Join answers (5, 6).
-/
set_option linter.unusedVariables false
set_option linter.unusedSimpArgs false
namespace Go.Proofs.YtligapgjdpdihaaDoor.Group
open Go.RowKit
open CrcM (W)
open Crc (le4 sumOf vl wd putS)
open Flash (bs bs_size bs_list list_bs cut)
open Go.Proofs.YtligapgjdpdihaaDoor.Frame (Fr zeroF fV fC bel2 below_drewN)
open Piece (pieceR isSeqB ofF ofF_ok ofF_not pcOf pcV Pc of_any asPart_any asSeal_any asPartV asSealV isPartP isSealP sealV partV)
open Tup Bytes Own
open Batch (Wr WAt WMine Tb readW)
open Go.Proofs.YtligapgjdpdihaaDoor.Region (fill Then Deps Each wp_region_is wp_region_is_tail wp_region_each wp_region_tail)
set_option maxRecDepth 100000 in
set_option maxHeartbeats 8000000 in
theorem join_5 (b off n cap : Nat) (w : World) (m : Nat) (hm1 : 1 ≤ m) (hmn : m < n) (hm : (n : Int) - 1 = (m : Int)) (hn : n ≤ 1000) (hcap : n ≤ cap) (kd : Int) (fa fb : W) (FB : ByteArray) (hcell : w.cell? ⟨b, off + m * 4, none⟩ = some (.int .i64 kd) ∧ w.cell? ⟨b, off + m * 4 + 1, none⟩ = some (.int .u32 (vl fa)) ∧ w.cell? ⟨b, off + m * 4 + 2, none⟩ = some (.int .u32 (vl fb)) ∧ w.cell? ⟨b, off + m * 4 + 3, none⟩ = some (.string FB)) (s0 s1 s2 s3 s4 s5 : W) (T : ByteArray) (hT : T.size ≤ 2000000000) (l : List Fr) (sm : Int) (qs : (vl s4 == sm) = true) (qs2 : (vl s4 != sm) = false) (WR : List Wr) (c : Nat) (qc : ((c : Int) == 0) = false) (qc2 : ((c : Int) != 0) = true)
    (HSO : Hid (∀ w, Calls Tryd.prog 37 #[.agg #[.int .i64 kd, .int .u32 (vl fa), .int .u32 (vl fb), .string FB]] w fun e w' => e = .returned (.tuple #[.agg #[.int .u32 (vl s0), .int .u32 (vl s1), .int .u32 (vl s2), .int .u32 (vl s3), .int .u32 (vl s4), .int .u32 (vl s5)], .bool true]) ∧ Below w.heap.size w w'))
    (HTO : Hid (∀ w, FAt w (some ⟨b, off, none⟩) l → Calls Tryd.prog 38 #[.slice (some ⟨b, off, none⟩) m cap, .int .u32 (vl s0)] w fun e w' => e = .returned (.tuple #[.string T, .bool true]) ∧ Below w.heap.size w w'))
    (HRW : Hid (FAt w (some ⟨b, off, none⟩) l))
    (HIC : Hid (∀ w, Calls Tryd.prog 39 #[.int .u32 (vl s1), .int .i64 (m : Int)] w fun e w' => e = .returned (.bool true) ∧ w = w'))
    (HSZ : Hid (∀ w, Calls Tryd.prog 39 #[.int .u32 (vl s5), .int .i64 (T.size : Int)] w fun e w' => e = .returned (.bool true) ∧ w = w'))
    (HS : Hid (∀ (b cap : Nat) (w : World), w.cell? ⟨b, 0, none⟩ = some (.string T) → Calls Tryd.prog 40 #[.slice (some ⟨b, 0, none⟩) 1 cap] w fun e w' => e = .returned (.int .u32 sm) ∧ w = w'))
    (HRD : Hid (∀ w, Tb w → Calls Tryd.prog 41 #[.string T] w fun e w' => ∃ va vc, e = .returned (.tuple #[.slice va WR.length vc, .int .i64 (c : Int)]) ∧ WMine w' w.heap.size (.slice va WR.length vc) WR ∧ Below w.heap.size w w'))
    (HTB : Hid (Tb w)) :
    Calls Tryd.prog 16 #[.slice (some ⟨b, off, none⟩) n cap] w (JoinSays (zeroGp, c) w) := by
  have hlow : Below w.heap.size w (w.alloc (.cells #[.int .u32 0, .int .u32 0, .int .u32 0, .slice none 0 0] 27)) := Geom.bel_alloc _ _
  have k0 : (w.alloc (.cells #[.int .u32 0, .int .u32 0, .int .u32 0, .slice none 0 0] 27)).cell? ⟨b, off + m * 4, none⟩ = some (.int .i64 kd) := by rw [hlow.cell (p := ⟨b, off + m * 4, none⟩) (block_lt_of_cell hcell.1)]; exact hcell.1
  have k1 : (w.alloc (.cells #[.int .u32 0, .int .u32 0, .int .u32 0, .slice none 0 0] 27)).cell? ⟨b, off + m * 4 + 1, none⟩ = some (.int .u32 (vl fa)) := by rw [hlow.cell (p := ⟨b, off + m * 4 + 1, none⟩) (block_lt_of_cell hcell.2.1)]; exact hcell.2.1
  have k2 : (w.alloc (.cells #[.int .u32 0, .int .u32 0, .int .u32 0, .slice none 0 0] 27)).cell? ⟨b, off + m * 4 + 2, none⟩ = some (.int .u32 (vl fb)) := by rw [hlow.cell (p := ⟨b, off + m * 4 + 2, none⟩) (block_lt_of_cell hcell.2.2.1)]; exact hcell.2.2.1
  have k3 : (w.alloc (.cells #[.int .u32 0, .int .u32 0, .int .u32 0, .slice none 0 0] 27)).cell? ⟨b, off + m * 4 + 3, none⟩ = some (.string FB) := by rw [hlow.cell (p := ⟨b, off + m * 4 + 3, none⟩) (block_lt_of_cell hcell.2.2.2)]; exact hcell.2.2.2
  clear hlow hcell
  have d1 : decide ((n : Int) < 2) = false := by simp; omega
  have d2 : decide (n < 2) = false := by simp; omega
  go_enter Tryd.func16, Tryd.ntmps16
  go_wp2_with (first
    | (go_at_call 37; ((with_reducible refine (HSO.out _).mono ?_); rintro e w2 ⟨rfl, bz⟩; obtain ⟨w1, hw1⟩ : ∃ wx, wx = (w.alloc (.cells #[.int .u32 0, .int .u32 0, .int .u32 0, .slice none 0 0] 27)) := ⟨_, rfl⟩; have bw1 := Lib.hid (show Below w.heap.size w w1 by rw [hw1]; exact (Geom.bel_alloc _ _)); have zw1 := Lib.hid (show w.heap.size + 1 ≤ w1.heap.size by rw [hw1]; simp); have vw1r := Lib.hid (show Var w1 (w.heap.size) 27 [.int .u32 0, .int .u32 0, .int .u32 0, .slice none 0 0] by rw [hw1]; exact (Var.new w 27 [.int .u32 0, .int .u32 0, .int .u32 0, .slice none 0 0])); have hbel : Below w1.heap.size w1 w2 := (by rw [hw1]; exact bz); clear bz; have bw2 := Lib.hid (bel2 bw1.out hbel); have zw2 := Lib.hid hbel.size; have vw2r := Lib.hid (vw1r.out.below hbel vw1r.out.lt); clear hbel; clear k0 k1 k2 k3; have vf1 := (show Var w2 (w.heap.size) 27 [.int .u32 0, .int .u32 0, .int .u32 0, .slice none 0 0] from vw2r.out); have c2 := vf1.cell (j := 0) rfl; have c3 := vf1.cell (j := 1) rfl; have c4 := vf1.cell (j := 2) rfl; have c5 := vf1.cell (j := 3) rfl; clear vf1; have vf6 := (show Var w2 (w.heap.size) 27 [.int .u32 0, .int .u32 0, .int .u32 0, .slice none 0 0] from vw2r.out); have f7 := vf6.frozen 0; have f8 := vf6.frozen 1; have f9 := vf6.frozen 2; have f10 := vf6.frozen 3; clear vf6; have vf11 := (show Var (w2.alloc (.cells #[.int .u32 (vl s0), .int .u32 (vl s1), .int .u32 (vl s2), .int .u32 (vl s3), .int .u32 (vl s4), .int .u32 (vl s5)] 61)) (w.heap.size) 27 [.int .u32 0, .int .u32 0, .int .u32 0, .slice none 0 0] from (vw2r.out.alloc _)); have c12 := vf11.cell (j := 0) rfl; have c13 := vf11.cell (j := 1) rfl; have c14 := vf11.cell (j := 2) rfl; have c15 := vf11.cell (j := 3) rfl; clear vf11; have vf16 := (show Var (w2.alloc (.cells #[.int .u32 (vl s0), .int .u32 (vl s1), .int .u32 (vl s2), .int .u32 (vl s3), .int .u32 (vl s4), .int .u32 (vl s5)] 61)) (w2.heap.size) 61 [.int .u32 (vl s0), .int .u32 (vl s1), .int .u32 (vl s2), .int .u32 (vl s3), .int .u32 (vl s4), .int .u32 (vl s5)] from (Var.new w2 61 [.int .u32 (vl s0), .int .u32 (vl s1), .int .u32 (vl s2), .int .u32 (vl s3), .int .u32 (vl s4), .int .u32 (vl s5)])); have c17 := vf16.cell (j := 0) rfl; have c18 := vf16.cell (j := 1) rfl; have c19 := vf16.cell (j := 2) rfl; have c20 := vf16.cell (j := 3) rfl; have c21 := vf16.cell (j := 4) rfl; have c22 := vf16.cell (j := 5) rfl; clear vf16; have vf23 := (show Var (w2.alloc (.cells #[.int .u32 (vl s0), .int .u32 (vl s1), .int .u32 (vl s2), .int .u32 (vl s3), .int .u32 (vl s4), .int .u32 (vl s5)] 61)) (w.heap.size) 27 [.int .u32 0, .int .u32 0, .int .u32 0, .slice none 0 0] from (vw2r.out.alloc _)); have f24 := vf23.frozen 0; have f25 := vf23.frozen 1; have f26 := vf23.frozen 2; have f27 := vf23.frozen 3; clear vf23)))
  have hslf := fun w => sliceF_h (some ⟨b, off, none⟩) n cap m (by omega) (m : Int) rfl w
  obtain ⟨w3, hw3⟩ : ∃ wx, wx = (w2.alloc (.cells #[.int .u32 (vl s0), .int .u32 (vl s1), .int .u32 (vl s2), .int .u32 (vl s3), .int .u32 (vl s4), .int .u32 (vl s5)] 61)) := ⟨_, rfl⟩
  have bw3 := Lib.hid (show Below w.heap.size w w3 by rw [hw3]; exact (bel2 bw2.out (Geom.bel_alloc _ _)))
  have zw3 := Lib.hid (show w2.heap.size + 1 ≤ w3.heap.size by rw [hw3]; simp)
  have vw3r := Lib.hid (show Var w3 (w.heap.size) 27 [.int .u32 0, .int .u32 0, .int .u32 0, .slice none 0 0] by rw [hw3]; exact (vw2r.out.alloc _))
  have vw3s := Lib.hid (show Var w3 (w2.heap.size) 61 [.int .u32 (vl s0), .int .u32 (vl s1), .int .u32 (vl s2), .int .u32 (vl s3), .int .u32 (vl s4), .int .u32 (vl s5)] by rw [hw3]; exact (Var.new w2 61 [.int .u32 (vl s0), .int .u32 (vl s1), .int .u32 (vl s2), .int .u32 (vl s3), .int .u32 (vl s4), .int .u32 (vl s5)]))
  rw [← hw3]
  clear c2 c3 c4 c5 f7 f8 f9 f10 c12 c13 c14 c15 c17 c18 c19 c20 c21 c22 f24 f25 f26 f27
  refine wp_region_is [29, 30, 31, 32, 33, 34, 28, 35, 36, 7, 6] (fun w' => Below w3.heap.size w3 w')
    [.slice (some ⟨b, off, none⟩) n cap, .int .i64 (m : Int), .slice (some ⟨b, off, none⟩) m cap, .pointer (some ⟨w2.heap.size, 0, none⟩), .int .u32 (vl s0), .tuple #[.string T, .bool true], .tuple #[.string T, .bool true], .string T, .bool true, .string T, .bool true] (by kernel_rfl) (by kernel_rfl) rfl (by decide) (by simp) (Below.refl _ _).drew ?each ?done
  case each =>
    simp only [Each]
    repeat' (first | exact trivial | refine And.intro ?_ ?_)
    all_goals
      intro ys wx hBx hdeps
      simp only [Deps, Region.binds, List.getD_cons_zero, List.getD_cons_succ, forall_const, and_true] at hdeps
      have q28 := (vw3s.out.below hBx vw3s.out.lt).cell (j := 0) rfl
      simp only [hdeps, fill, List.foldl_cons, List.foldl_nil, Act.put, List.setIfInBounds_toArray, List.set_cons_succ, List.set_cons_zero]
      first
        | (go_wp2_with fail; exact ⟨_, rfl, rfl, hBx, Below.refl _ _⟩)
        | (go_wp2_with (go_at_call 38; (with_reducible refine (HTO.out _ (FAt.below HRW.out (bel2 bw3.out hBx))).mono ?_); rintro e w3 ⟨rfl, hbm⟩); exact ⟨_, rfl, rfl, hBx.trans (hbm.mono hBx.size), hbm⟩)
  case done =>
    intro ys wx hBx hV
    obtain ⟨w4, hw4⟩ : ∃ wy, wy = wx := ⟨_, rfl⟩
    rw [← hw4] at hBx ⊢
    have bw4 := Lib.hid (bel2 bw3.out hBx)
    have zw4 := Lib.hid hBx.size
    have vw4r := Lib.hid (vw3r.out.below hBx vw3r.out.lt)
    have vw4s := Lib.hid (vw3s.out.below hBx vw3s.out.lt)
    have h7 : ys 7 = .string T := hV 9 (by decide)
    have h6 : ys 6 = .bool true := hV 10 (by decide)
    clear hBx hV hw4
    simp only [h7, h6, fill, List.drop_succ_cons, List.drop_zero, List.foldl_cons, List.foldl_nil, Act.put, List.setIfInBounds_toArray, List.set_cons_succ, List.set_cons_zero]
    clear hslf
    have vf29 := (show Var w4 (w2.heap.size) 61 [.int .u32 (vl s0), .int .u32 (vl s1), .int .u32 (vl s2), .int .u32 (vl s3), .int .u32 (vl s4), .int .u32 (vl s5)] from vw4s.out)
    have c30 := vf29.cell (j := 0) rfl
    have c31 := vf29.cell (j := 1) rfl
    have c32 := vf29.cell (j := 2) rfl
    have c33 := vf29.cell (j := 3) rfl
    have c34 := vf29.cell (j := 4) rfl
    have c35 := vf29.cell (j := 5) rfl
    clear vf29
    have vf36 := (show Var w4 (w.heap.size) 27 [.int .u32 0, .int .u32 0, .int .u32 0, .slice none 0 0] from vw4r.out)
    have c37 := vf36.cell (j := 0) rfl
    have c38 := vf36.cell (j := 1) rfl
    have c39 := vf36.cell (j := 2) rfl
    have c40 := vf36.cell (j := 3) rfl
    clear vf36
    have vf41 := (show Var w4 (w.heap.size) 27 [.int .u32 0, .int .u32 0, .int .u32 0, .slice none 0 0] from vw4r.out)
    have f42 := vf41.frozen 0
    have f43 := vf41.frozen 1
    have f44 := vf41.frozen 2
    have f45 := vf41.frozen 3
    clear vf41
    go_wp2_with (go_at_call 39; (with_reducible refine (HIC.out _).mono ?_); rintro e wsame ⟨rfl, rfl⟩)
    clear c30 c31 c32 c33 c34 c35 c37 c38 c39 c40 f42 f43 f44 f45
    refine wp_region_tail 14 [49, 50, 51, 52, 53, 54, 55, 56, 57, 58, 59, 60, 61, 62] (fun w' => Below w4.heap.size w4 w') (VT [.pointer (some ⟨w2.heap.size, 5, none⟩), .int .u32 (vl s5), .string T, .int .i64 (T.size : Int), .bool true, .bool false, .bool false, .pointer (some ⟨w2.heap.size, 4, none⟩), .int .u32 (vl s4), .string T, undef, .int .u32 sm, .bool false, .bool false] [(10, oneSp [.string T])]) (by kernel_rfl) (by kernel_rfl) (by kernel_rfl) (by decide) rfl (by decide) (by simp) (VT.mono _ _) (Below.refl _ _).drew ?each ?done
    case each =>
      simp only [List.take_succ_cons, List.take_zero, Each]
      refine ⟨?o0, ?o1, ?o2, ?o3, ?o4, ?o5, ?o6, ?o7, ?o8, ?o9, ?o10, ?o11, ?o12, ?o13, trivial⟩
      case o0 =>
        intro ys wx hBx hdeps
        clear hdeps
        simp only [fill, List.foldl_cons, List.foldl_nil, Act.put, List.setIfInBounds_toArray, List.set_cons_succ, List.set_cons_zero]
        go_wp2_with fail
        exact ⟨_, rfl, rfl, hBx, Below.refl _ _⟩
      case o1 =>
        intro ys wx hBx hdeps
        simp only [Deps, Region.binds, List.getD_cons_zero, List.getD_cons_succ, forall_const, and_true, true_and] at hdeps
        have y0 : ys 49 = .pointer (some ⟨w2.heap.size, 5, none⟩) := by first | exact hdeps | exact hdeps.1 | exact hdeps.2.1 | exact hdeps.2 | exact hdeps.2.2
        clear hdeps
        have q46 := (vw4s.out.below hBx vw4s.out.lt).cell (j := 5) rfl
        simp only [y0, fill, List.foldl_cons, List.foldl_nil, Act.put, List.setIfInBounds_toArray, List.set_cons_succ, List.set_cons_zero]
        go_wp2_with fail
        exact ⟨_, rfl, rfl, hBx, Below.refl _ _⟩
      case o2 =>
        intro ys wx hBx hdeps
        clear hdeps
        simp only [fill, List.foldl_cons, List.foldl_nil, Act.put, List.setIfInBounds_toArray, List.set_cons_succ, List.set_cons_zero]
        go_wp2_with fail
        exact ⟨_, rfl, rfl, hBx, Below.refl _ _⟩
      case o3 =>
        intro ys wx hBx hdeps
        simp only [Deps, Region.binds, List.getD_cons_zero, List.getD_cons_succ, forall_const, and_true, true_and] at hdeps
        have y2 : ys 51 = .string T := by first | exact hdeps | exact hdeps.1 | exact hdeps.2.1 | exact hdeps.2 | exact hdeps.2.2
        clear hdeps
        simp only [y2, fill, List.foldl_cons, List.foldl_nil, Act.put, List.setIfInBounds_toArray, List.set_cons_succ, List.set_cons_zero]
        go_wp2_with fail
        exact ⟨_, rfl, rfl, hBx, Below.refl _ _⟩
      case o4 =>
        intro ys wx hBx hdeps
        simp only [Deps, Region.binds, List.getD_cons_zero, List.getD_cons_succ, forall_const, and_true, true_and] at hdeps
        have y1 : ys 50 = .int .u32 (vl s5) := by first | exact hdeps.1 | exact hdeps.2.1 | exact hdeps.2.2.1 | exact hdeps.2 | exact hdeps.2.2 | exact hdeps.2.2.2
        have y3 : ys 52 = .int .i64 (T.size : Int) := by first | exact hdeps.1 | exact hdeps.2.1 | exact hdeps.2.2.1 | exact hdeps.2 | exact hdeps.2.2 | exact hdeps.2.2.2
        clear hdeps
        simp only [y1, y3, fill, List.foldl_cons, List.foldl_nil, Act.put, List.setIfInBounds_toArray, List.set_cons_succ, List.set_cons_zero]
        go_wp2_with (go_at_call 39; (with_reducible refine (HSZ.out _).mono ?_); rintro e w3 ⟨rfl, rfl⟩)
        exact ⟨_, rfl, rfl, hBx, Below.refl _ _⟩
      case o5 =>
        intro ys wx hBx hdeps
        simp only [Deps, Region.binds, List.getD_cons_zero, List.getD_cons_succ, forall_const, and_true, true_and] at hdeps
        have y4 : ys 53 = .bool true := by first | exact hdeps | exact hdeps.1 | exact hdeps.2.1 | exact hdeps.2 | exact hdeps.2.2
        clear hdeps
        simp only [y4, fill, List.foldl_cons, List.foldl_nil, Act.put, List.setIfInBounds_toArray, List.set_cons_succ, List.set_cons_zero]
        go_wp2_with fail
        exact ⟨_, rfl, rfl, hBx, Below.refl _ _⟩
      case o6 =>
        intro ys wx hBx hdeps
        simp only [Deps, Region.binds, List.getD_cons_zero, List.getD_cons_succ, forall_const, and_true, true_and] at hdeps
        have y5 : ys 54 = .bool false := by first | exact hdeps | exact hdeps.1 | exact hdeps.2.1 | exact hdeps.2 | exact hdeps.2.2
        clear hdeps
        simp only [y5, fill, List.foldl_cons, List.foldl_nil, Act.put, List.setIfInBounds_toArray, List.set_cons_succ, List.set_cons_zero]
        go_wp2_with fail
        exact ⟨_, rfl, rfl, hBx, Below.refl _ _⟩
      case o7 =>
        intro ys wx hBx hdeps
        simp only [Deps, Region.binds, List.getD_cons_zero, List.getD_cons_succ, forall_const, and_true, true_and] at hdeps
        have y6 : ys 55 = .bool false := by first | exact hdeps | exact hdeps.1 | exact hdeps.2.1 | exact hdeps.2 | exact hdeps.2.2
        clear hdeps
        simp only [y6, fill, List.foldl_cons, List.foldl_nil, Act.put, List.setIfInBounds_toArray, List.set_cons_succ, List.set_cons_zero]
        go_wp2_with fail
        exact ⟨_, rfl, rfl, hBx, Below.refl _ _⟩
      case o8 =>
        intro ys wx hBx hdeps
        simp only [Deps, Region.binds, List.getD_cons_zero, List.getD_cons_succ, forall_const, and_true, true_and] at hdeps
        have y6 : ys 55 = .bool false := by first | exact hdeps.1 | exact hdeps.2.1 | exact hdeps.2.2.1 | exact hdeps.2 | exact hdeps.2.2 | exact hdeps.2.2.2
        have y7 : ys 56 = .pointer (some ⟨w2.heap.size, 4, none⟩) := by first | exact hdeps.1 | exact hdeps.2.1 | exact hdeps.2.2.1 | exact hdeps.2 | exact hdeps.2.2 | exact hdeps.2.2.2
        clear hdeps
        have q47 := (vw4s.out.below hBx vw4s.out.lt).cell (j := 4) rfl
        simp only [y6, y7, fill, List.foldl_cons, List.foldl_nil, Act.put, List.setIfInBounds_toArray, List.set_cons_succ, List.set_cons_zero]
        go_wp2_with fail
        exact ⟨_, rfl, rfl, hBx, Below.refl _ _⟩
      case o9 =>
        intro ys wx hBx hdeps
        simp only [Deps, Region.binds, List.getD_cons_zero, List.getD_cons_succ, forall_const, and_true, true_and] at hdeps
        have y6 : ys 55 = .bool false := by first | exact hdeps | exact hdeps.1 | exact hdeps.2.1 | exact hdeps.2 | exact hdeps.2.2
        clear hdeps
        simp only [y6, fill, List.foldl_cons, List.foldl_nil, Act.put, List.setIfInBounds_toArray, List.set_cons_succ, List.set_cons_zero]
        go_wp2_with fail
        exact ⟨_, rfl, rfl, hBx, Below.refl _ _⟩
      case o10 =>
        intro ys wx hBx hdeps
        simp only [Deps, Region.binds, List.getD_cons_zero, List.getD_cons_succ, forall_const, and_true, true_and] at hdeps
        have y6 : ys 55 = .bool false := by first | exact hdeps.1 | exact hdeps.2.1 | exact hdeps.2.2.1 | exact hdeps.2 | exact hdeps.2.2 | exact hdeps.2.2.2
        have y9 : ys 58 = .string T := by first | exact hdeps.1 | exact hdeps.2.1 | exact hdeps.2.2.1 | exact hdeps.2 | exact hdeps.2.2 | exact hdeps.2.2.2
        clear hdeps
        simp only [y6, y9, fill, List.foldl_cons, List.foldl_nil, Act.put, List.setIfInBounds_toArray, List.set_cons_succ, List.set_cons_zero]
        go_wp2_with fail
        exact ⟨_, rfl, ⟨_, rfl, lies_new wx [.string T] 9⟩, hBx.alloc hBx.size _, (Below.refl _ _).alloc (Nat.le_refl _) _⟩
      case o11 =>
        intro ys wx hBx hdeps
        simp only [Deps, Region.binds, List.getD_cons_zero, List.getD_cons_succ, forall_const, and_true, true_and] at hdeps
        have y6 : ys 55 = .bool false := by first | exact hdeps.1 | exact hdeps.2.1 | exact hdeps.2.2.1 | exact hdeps.2 | exact hdeps.2.2 | exact hdeps.2.2.2
        have z10 : ∃ g, ys 59 = .slice (some ⟨g, 0, none⟩) 1 1 ∧ Lies wx g 0 [.string T] := by first | exact hdeps.1 | exact hdeps.2.1 | exact hdeps.2.2.1 | exact hdeps.2 | exact hdeps.2.2 | exact hdeps.2.2.2
        with_reducible refine Exists.elim z10 ?_
        intro g10 hh
        have y10 := hh.1
        have r10 := hh.2
        clear hh z10
        clear hdeps
        simp only [y6, y10, fill, List.foldl_cons, List.foldl_nil, Act.put, List.setIfInBounds_toArray, List.set_cons_succ, List.set_cons_zero]
        have hcs : wx.cell? ⟨g10, 0, none⟩ = some (.string T) := r10 0 _ rfl
        go_wp2_with (go_at_call 40; (with_reducible refine (HS.out _ _ _ hcs).mono ?_); rintro e w3 ⟨rfl, rfl⟩)
        exact ⟨_, rfl, rfl, hBx, Below.refl _ _⟩
      case o12 =>
        intro ys wx hBx hdeps
        simp only [Deps, Region.binds, List.getD_cons_zero, List.getD_cons_succ, forall_const, and_true, true_and] at hdeps
        have y6 : ys 55 = .bool false := by first | exact hdeps.1 | exact hdeps.2.1 | exact hdeps.2.2.1 | exact hdeps.2.2.2.1 | exact hdeps.2 | exact hdeps.2.2 | exact hdeps.2.2.2 | exact hdeps.2.2.2.2
        have y8 : ys 57 = .int .u32 (vl s4) := by first | exact hdeps.1 | exact hdeps.2.1 | exact hdeps.2.2.1 | exact hdeps.2.2.2.1 | exact hdeps.2 | exact hdeps.2.2 | exact hdeps.2.2.2 | exact hdeps.2.2.2.2
        have y11 : ys 60 = .int .u32 sm := by first | exact hdeps.1 | exact hdeps.2.1 | exact hdeps.2.2.1 | exact hdeps.2.2.2.1 | exact hdeps.2 | exact hdeps.2.2 | exact hdeps.2.2.2 | exact hdeps.2.2.2.2
        clear hdeps
        simp only [y6, y8, y11, fill, List.foldl_cons, List.foldl_nil, Act.put, List.setIfInBounds_toArray, List.set_cons_succ, List.set_cons_zero]
        go_wp2_with fail
        exact ⟨_, rfl, rfl, hBx, Below.refl _ _⟩
      case o13 =>
        intro ys wx hBx hdeps
        simp only [Deps, Region.binds, List.getD_cons_zero, List.getD_cons_succ, forall_const, and_true, true_and] at hdeps
        have y6 : ys 55 = .bool false := by first | exact hdeps.1 | exact hdeps.2.1 | exact hdeps.2.2.1 | exact hdeps.2 | exact hdeps.2.2 | exact hdeps.2.2.2
        have y12 : ys 61 = .bool false := by first | exact hdeps.1 | exact hdeps.2.1 | exact hdeps.2.2.1 | exact hdeps.2 | exact hdeps.2.2 | exact hdeps.2.2.2
        clear hdeps
        simp only [y6, y12, fill, List.foldl_cons, List.foldl_nil, Act.put, List.setIfInBounds_toArray, List.set_cons_succ, List.set_cons_zero]
        go_wp2_with fail
        exact ⟨_, rfl, rfl, hBx, Below.refl _ _⟩
    case done =>
      intro ys w5 hBx hV
      have bw5 := Lib.hid (bel2 bw4.out hBx)
      have zw5 := Lib.hid hBx.size
      have vw5r := Lib.hid (vw4r.out.below hBx vw4r.out.lt)
      have vw5s := Lib.hid (vw4s.out.below hBx vw4s.out.lt)
      have h62 : ys 62 = .bool false := hV 13 (by decide)
      clear hBx hV
      simp only [h62, fill, List.drop_succ_cons, List.drop_zero, List.foldl_cons, List.foldl_nil, Act.put, List.setIfInBounds_toArray, List.set_cons_succ, List.set_cons_zero]
      have vf48 := (show Var w5 (w2.heap.size) 61 [.int .u32 (vl s0), .int .u32 (vl s1), .int .u32 (vl s2), .int .u32 (vl s3), .int .u32 (vl s4), .int .u32 (vl s5)] from vw5s.out)
      have c49 := vf48.cell (j := 0) rfl
      have c50 := vf48.cell (j := 1) rfl
      have c51 := vf48.cell (j := 2) rfl
      have c52 := vf48.cell (j := 3) rfl
      have c53 := vf48.cell (j := 4) rfl
      have c54 := vf48.cell (j := 5) rfl
      clear vf48
      have vf55 := (show Var w5 (w.heap.size) 27 [.int .u32 0, .int .u32 0, .int .u32 0, .slice none 0 0] from vw5r.out)
      have c56 := vf55.cell (j := 0) rfl
      have c57 := vf55.cell (j := 1) rfl
      have c58 := vf55.cell (j := 2) rfl
      have c59 := vf55.cell (j := 3) rfl
      clear vf55
      have vf60 := (show Var w5 (w.heap.size) 27 [.int .u32 0, .int .u32 0, .int .u32 0, .slice none 0 0] from vw5r.out)
      have f61 := vf60.frozen 0
      have f62 := vf60.frozen 1
      have f63 := vf60.frozen 2
      have f64 := vf60.frozen 3
      clear vf60
      go_wp2_with (first
    | (go_at_call 41; ((with_reducible refine (HRD.out _ (Batch.Tb.below HTB.out bw5.out)).mono ?_); rintro e w6 ⟨va, vc, rfl, hown, bz⟩; have hbel : Below w5.heap.size w5 w6 := (by exact bz); clear bz; have bw6 := Lib.hid (bel2 bw5.out hbel); have zw6 := Lib.hid hbel.size; have vw6r := Lib.hid (vw5r.out.below hbel vw5r.out.lt); have vw6s := Lib.hid (vw5s.out.below hbel vw5s.out.lt); clear hbel; clear c49 c50 c51 c52 c53 c54 c56 c57 c58 c59 f61 f62 f63 f64; have HOW := Lib.hid (wmine_base hown (b' := w.heap.size + 1) (by have := bw5.out.size; have := zw1.out; have := zw2.out; have := zw3.out; have := zw4.out; have := zw5.out; omega)); clear hown; have vf65 := (show Var w6 (w2.heap.size) 61 [.int .u32 (vl s0), .int .u32 (vl s1), .int .u32 (vl s2), .int .u32 (vl s3), .int .u32 (vl s4), .int .u32 (vl s5)] from vw6s.out); have c66 := vf65.cell (j := 0) rfl; have c67 := vf65.cell (j := 1) rfl; have c68 := vf65.cell (j := 2) rfl; have c69 := vf65.cell (j := 3) rfl; have c70 := vf65.cell (j := 4) rfl; have c71 := vf65.cell (j := 5) rfl; clear vf65; have vf72 := (show Var w6 (w.heap.size) 27 [.int .u32 0, .int .u32 0, .int .u32 0, .slice none 0 0] from vw6r.out); have c73 := vf72.cell (j := 0) rfl; have c74 := vf72.cell (j := 1) rfl; have c75 := vf72.cell (j := 2) rfl; have c76 := vf72.cell (j := 3) rfl; clear vf72; have vf77 := (show Var w6 (w.heap.size) 27 [.int .u32 0, .int .u32 0, .int .u32 0, .slice none 0 0] from vw6r.out); have f78 := vf77.frozen 0; have f79 := vf77.frozen 1; have f80 := vf77.frozen 2; have f81 := vf77.frozen 3; clear vf77)))
      have vf82 := (show Var ((((w6.setCell ⟨w.heap.size, 0, none⟩ (.int .u32 0)).setCell ⟨w.heap.size, 1, none⟩ (.int .u32 0)).setCell ⟨w.heap.size, 2, none⟩ (.int .u32 0)).setCell ⟨w.heap.size, 3, none⟩ (.slice none 0 0)) (w.heap.size) 27 [.int .u32 0, .int .u32 0, .int .u32 0, .slice none 0 0] from ((((vw6r.out.set 0 (.int .u32 0)).set 1 (.int .u32 0)).set 2 (.int .u32 0)).set 3 (.slice none 0 0)))
      have c83 := vf82.cell (j := 0) rfl
      have c84 := vf82.cell (j := 1) rfl
      have c85 := vf82.cell (j := 2) rfl
      have c86 := vf82.cell (j := 3) rfl
      clear vf82
      refine bodyPost_ret (v := .tuple #[.agg #[.int .u32 0, .int .u32 0, .int .u32 0, .slice none 0 0], .int .i64 (c : Int)]) (by rw [results_cell_tmp rfl]; simp [go_sem, c83, c84, c85, c86]) rfl ?_
      exact ⟨_, rfl, Batch.WMine.nil _ _, ((((bw6.out.setCell (p := ⟨w.heap.size, 0, none⟩) (by have := zw1.out; have := zw2.out; have := zw3.out; have := zw4.out; have := zw5.out; have := zw6.out; simp only; omega) _).setCell (p := ⟨w.heap.size, 1, none⟩) (by have := zw1.out; have := zw2.out; have := zw3.out; have := zw4.out; have := zw5.out; have := zw6.out; simp only; omega) _).setCell (p := ⟨w.heap.size, 2, none⟩) (by have := zw1.out; have := zw2.out; have := zw3.out; have := zw4.out; have := zw5.out; have := zw6.out; simp only; omega) _).setCell (p := ⟨w.heap.size, 3, none⟩) (by have := zw1.out; have := zw2.out; have := zw3.out; have := zw4.out; have := zw5.out; have := zw6.out; simp only; omega) _)⟩
set_option maxRecDepth 100000 in
set_option maxHeartbeats 8000000 in
theorem join_6 (b off n cap : Nat) (w : World) (m : Nat) (hm1 : 1 ≤ m) (hmn : m < n) (hm : (n : Int) - 1 = (m : Int)) (hn : n ≤ 1000) (hcap : n ≤ cap) (kd : Int) (fa fb : W) (FB : ByteArray) (hcell : w.cell? ⟨b, off + m * 4, none⟩ = some (.int .i64 kd) ∧ w.cell? ⟨b, off + m * 4 + 1, none⟩ = some (.int .u32 (vl fa)) ∧ w.cell? ⟨b, off + m * 4 + 2, none⟩ = some (.int .u32 (vl fb)) ∧ w.cell? ⟨b, off + m * 4 + 3, none⟩ = some (.string FB)) (s0 s1 s2 s3 s4 s5 : W) (T : ByteArray) (hT : T.size ≤ 2000000000) (l : List Fr) (sm : Int) (qs : (vl s4 == sm) = true) (qs2 : (vl s4 != sm) = false) (WR : List Wr)
    (HSO : Hid (∀ w, Calls Tryd.prog 37 #[.agg #[.int .i64 kd, .int .u32 (vl fa), .int .u32 (vl fb), .string FB]] w fun e w' => e = .returned (.tuple #[.agg #[.int .u32 (vl s0), .int .u32 (vl s1), .int .u32 (vl s2), .int .u32 (vl s3), .int .u32 (vl s4), .int .u32 (vl s5)], .bool true]) ∧ Below w.heap.size w w'))
    (HTO : Hid (∀ w, FAt w (some ⟨b, off, none⟩) l → Calls Tryd.prog 38 #[.slice (some ⟨b, off, none⟩) m cap, .int .u32 (vl s0)] w fun e w' => e = .returned (.tuple #[.string T, .bool true]) ∧ Below w.heap.size w w'))
    (HRW : Hid (FAt w (some ⟨b, off, none⟩) l))
    (HIC : Hid (∀ w, Calls Tryd.prog 39 #[.int .u32 (vl s1), .int .i64 (m : Int)] w fun e w' => e = .returned (.bool true) ∧ w = w'))
    (HSZ : Hid (∀ w, Calls Tryd.prog 39 #[.int .u32 (vl s5), .int .i64 (T.size : Int)] w fun e w' => e = .returned (.bool true) ∧ w = w'))
    (HS : Hid (∀ (b cap : Nat) (w : World), w.cell? ⟨b, 0, none⟩ = some (.string T) → Calls Tryd.prog 40 #[.slice (some ⟨b, 0, none⟩) 1 cap] w fun e w' => e = .returned (.int .u32 sm) ∧ w = w'))
    (HRD : Hid (∀ w, Tb w → Calls Tryd.prog 41 #[.string T] w fun e w' => ∃ va vc, e = .returned (.tuple #[.slice va WR.length vc, .int .i64 0]) ∧ WMine w' w.heap.size (.slice va WR.length vc) WR ∧ Below w.heap.size w w'))
    (HTB : Hid (Tb w)) :
    Calls Tryd.prog 16 #[.slice (some ⟨b, off, none⟩) n cap] w (JoinSays (⟨s0, s2, s3, WR⟩, 0) w) := by
  have hlow : Below w.heap.size w (w.alloc (.cells #[.int .u32 0, .int .u32 0, .int .u32 0, .slice none 0 0] 27)) := Geom.bel_alloc _ _
  have k0 : (w.alloc (.cells #[.int .u32 0, .int .u32 0, .int .u32 0, .slice none 0 0] 27)).cell? ⟨b, off + m * 4, none⟩ = some (.int .i64 kd) := by rw [hlow.cell (p := ⟨b, off + m * 4, none⟩) (block_lt_of_cell hcell.1)]; exact hcell.1
  have k1 : (w.alloc (.cells #[.int .u32 0, .int .u32 0, .int .u32 0, .slice none 0 0] 27)).cell? ⟨b, off + m * 4 + 1, none⟩ = some (.int .u32 (vl fa)) := by rw [hlow.cell (p := ⟨b, off + m * 4 + 1, none⟩) (block_lt_of_cell hcell.2.1)]; exact hcell.2.1
  have k2 : (w.alloc (.cells #[.int .u32 0, .int .u32 0, .int .u32 0, .slice none 0 0] 27)).cell? ⟨b, off + m * 4 + 2, none⟩ = some (.int .u32 (vl fb)) := by rw [hlow.cell (p := ⟨b, off + m * 4 + 2, none⟩) (block_lt_of_cell hcell.2.2.1)]; exact hcell.2.2.1
  have k3 : (w.alloc (.cells #[.int .u32 0, .int .u32 0, .int .u32 0, .slice none 0 0] 27)).cell? ⟨b, off + m * 4 + 3, none⟩ = some (.string FB) := by rw [hlow.cell (p := ⟨b, off + m * 4 + 3, none⟩) (block_lt_of_cell hcell.2.2.2)]; exact hcell.2.2.2
  clear hlow hcell
  have d1 : decide ((n : Int) < 2) = false := by simp; omega
  have d2 : decide (n < 2) = false := by simp; omega
  go_enter Tryd.func16, Tryd.ntmps16
  go_wp2_with (first
    | (go_at_call 37; ((with_reducible refine (HSO.out _).mono ?_); rintro e w2 ⟨rfl, bz⟩; obtain ⟨w1, hw1⟩ : ∃ wx, wx = (w.alloc (.cells #[.int .u32 0, .int .u32 0, .int .u32 0, .slice none 0 0] 27)) := ⟨_, rfl⟩; have bw1 := Lib.hid (show Below w.heap.size w w1 by rw [hw1]; exact (Geom.bel_alloc _ _)); have zw1 := Lib.hid (show w.heap.size + 1 ≤ w1.heap.size by rw [hw1]; simp); have vw1r := Lib.hid (show Var w1 (w.heap.size) 27 [.int .u32 0, .int .u32 0, .int .u32 0, .slice none 0 0] by rw [hw1]; exact (Var.new w 27 [.int .u32 0, .int .u32 0, .int .u32 0, .slice none 0 0])); have hbel : Below w1.heap.size w1 w2 := (by rw [hw1]; exact bz); clear bz; have bw2 := Lib.hid (bel2 bw1.out hbel); have zw2 := Lib.hid hbel.size; have vw2r := Lib.hid (vw1r.out.below hbel vw1r.out.lt); clear hbel; clear k0 k1 k2 k3; have vf1 := (show Var w2 (w.heap.size) 27 [.int .u32 0, .int .u32 0, .int .u32 0, .slice none 0 0] from vw2r.out); have c2 := vf1.cell (j := 0) rfl; have c3 := vf1.cell (j := 1) rfl; have c4 := vf1.cell (j := 2) rfl; have c5 := vf1.cell (j := 3) rfl; clear vf1; have vf6 := (show Var w2 (w.heap.size) 27 [.int .u32 0, .int .u32 0, .int .u32 0, .slice none 0 0] from vw2r.out); have f7 := vf6.frozen 0; have f8 := vf6.frozen 1; have f9 := vf6.frozen 2; have f10 := vf6.frozen 3; clear vf6; have vf11 := (show Var (w2.alloc (.cells #[.int .u32 (vl s0), .int .u32 (vl s1), .int .u32 (vl s2), .int .u32 (vl s3), .int .u32 (vl s4), .int .u32 (vl s5)] 61)) (w.heap.size) 27 [.int .u32 0, .int .u32 0, .int .u32 0, .slice none 0 0] from (vw2r.out.alloc _)); have c12 := vf11.cell (j := 0) rfl; have c13 := vf11.cell (j := 1) rfl; have c14 := vf11.cell (j := 2) rfl; have c15 := vf11.cell (j := 3) rfl; clear vf11; have vf16 := (show Var (w2.alloc (.cells #[.int .u32 (vl s0), .int .u32 (vl s1), .int .u32 (vl s2), .int .u32 (vl s3), .int .u32 (vl s4), .int .u32 (vl s5)] 61)) (w2.heap.size) 61 [.int .u32 (vl s0), .int .u32 (vl s1), .int .u32 (vl s2), .int .u32 (vl s3), .int .u32 (vl s4), .int .u32 (vl s5)] from (Var.new w2 61 [.int .u32 (vl s0), .int .u32 (vl s1), .int .u32 (vl s2), .int .u32 (vl s3), .int .u32 (vl s4), .int .u32 (vl s5)])); have c17 := vf16.cell (j := 0) rfl; have c18 := vf16.cell (j := 1) rfl; have c19 := vf16.cell (j := 2) rfl; have c20 := vf16.cell (j := 3) rfl; have c21 := vf16.cell (j := 4) rfl; have c22 := vf16.cell (j := 5) rfl; clear vf16; have vf23 := (show Var (w2.alloc (.cells #[.int .u32 (vl s0), .int .u32 (vl s1), .int .u32 (vl s2), .int .u32 (vl s3), .int .u32 (vl s4), .int .u32 (vl s5)] 61)) (w.heap.size) 27 [.int .u32 0, .int .u32 0, .int .u32 0, .slice none 0 0] from (vw2r.out.alloc _)); have f24 := vf23.frozen 0; have f25 := vf23.frozen 1; have f26 := vf23.frozen 2; have f27 := vf23.frozen 3; clear vf23)))
  have hslf := fun w => sliceF_h (some ⟨b, off, none⟩) n cap m (by omega) (m : Int) rfl w
  obtain ⟨w3, hw3⟩ : ∃ wx, wx = (w2.alloc (.cells #[.int .u32 (vl s0), .int .u32 (vl s1), .int .u32 (vl s2), .int .u32 (vl s3), .int .u32 (vl s4), .int .u32 (vl s5)] 61)) := ⟨_, rfl⟩
  have bw3 := Lib.hid (show Below w.heap.size w w3 by rw [hw3]; exact (bel2 bw2.out (Geom.bel_alloc _ _)))
  have zw3 := Lib.hid (show w2.heap.size + 1 ≤ w3.heap.size by rw [hw3]; simp)
  have vw3r := Lib.hid (show Var w3 (w.heap.size) 27 [.int .u32 0, .int .u32 0, .int .u32 0, .slice none 0 0] by rw [hw3]; exact (vw2r.out.alloc _))
  have vw3s := Lib.hid (show Var w3 (w2.heap.size) 61 [.int .u32 (vl s0), .int .u32 (vl s1), .int .u32 (vl s2), .int .u32 (vl s3), .int .u32 (vl s4), .int .u32 (vl s5)] by rw [hw3]; exact (Var.new w2 61 [.int .u32 (vl s0), .int .u32 (vl s1), .int .u32 (vl s2), .int .u32 (vl s3), .int .u32 (vl s4), .int .u32 (vl s5)]))
  rw [← hw3]
  clear c2 c3 c4 c5 f7 f8 f9 f10 c12 c13 c14 c15 c17 c18 c19 c20 c21 c22 f24 f25 f26 f27
  refine wp_region_is [29, 30, 31, 32, 33, 34, 28, 35, 36, 7, 6] (fun w' => Below w3.heap.size w3 w')
    [.slice (some ⟨b, off, none⟩) n cap, .int .i64 (m : Int), .slice (some ⟨b, off, none⟩) m cap, .pointer (some ⟨w2.heap.size, 0, none⟩), .int .u32 (vl s0), .tuple #[.string T, .bool true], .tuple #[.string T, .bool true], .string T, .bool true, .string T, .bool true] (by kernel_rfl) (by kernel_rfl) rfl (by decide) (by simp) (Below.refl _ _).drew ?each ?done
  case each =>
    simp only [Each]
    repeat' (first | exact trivial | refine And.intro ?_ ?_)
    all_goals
      intro ys wx hBx hdeps
      simp only [Deps, Region.binds, List.getD_cons_zero, List.getD_cons_succ, forall_const, and_true] at hdeps
      have q28 := (vw3s.out.below hBx vw3s.out.lt).cell (j := 0) rfl
      simp only [hdeps, fill, List.foldl_cons, List.foldl_nil, Act.put, List.setIfInBounds_toArray, List.set_cons_succ, List.set_cons_zero]
      first
        | (go_wp2_with fail; exact ⟨_, rfl, rfl, hBx, Below.refl _ _⟩)
        | (go_wp2_with (go_at_call 38; (with_reducible refine (HTO.out _ (FAt.below HRW.out (bel2 bw3.out hBx))).mono ?_); rintro e w3 ⟨rfl, hbm⟩); exact ⟨_, rfl, rfl, hBx.trans (hbm.mono hBx.size), hbm⟩)
  case done =>
    intro ys wx hBx hV
    obtain ⟨w4, hw4⟩ : ∃ wy, wy = wx := ⟨_, rfl⟩
    rw [← hw4] at hBx ⊢
    have bw4 := Lib.hid (bel2 bw3.out hBx)
    have zw4 := Lib.hid hBx.size
    have vw4r := Lib.hid (vw3r.out.below hBx vw3r.out.lt)
    have vw4s := Lib.hid (vw3s.out.below hBx vw3s.out.lt)
    have h7 : ys 7 = .string T := hV 9 (by decide)
    have h6 : ys 6 = .bool true := hV 10 (by decide)
    clear hBx hV hw4
    simp only [h7, h6, fill, List.drop_succ_cons, List.drop_zero, List.foldl_cons, List.foldl_nil, Act.put, List.setIfInBounds_toArray, List.set_cons_succ, List.set_cons_zero]
    clear hslf
    have vf29 := (show Var w4 (w2.heap.size) 61 [.int .u32 (vl s0), .int .u32 (vl s1), .int .u32 (vl s2), .int .u32 (vl s3), .int .u32 (vl s4), .int .u32 (vl s5)] from vw4s.out)
    have c30 := vf29.cell (j := 0) rfl
    have c31 := vf29.cell (j := 1) rfl
    have c32 := vf29.cell (j := 2) rfl
    have c33 := vf29.cell (j := 3) rfl
    have c34 := vf29.cell (j := 4) rfl
    have c35 := vf29.cell (j := 5) rfl
    clear vf29
    have vf36 := (show Var w4 (w.heap.size) 27 [.int .u32 0, .int .u32 0, .int .u32 0, .slice none 0 0] from vw4r.out)
    have c37 := vf36.cell (j := 0) rfl
    have c38 := vf36.cell (j := 1) rfl
    have c39 := vf36.cell (j := 2) rfl
    have c40 := vf36.cell (j := 3) rfl
    clear vf36
    have vf41 := (show Var w4 (w.heap.size) 27 [.int .u32 0, .int .u32 0, .int .u32 0, .slice none 0 0] from vw4r.out)
    have f42 := vf41.frozen 0
    have f43 := vf41.frozen 1
    have f44 := vf41.frozen 2
    have f45 := vf41.frozen 3
    clear vf41
    go_wp2_with (go_at_call 39; (with_reducible refine (HIC.out _).mono ?_); rintro e wsame ⟨rfl, rfl⟩)
    clear c30 c31 c32 c33 c34 c35 c37 c38 c39 c40 f42 f43 f44 f45
    refine wp_region_tail 14 [49, 50, 51, 52, 53, 54, 55, 56, 57, 58, 59, 60, 61, 62] (fun w' => Below w4.heap.size w4 w') (VT [.pointer (some ⟨w2.heap.size, 5, none⟩), .int .u32 (vl s5), .string T, .int .i64 (T.size : Int), .bool true, .bool false, .bool false, .pointer (some ⟨w2.heap.size, 4, none⟩), .int .u32 (vl s4), .string T, undef, .int .u32 sm, .bool false, .bool false] [(10, oneSp [.string T])]) (by kernel_rfl) (by kernel_rfl) (by kernel_rfl) (by decide) rfl (by decide) (by simp) (VT.mono _ _) (Below.refl _ _).drew ?each ?done
    case each =>
      simp only [List.take_succ_cons, List.take_zero, Each]
      refine ⟨?o0, ?o1, ?o2, ?o3, ?o4, ?o5, ?o6, ?o7, ?o8, ?o9, ?o10, ?o11, ?o12, ?o13, trivial⟩
      case o0 =>
        intro ys wx hBx hdeps
        clear hdeps
        simp only [fill, List.foldl_cons, List.foldl_nil, Act.put, List.setIfInBounds_toArray, List.set_cons_succ, List.set_cons_zero]
        go_wp2_with fail
        exact ⟨_, rfl, rfl, hBx, Below.refl _ _⟩
      case o1 =>
        intro ys wx hBx hdeps
        simp only [Deps, Region.binds, List.getD_cons_zero, List.getD_cons_succ, forall_const, and_true, true_and] at hdeps
        have y0 : ys 49 = .pointer (some ⟨w2.heap.size, 5, none⟩) := by first | exact hdeps | exact hdeps.1 | exact hdeps.2.1 | exact hdeps.2 | exact hdeps.2.2
        clear hdeps
        have q46 := (vw4s.out.below hBx vw4s.out.lt).cell (j := 5) rfl
        simp only [y0, fill, List.foldl_cons, List.foldl_nil, Act.put, List.setIfInBounds_toArray, List.set_cons_succ, List.set_cons_zero]
        go_wp2_with fail
        exact ⟨_, rfl, rfl, hBx, Below.refl _ _⟩
      case o2 =>
        intro ys wx hBx hdeps
        clear hdeps
        simp only [fill, List.foldl_cons, List.foldl_nil, Act.put, List.setIfInBounds_toArray, List.set_cons_succ, List.set_cons_zero]
        go_wp2_with fail
        exact ⟨_, rfl, rfl, hBx, Below.refl _ _⟩
      case o3 =>
        intro ys wx hBx hdeps
        simp only [Deps, Region.binds, List.getD_cons_zero, List.getD_cons_succ, forall_const, and_true, true_and] at hdeps
        have y2 : ys 51 = .string T := by first | exact hdeps | exact hdeps.1 | exact hdeps.2.1 | exact hdeps.2 | exact hdeps.2.2
        clear hdeps
        simp only [y2, fill, List.foldl_cons, List.foldl_nil, Act.put, List.setIfInBounds_toArray, List.set_cons_succ, List.set_cons_zero]
        go_wp2_with fail
        exact ⟨_, rfl, rfl, hBx, Below.refl _ _⟩
      case o4 =>
        intro ys wx hBx hdeps
        simp only [Deps, Region.binds, List.getD_cons_zero, List.getD_cons_succ, forall_const, and_true, true_and] at hdeps
        have y1 : ys 50 = .int .u32 (vl s5) := by first | exact hdeps.1 | exact hdeps.2.1 | exact hdeps.2.2.1 | exact hdeps.2 | exact hdeps.2.2 | exact hdeps.2.2.2
        have y3 : ys 52 = .int .i64 (T.size : Int) := by first | exact hdeps.1 | exact hdeps.2.1 | exact hdeps.2.2.1 | exact hdeps.2 | exact hdeps.2.2 | exact hdeps.2.2.2
        clear hdeps
        simp only [y1, y3, fill, List.foldl_cons, List.foldl_nil, Act.put, List.setIfInBounds_toArray, List.set_cons_succ, List.set_cons_zero]
        go_wp2_with (go_at_call 39; (with_reducible refine (HSZ.out _).mono ?_); rintro e w3 ⟨rfl, rfl⟩)
        exact ⟨_, rfl, rfl, hBx, Below.refl _ _⟩
      case o5 =>
        intro ys wx hBx hdeps
        simp only [Deps, Region.binds, List.getD_cons_zero, List.getD_cons_succ, forall_const, and_true, true_and] at hdeps
        have y4 : ys 53 = .bool true := by first | exact hdeps | exact hdeps.1 | exact hdeps.2.1 | exact hdeps.2 | exact hdeps.2.2
        clear hdeps
        simp only [y4, fill, List.foldl_cons, List.foldl_nil, Act.put, List.setIfInBounds_toArray, List.set_cons_succ, List.set_cons_zero]
        go_wp2_with fail
        exact ⟨_, rfl, rfl, hBx, Below.refl _ _⟩
      case o6 =>
        intro ys wx hBx hdeps
        simp only [Deps, Region.binds, List.getD_cons_zero, List.getD_cons_succ, forall_const, and_true, true_and] at hdeps
        have y5 : ys 54 = .bool false := by first | exact hdeps | exact hdeps.1 | exact hdeps.2.1 | exact hdeps.2 | exact hdeps.2.2
        clear hdeps
        simp only [y5, fill, List.foldl_cons, List.foldl_nil, Act.put, List.setIfInBounds_toArray, List.set_cons_succ, List.set_cons_zero]
        go_wp2_with fail
        exact ⟨_, rfl, rfl, hBx, Below.refl _ _⟩
      case o7 =>
        intro ys wx hBx hdeps
        simp only [Deps, Region.binds, List.getD_cons_zero, List.getD_cons_succ, forall_const, and_true, true_and] at hdeps
        have y6 : ys 55 = .bool false := by first | exact hdeps | exact hdeps.1 | exact hdeps.2.1 | exact hdeps.2 | exact hdeps.2.2
        clear hdeps
        simp only [y6, fill, List.foldl_cons, List.foldl_nil, Act.put, List.setIfInBounds_toArray, List.set_cons_succ, List.set_cons_zero]
        go_wp2_with fail
        exact ⟨_, rfl, rfl, hBx, Below.refl _ _⟩
      case o8 =>
        intro ys wx hBx hdeps
        simp only [Deps, Region.binds, List.getD_cons_zero, List.getD_cons_succ, forall_const, and_true, true_and] at hdeps
        have y6 : ys 55 = .bool false := by first | exact hdeps.1 | exact hdeps.2.1 | exact hdeps.2.2.1 | exact hdeps.2 | exact hdeps.2.2 | exact hdeps.2.2.2
        have y7 : ys 56 = .pointer (some ⟨w2.heap.size, 4, none⟩) := by first | exact hdeps.1 | exact hdeps.2.1 | exact hdeps.2.2.1 | exact hdeps.2 | exact hdeps.2.2 | exact hdeps.2.2.2
        clear hdeps
        have q47 := (vw4s.out.below hBx vw4s.out.lt).cell (j := 4) rfl
        simp only [y6, y7, fill, List.foldl_cons, List.foldl_nil, Act.put, List.setIfInBounds_toArray, List.set_cons_succ, List.set_cons_zero]
        go_wp2_with fail
        exact ⟨_, rfl, rfl, hBx, Below.refl _ _⟩
      case o9 =>
        intro ys wx hBx hdeps
        simp only [Deps, Region.binds, List.getD_cons_zero, List.getD_cons_succ, forall_const, and_true, true_and] at hdeps
        have y6 : ys 55 = .bool false := by first | exact hdeps | exact hdeps.1 | exact hdeps.2.1 | exact hdeps.2 | exact hdeps.2.2
        clear hdeps
        simp only [y6, fill, List.foldl_cons, List.foldl_nil, Act.put, List.setIfInBounds_toArray, List.set_cons_succ, List.set_cons_zero]
        go_wp2_with fail
        exact ⟨_, rfl, rfl, hBx, Below.refl _ _⟩
      case o10 =>
        intro ys wx hBx hdeps
        simp only [Deps, Region.binds, List.getD_cons_zero, List.getD_cons_succ, forall_const, and_true, true_and] at hdeps
        have y6 : ys 55 = .bool false := by first | exact hdeps.1 | exact hdeps.2.1 | exact hdeps.2.2.1 | exact hdeps.2 | exact hdeps.2.2 | exact hdeps.2.2.2
        have y9 : ys 58 = .string T := by first | exact hdeps.1 | exact hdeps.2.1 | exact hdeps.2.2.1 | exact hdeps.2 | exact hdeps.2.2 | exact hdeps.2.2.2
        clear hdeps
        simp only [y6, y9, fill, List.foldl_cons, List.foldl_nil, Act.put, List.setIfInBounds_toArray, List.set_cons_succ, List.set_cons_zero]
        go_wp2_with fail
        exact ⟨_, rfl, ⟨_, rfl, lies_new wx [.string T] 9⟩, hBx.alloc hBx.size _, (Below.refl _ _).alloc (Nat.le_refl _) _⟩
      case o11 =>
        intro ys wx hBx hdeps
        simp only [Deps, Region.binds, List.getD_cons_zero, List.getD_cons_succ, forall_const, and_true, true_and] at hdeps
        have y6 : ys 55 = .bool false := by first | exact hdeps.1 | exact hdeps.2.1 | exact hdeps.2.2.1 | exact hdeps.2 | exact hdeps.2.2 | exact hdeps.2.2.2
        have z10 : ∃ g, ys 59 = .slice (some ⟨g, 0, none⟩) 1 1 ∧ Lies wx g 0 [.string T] := by first | exact hdeps.1 | exact hdeps.2.1 | exact hdeps.2.2.1 | exact hdeps.2 | exact hdeps.2.2 | exact hdeps.2.2.2
        with_reducible refine Exists.elim z10 ?_
        intro g10 hh
        have y10 := hh.1
        have r10 := hh.2
        clear hh z10
        clear hdeps
        simp only [y6, y10, fill, List.foldl_cons, List.foldl_nil, Act.put, List.setIfInBounds_toArray, List.set_cons_succ, List.set_cons_zero]
        have hcs : wx.cell? ⟨g10, 0, none⟩ = some (.string T) := r10 0 _ rfl
        go_wp2_with (go_at_call 40; (with_reducible refine (HS.out _ _ _ hcs).mono ?_); rintro e w3 ⟨rfl, rfl⟩)
        exact ⟨_, rfl, rfl, hBx, Below.refl _ _⟩
      case o12 =>
        intro ys wx hBx hdeps
        simp only [Deps, Region.binds, List.getD_cons_zero, List.getD_cons_succ, forall_const, and_true, true_and] at hdeps
        have y6 : ys 55 = .bool false := by first | exact hdeps.1 | exact hdeps.2.1 | exact hdeps.2.2.1 | exact hdeps.2.2.2.1 | exact hdeps.2 | exact hdeps.2.2 | exact hdeps.2.2.2 | exact hdeps.2.2.2.2
        have y8 : ys 57 = .int .u32 (vl s4) := by first | exact hdeps.1 | exact hdeps.2.1 | exact hdeps.2.2.1 | exact hdeps.2.2.2.1 | exact hdeps.2 | exact hdeps.2.2 | exact hdeps.2.2.2 | exact hdeps.2.2.2.2
        have y11 : ys 60 = .int .u32 sm := by first | exact hdeps.1 | exact hdeps.2.1 | exact hdeps.2.2.1 | exact hdeps.2.2.2.1 | exact hdeps.2 | exact hdeps.2.2 | exact hdeps.2.2.2 | exact hdeps.2.2.2.2
        clear hdeps
        simp only [y6, y8, y11, fill, List.foldl_cons, List.foldl_nil, Act.put, List.setIfInBounds_toArray, List.set_cons_succ, List.set_cons_zero]
        go_wp2_with fail
        exact ⟨_, rfl, rfl, hBx, Below.refl _ _⟩
      case o13 =>
        intro ys wx hBx hdeps
        simp only [Deps, Region.binds, List.getD_cons_zero, List.getD_cons_succ, forall_const, and_true, true_and] at hdeps
        have y6 : ys 55 = .bool false := by first | exact hdeps.1 | exact hdeps.2.1 | exact hdeps.2.2.1 | exact hdeps.2 | exact hdeps.2.2 | exact hdeps.2.2.2
        have y12 : ys 61 = .bool false := by first | exact hdeps.1 | exact hdeps.2.1 | exact hdeps.2.2.1 | exact hdeps.2 | exact hdeps.2.2 | exact hdeps.2.2.2
        clear hdeps
        simp only [y6, y12, fill, List.foldl_cons, List.foldl_nil, Act.put, List.setIfInBounds_toArray, List.set_cons_succ, List.set_cons_zero]
        go_wp2_with fail
        exact ⟨_, rfl, rfl, hBx, Below.refl _ _⟩
    case done =>
      intro ys w5 hBx hV
      have bw5 := Lib.hid (bel2 bw4.out hBx)
      have zw5 := Lib.hid hBx.size
      have vw5r := Lib.hid (vw4r.out.below hBx vw4r.out.lt)
      have vw5s := Lib.hid (vw4s.out.below hBx vw4s.out.lt)
      have h62 : ys 62 = .bool false := hV 13 (by decide)
      clear hBx hV
      simp only [h62, fill, List.drop_succ_cons, List.drop_zero, List.foldl_cons, List.foldl_nil, Act.put, List.setIfInBounds_toArray, List.set_cons_succ, List.set_cons_zero]
      have vf48 := (show Var w5 (w2.heap.size) 61 [.int .u32 (vl s0), .int .u32 (vl s1), .int .u32 (vl s2), .int .u32 (vl s3), .int .u32 (vl s4), .int .u32 (vl s5)] from vw5s.out)
      have c49 := vf48.cell (j := 0) rfl
      have c50 := vf48.cell (j := 1) rfl
      have c51 := vf48.cell (j := 2) rfl
      have c52 := vf48.cell (j := 3) rfl
      have c53 := vf48.cell (j := 4) rfl
      have c54 := vf48.cell (j := 5) rfl
      clear vf48
      have vf55 := (show Var w5 (w.heap.size) 27 [.int .u32 0, .int .u32 0, .int .u32 0, .slice none 0 0] from vw5r.out)
      have c56 := vf55.cell (j := 0) rfl
      have c57 := vf55.cell (j := 1) rfl
      have c58 := vf55.cell (j := 2) rfl
      have c59 := vf55.cell (j := 3) rfl
      clear vf55
      have vf60 := (show Var w5 (w.heap.size) 27 [.int .u32 0, .int .u32 0, .int .u32 0, .slice none 0 0] from vw5r.out)
      have f61 := vf60.frozen 0
      have f62 := vf60.frozen 1
      have f63 := vf60.frozen 2
      have f64 := vf60.frozen 3
      clear vf60
      go_wp2_with (first
    | (go_at_call 41; ((with_reducible refine (HRD.out _ (Batch.Tb.below HTB.out bw5.out)).mono ?_); rintro e w6 ⟨va, vc, rfl, hown, bz⟩; have hbel : Below w5.heap.size w5 w6 := (by exact bz); clear bz; have bw6 := Lib.hid (bel2 bw5.out hbel); have zw6 := Lib.hid hbel.size; have vw6r := Lib.hid (vw5r.out.below hbel vw5r.out.lt); have vw6s := Lib.hid (vw5s.out.below hbel vw5s.out.lt); clear hbel; clear c49 c50 c51 c52 c53 c54 c56 c57 c58 c59 f61 f62 f63 f64; have HOW := Lib.hid (wmine_base hown (b' := w.heap.size + 1) (by have := bw5.out.size; have := zw1.out; have := zw2.out; have := zw3.out; have := zw4.out; have := zw5.out; omega)); clear hown; have vf65 := (show Var w6 (w2.heap.size) 61 [.int .u32 (vl s0), .int .u32 (vl s1), .int .u32 (vl s2), .int .u32 (vl s3), .int .u32 (vl s4), .int .u32 (vl s5)] from vw6s.out); have c66 := vf65.cell (j := 0) rfl; have c67 := vf65.cell (j := 1) rfl; have c68 := vf65.cell (j := 2) rfl; have c69 := vf65.cell (j := 3) rfl; have c70 := vf65.cell (j := 4) rfl; have c71 := vf65.cell (j := 5) rfl; clear vf65; have vf72 := (show Var w6 (w.heap.size) 27 [.int .u32 0, .int .u32 0, .int .u32 0, .slice none 0 0] from vw6r.out); have c73 := vf72.cell (j := 0) rfl; have c74 := vf72.cell (j := 1) rfl; have c75 := vf72.cell (j := 2) rfl; have c76 := vf72.cell (j := 3) rfl; clear vf72; have vf77 := (show Var w6 (w.heap.size) 27 [.int .u32 0, .int .u32 0, .int .u32 0, .slice none 0 0] from vw6r.out); have f78 := vf77.frozen 0; have f79 := vf77.frozen 1; have f80 := vf77.frozen 2; have f81 := vf77.frozen 3; clear vf77)))
      have vf82 := (show Var ((((w6.setCell ⟨w.heap.size, 0, none⟩ (.int .u32 (vl s0))).setCell ⟨w.heap.size, 1, none⟩ (.int .u32 (vl s2))).setCell ⟨w.heap.size, 2, none⟩ (.int .u32 (vl s3))).setCell ⟨w.heap.size, 3, none⟩ (.slice va WR.length vc)) (w.heap.size) 27 [.int .u32 (vl s0), .int .u32 (vl s2), .int .u32 (vl s3), .slice va WR.length vc] from ((((vw6r.out.set 0 (.int .u32 (vl s0))).set 1 (.int .u32 (vl s2))).set 2 (.int .u32 (vl s3))).set 3 (.slice va WR.length vc)))
      have c83 := vf82.cell (j := 0) rfl
      have c84 := vf82.cell (j := 1) rfl
      have c85 := vf82.cell (j := 2) rfl
      have c86 := vf82.cell (j := 3) rfl
      clear vf82
      refine bodyPost_ret (v := .tuple #[.agg #[.int .u32 (vl s0), .int .u32 (vl s2), .int .u32 (vl s3), .slice va WR.length vc], .int .i64 0]) (by rw [results_cell_tmp rfl]; simp [go_sem, c83, c84, c85, c86]) rfl ?_
      exact ⟨_, rfl, wmine_base (owns_set_far (owns_set_far (owns_set_far (owns_set_far HOW.out _ _ (by simp)) _ _ (by simp)) _ _ (by simp)) _ _ (by simp)) (Nat.le_succ _), ((((bw6.out.setCell (p := ⟨w.heap.size, 0, none⟩) (by have := zw1.out; have := zw2.out; have := zw3.out; have := zw4.out; have := zw5.out; have := zw6.out; simp only; omega) _).setCell (p := ⟨w.heap.size, 1, none⟩) (by have := zw1.out; have := zw2.out; have := zw3.out; have := zw4.out; have := zw5.out; have := zw6.out; simp only; omega) _).setCell (p := ⟨w.heap.size, 2, none⟩) (by have := zw1.out; have := zw2.out; have := zw3.out; have := zw4.out; have := zw5.out; have := zw6.out; simp only; omega) _).setCell (p := ⟨w.heap.size, 3, none⟩) (by have := zw1.out; have := zw2.out; have := zw3.out; have := zw4.out; have := zw5.out; have := zw6.out; simp only; omega) _)⟩
end Go.Proofs.YtligapgjdpdihaaDoor.Group
/-
  What package group's Join answers, for any frames.
-/
set_option linter.unusedVariables false
set_option linter.unusedSimpArgs false
namespace Go.Proofs.YtligapgjdpdihaaDoor.Group
open Go.RowKit
open CrcM (W)
open Crc (le4 sumOf vl wd putS)
open Flash (bs bs_size bs_list list_bs cut)
open Go.Proofs.YtligapgjdpdihaaDoor.Frame (Fr zeroF fV fC bel2 below_drewN)
open Piece (pieceR pieceR_parts sealV)
open Batch (Wr WAt WMine Tb readW)
theorem join_any (a : Option Addr) (l : List Fr) (cap : Nat) (hl : l.length ≤ 1000) (hz : ∀ f ∈ l, f.body.length ≤ 1048576) (hcap : l.length ≤ cap) (w : World) (hT : Tb w) (hr : FAt w a l) :
    Calls Tryd.prog 16 #[.slice a l.length cap] w (JoinSays (joinG l) w) := by
  unfold joinG
  by_cases h2 : l.length < 2
  · rw [if_pos h2]
    exact join_1 a l.length cap h2 w
  rw [if_neg h2]
  have hg := last_get (show 2 ≤ l.length by omega)
  have hzl := hz _ (mem_last (show 2 ≤ l.length by omega))
  have hzm : (lastF l).body.length ≤ maxLen := by unfold maxLen; omega
  obtain ⟨b, off, rfl, hb, k0, k1, k2, k3⟩ := hr.get hg
  have hcell := And.intro k0 (And.intro k1 (And.intro k2 k3))
  obtain ⟨m, hm⟩ : ∃ m, m = l.length - 1 := ⟨_, rfl⟩
  have hmI : (l.length : Int) - 1 = (m : Int) := by omega
  by_cases hs : pieceR (lastF l) = true ∧ (lastF l).kind = 3
  case neg =>
    rw [sealOk_not hs, if_pos rfl]
    have HSO := Lib.hid (fun w => sealOf_not (lastF l) hzm (by
      cases h : pieceR (lastF l) with
      | false => exact .inl rfl
      | true => exact .inr fun e => hs ⟨h, e⟩) w)
    rw [← hm] at hcell
    exact join_2 b off l.length cap w m (by omega) (by omega) hmI hl hcap (lastF l).kind (lastF l).a (lastF l).b (bs (lastF l).body) hcell HSO
  obtain ⟨hp, hk⟩ := hs
  have h16 := seal_len hp hk
  have HSO := Lib.hid (fun w => sealOf_yes (lastF l) hzm hp hk w)
  have HRW := Lib.hid (hr.take m)
  have hml : (l.take m).length = m := by rw [List.length_take]; omega
  have HTO := Lib.hid (fun w hr => textOf_any (some ⟨b, off, none⟩) (l.take m) cap (by omega) (mem_take_of hz m) (lastF l).a w hr)
  rw [hml] at HTO
  have hhd : headF l = l.take m := by unfold headF; rw [hm]
  rw [sealOk_at hp hk]
  unfold sumsOk
  rw [hhd, ← hm]
  rw [← hm] at hcell
  cases hpo : partsOk (lastF l).a 0 (l.take m) with
  | false =>
    rw [Bool.and_false, if_pos rfl]
    rw [hpo, okText_f hpo] at HTO
    exact join_3a b off l.length cap w m (by omega) (by omega) hmI hl hcap (lastF l).kind (lastF l).a (lastF l).b (bs (lastF l).body) hcell _ _ _ _ _ _ (bs []) (by decide) (l.take m) HSO HTO HRW
  | true =>
    rw [hpo, okText_t hpo] at HTO
    rw [Bool.and_true]
    have hTl : (bs (textsF (l.take m))).size ≤ 2000000000 := by
      have h := texts_len (mem_take_of hz m)
      rw [bs_size, hml] at *
      omega
    have HIC := Lib.hid (fun w => isCount_any (lastF l).b m (by omega) w)
    by_cases hb2 : vl (lastF l).b = (m : Int)
    case neg =>
      rw [decide_eq_false hb2] at HIC ⊢
      rw [if_pos rfl]
      exact join_3b b off l.length cap w m (by omega) (by omega) hmI hl hcap (lastF l).kind (lastF l).a (lastF l).b (bs (lastF l).body) hcell _ _ _ _ _ _ (bs (textsF (l.take m))) hTl (l.take m) HSO HTO HRW HIC
    rw [decide_eq_true hb2] at HIC ⊢
    rw [if_neg (by simp)]
    have HSZ := Lib.hid (fun w => isCount_any (wd (le4 (lastF l).body 12)) (bs (textsF (l.take m))).size (by omega) w)
    have HS : Hid (∀ (b cap : Nat) (w : World), w.cell? ⟨b, 0, none⟩ = some (.string (bs (textsF (l.take m)))) → Calls Tryd.prog 40 #[.slice (some ⟨b, 0, none⟩) 1 cap] w fun e w' => e = .returned (.int .u32 (sumOf (textsF (l.take m)))) ∧ w = w') := fun b cap w hc => by
      have := Crc.sum_one _ b cap w (by unfold maxLen; omega) hc
      rwa [list_bs] at this
    by_cases h12 : le4 (lastF l).body 12 = ((textsF (l.take m)).length : Int)
    case neg =>
      rw [decide_eq_false h12, Bool.false_and, if_pos rfl]
      rw [show decide (vl (wd (le4 (lastF l).body 12)) = ((bs (textsF (l.take m))).size : Int)) = false by rw [Piece.wd_le4, bs_size]; exact decide_eq_false h12] at HSZ
      exact join_4a b off l.length cap w m (by omega) (by omega) hmI hl hcap (lastF l).kind (lastF l).a (lastF l).b (bs (lastF l).body) hcell _ _ _ _ _ _ (bs (textsF (l.take m))) hTl (l.take m) HSO HTO HRW HIC HSZ
    rw [show decide (vl (wd (le4 (lastF l).body 12)) = ((bs (textsF (l.take m))).size : Int)) = true by rw [Piece.wd_le4, bs_size]; exact decide_eq_true h12] at HSZ
    rw [decide_eq_true h12, Bool.true_and]
    by_cases h8 : le4 (lastF l).body 8 = sumOf (textsF (l.take m))
    case neg =>
      rw [decide_eq_false h8, if_pos rfl]
      have q1 : (vl (wd (le4 (lastF l).body 8)) == sumOf (textsF (l.take m))) = false := by rw [Piece.wd_le4, beq_eq_false_iff_ne]; exact h8
      exact join_4b b off l.length cap w m (by omega) (by omega) hmI hl hcap (lastF l).kind (lastF l).a (lastF l).b (bs (lastF l).body) hcell _ _ _ _ _ _ (bs (textsF (l.take m))) hTl (l.take m) _ q1 (by rw [bne, q1]; rfl) HSO HTO HRW HIC HSZ HS
    rw [decide_eq_true h8, if_neg (by simp)]
    have q1 : (vl (wd (le4 (lastF l).body 8)) == sumOf (textsF (l.take m))) = true := by rw [Piece.wd_le4, h8]; exact beq_self_eq_true _
    have HRD := Lib.hid (fun w hT => read_slice (Batch.read_any (bs (textsF (l.take m))) (by omega) w hT))
    have HTB := Lib.hid hT
    by_cases hc : (readW (bs (textsF (l.take m)))).2 ≠ 0
    · rw [if_pos hc]
      have qc : (((readW (bs (textsF (l.take m)))).2 : Int) == 0) = false := by rw [beq_eq_false_iff_ne]; omega
      exact join_5 b off l.length cap w m (by omega) (by omega) hmI hl hcap (lastF l).kind (lastF l).a (lastF l).b (bs (lastF l).body) hcell _ _ _ _ _ _ (bs (textsF (l.take m))) hTl (l.take m) _ q1 (by rw [bne, q1]; rfl) (readW (bs (textsF (l.take m)))).1 _ qc (by rw [bne, qc]; rfl) HSO HTO HRW HIC HSZ HS HRD HTB
    · rw [if_neg hc]
      have hc0 : (readW (bs (textsF (l.take m)))).2 = 0 := by omega
      rw [hc0] at HRD
      exact join_6 b off l.length cap w m (by omega) (by omega) hmI hl hcap (lastF l).kind (lastF l).a (lastF l).b (bs (lastF l).body) hcell _ _ _ _ _ _ (bs (textsF (l.take m))) hTl (l.take m) _ q1 (by rw [bne, q1]; rfl) (readW (bs (textsF (l.take m)))).1 HSO HTO HRW HIC HSZ HS HRD HTB
end Go.Proofs.YtligapgjdpdihaaDoor.Group
