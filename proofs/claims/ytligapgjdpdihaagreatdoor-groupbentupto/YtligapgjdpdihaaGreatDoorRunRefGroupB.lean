/-
  Joined texts: RefGroupB, RefGroupC.
-/
import Derived.Test.YtligapgjdpdihaaGreatDoorRunGroupM
import Derived.Test.YtligapgjdpdihaaGreatDoorRunGeomA
import Derived.Test.YtligapgjdpdihaaGreatDoorRunBatchE
import Derived.Test.YtligapgjdpdihaaGreatDoorRunRefFrame
import Derived.Test.YtligapgjdpdihaaGreatDoorRunFlashA
import Derived.Test.YtligapgjdpdihaaGreatDoorRunGroupMath
/-
  What the document's Cut answers.
-/
set_option linter.unusedVariables false
set_option linter.unusedSimpArgs false
namespace Go.Proofs.YtligapgjdpdihaaGreatDoor.Group
open Go.RowKit
open CrcM (W)
open Crc (le4 sumOf vl wd putS)
open Flash (bs bs_size bs_list list_bs cut)
open Go.Proofs.YtligapgjdpdihaaGreatDoor.Frame (Fr zeroF fV fC bel2 below_drewN)
open Piece (pieceR isSeqB)
open Tup Bytes Own
open Geom (Gm gV rightG mostG needG Small right_small roomG)
open Batch (Wr WAt WMine bytesW layB rightW readW)
open Piece (four sealR)
open Go.Proofs.YtligapgjdpdihaaGreatDoor.Region (fill Then Deps Each wp_region_is wp_region_is_tail wp_region_each wp_region_tail)
set_option maxRecDepth 100000 in
set_option maxHeartbeats 8000000 in
theorem rcut_5 (gp gs gr : Int) (sq pv fr : W) (a : Option Addr) (n cap : Nat) (L : List Wr) (B : ByteArray) (t0 : decide (vl sq ≤ vl pv) = false) (t1 : decide (vl fr < 1) = false) (t2 : decide (vl sq < vl fr) = false) (t3 : decide (2147483647 < vl sq) = false) (nd mo : Int) (hBm : B.size ≤ 1000000) (qm : decide (mo < nd) = false) (D : List UInt8) (hD : bs D = B) (r : Nat) (hr : 0 < r) (hr2 : r ≤ 1000000) (cs : Int) (ff : Fr) (P1 P2 P3 P4 : ByteArray) (p1 : P1.size = 4) (p2 : P2.size = 4) (p3 : P3.size = 4) (p4 : P4.size = 4) (hff : fC ff = [.int .i64 3, .int .u32 (vl sq), .int .u32 (partsN r D.length : Int), .string (P1 ++ P2 ++ P3 ++ P4)])
    (HR : Hid (∀ w, Calls Tryz.prog 24 #[.agg #[.int .i64 gp, .int .i64 gs, .int .i64 gr]] w fun e w' => e = .returned (.bool true) ∧ Below w.heap.size w w'))
    (HBY : Hid (∀ w, WAt w a L → Calls Tryz.prog 25 #[.slice a n cap] w fun e w' => e = .returned (.tuple #[.string B, .int .i64 0]) ∧ Below w.heap.size w w'))
    (HN : Hid (∀ w, Calls Tryz.prog 26 #[.agg #[.int .i64 gp, .int .i64 gs, .int .i64 gr], .int .i64 (B.size : Int)] w fun e w' => e = .returned (.int .i64 nd) ∧ Below w.heap.size w w'))
    (HM : Hid (∀ w, Calls Tryz.prog 27 #[.agg #[.int .i64 gp, .int .i64 gs, .int .i64 gr]] w fun e w' => e = .returned (.int .i64 mo) ∧ Below w.heap.size w w'))
    (HRM : Hid (∀ w, Calls Tryz.prog 28 #[.agg #[.int .i64 gp, .int .i64 gs, .int .i64 gr]] w fun e w' => e = .returned (.int .i64 (r : Int)) ∧ Below w.heap.size w w'))
    (HQ1 : Hid (∀ w, Calls Tryz.prog 29 #[.int .u32 (vl pv)] w fun e w' => e = .returned (.string P1) ∧ Below w.heap.size w w'))
    (HQ2 : Hid (∀ w, Calls Tryz.prog 29 #[.int .u32 (vl fr)] w fun e w' => e = .returned (.string P2) ∧ Below w.heap.size w w'))
    (HQ3 : Hid (∀ w, Calls Tryz.prog 29 #[.int .u32 cs] w fun e w' => e = .returned (.string P3) ∧ Below w.heap.size w w'))
    (HQ4 : Hid (∀ w, Calls Tryz.prog 29 #[.int .u32 (B.size : Int)] w fun e w' => e = .returned (.string P4) ∧ Below w.heap.size w w'))
    (HCR : Hid (∀ w, Calls Tryz.prog 21 #[.string B] w fun e w' => e = .returned (.int .u32 cs) ∧ w = w')) (w : World) (HRW : Hid (WAt w a L)) :
    Calls Tryz.prog 10 #[.agg #[.int .i64 gp, .int .i64 gs, .int .i64 gr], .agg #[.int .u32 (vl sq), .int .u32 (vl pv), .int .u32 (vl fr), .slice a n cap]] w (CutSays (partsF sq r D ++ [ff], 0) w) := by
  go_enter Tryz.func10, Tryz.ntmps10
  go_wp2_with (first
    | (go_at_call 24; ((with_reducible refine (HR.out _).mono ?_); rintro e w2 ⟨rfl, bz⟩; obtain ⟨w1, hw1⟩ : ∃ wx, wx = ((w.alloc (.cells #[.int .i64 gp, .int .i64 gs, .int .i64 gr] 23)).alloc (.cells #[.int .u32 (vl sq), .int .u32 (vl pv), .int .u32 (vl fr), .slice a n cap] 27)) := ⟨_, rfl⟩; have bw1 := Lib.hid (show Below w.heap.size w w1 by rw [hw1]; exact (bel2 (Geom.bel_alloc _ _) (Geom.bel_alloc _ _))); have zw1 := Lib.hid (show w.heap.size + 2 ≤ w1.heap.size by rw [hw1]; simp); have vw1g := Lib.hid (show Var w1 (w.heap.size) 23 [.int .i64 gp, .int .i64 gs, .int .i64 gr] by rw [hw1]; exact ((Var.new w 23 [.int .i64 gp, .int .i64 gs, .int .i64 gr]).alloc _)); have vw1x := Lib.hid (show Var w1 (w.heap.size + 1) 27 [.int .u32 (vl sq), .int .u32 (vl pv), .int .u32 (vl fr), .slice a n cap] by rw [hw1]; exact (show Var ((w.alloc (.cells #[.int .i64 gp, .int .i64 gs, .int .i64 gr] 23)).alloc (.cells #[.int .u32 (vl sq), .int .u32 (vl pv), .int .u32 (vl fr), .slice a n cap] 27)) (w.heap.size + 1) 27 [.int .u32 (vl sq), .int .u32 (vl pv), .int .u32 (vl fr), .slice a n cap] from by have h := Var.new (w.alloc (.cells #[.int .i64 gp, .int .i64 gs, .int .i64 gr] 23)) 27 [.int .u32 (vl sq), .int .u32 (vl pv), .int .u32 (vl fr), .slice a n cap]; rw [show (w.alloc (.cells #[.int .i64 gp, .int .i64 gs, .int .i64 gr] 23)).heap.size = w.heap.size + 1 by simp] at h; exact h)); have hbel : Below w1.heap.size w1 w2 := (by rw [hw1]; exact bz); clear bz; have bw2 := Lib.hid (bel2 bw1.out hbel); have zw2 := Lib.hid hbel.size; have vw2g := Lib.hid (vw1g.out.below hbel vw1g.out.lt); have vw2x := Lib.hid (vw1x.out.below hbel vw1x.out.lt); clear hbel; have vf1 := (show Var w2 (w.heap.size) 23 [.int .i64 gp, .int .i64 gs, .int .i64 gr] from vw2g.out); have c2 := vf1.cell (j := 0) rfl; have c3 := vf1.cell (j := 1) rfl; have c4 := vf1.cell (j := 2) rfl; clear vf1; have vf5 := (show Var w2 (w.heap.size + 1) 27 [.int .u32 (vl sq), .int .u32 (vl pv), .int .u32 (vl fr), .slice a n cap] from vw2x.out); have c6 := vf5.cell (j := 0) rfl; have c7 := vf5.cell (j := 1) rfl; have c8 := vf5.cell (j := 2) rfl; have c9 := vf5.cell (j := 3) rfl; clear vf5))
    | (go_at_call 25; ((with_reducible refine (HBY.out _ (Batch.WAt.below HRW.out bw2.out)).mono ?_); rintro e w3 ⟨rfl, bz⟩; have hbel : Below w2.heap.size w2 w3 := (by exact bz); clear bz; have bw3 := Lib.hid (bel2 bw2.out hbel); have zw3 := Lib.hid hbel.size; have vw3g := Lib.hid (vw2g.out.below hbel vw2g.out.lt); have vw3x := Lib.hid (vw2x.out.below hbel vw2x.out.lt); clear hbel; clear c2 c3 c4 c6 c7 c8 c9; have vf10 := (show Var w3 (w.heap.size) 23 [.int .i64 gp, .int .i64 gs, .int .i64 gr] from vw3g.out); have c11 := vf10.cell (j := 0) rfl; have c12 := vf10.cell (j := 1) rfl; have c13 := vf10.cell (j := 2) rfl; clear vf10; have vf14 := (show Var w3 (w.heap.size + 1) 27 [.int .u32 (vl sq), .int .u32 (vl pv), .int .u32 (vl fr), .slice a n cap] from vw3x.out); have c15 := vf14.cell (j := 0) rfl; have c16 := vf14.cell (j := 1) rfl; have c17 := vf14.cell (j := 2) rfl; have c18 := vf14.cell (j := 3) rfl; clear vf14)))
  clear c11 c12 c13 c15 c16 c17 c18
  refine wp_region_is [45, 46, 47, 48, 49, 50, 51] (fun w' => Below w3.heap.size w3 w')
    [.agg #[.int .i64 gp, .int .i64 gs, .int .i64 gr], .string B, .int .i64 (B.size : Int), .int .i64 nd, .agg #[.int .i64 gp, .int .i64 gs, .int .i64 gr], .int .i64 mo, .bool false] (by kernel_rfl) (by kernel_rfl) rfl (by decide) (by simp) (Below.refl _ _).drew ?each ?done
  case each =>
    simp only [Each]
    repeat' (first | exact trivial | refine And.intro ?_ ?_)
    all_goals
      intro ys wx hBx hdeps
      simp only [Deps, Region.binds, List.getD_cons_zero, List.getD_cons_succ, forall_const, and_true] at hdeps
      have q19 := (vw3g.out.below hBx vw3g.out.lt).cell (j := 0) rfl
      have q20 := (vw3g.out.below hBx vw3g.out.lt).cell (j := 1) rfl
      have q21 := (vw3g.out.below hBx vw3g.out.lt).cell (j := 2) rfl
      simp only [hdeps, fill, List.foldl_cons, List.foldl_nil, Act.put, List.setIfInBounds_toArray, List.set_cons_succ, List.set_cons_zero]
      first
        | (go_wp2_with fail; exact ⟨_, rfl, rfl, hBx, Below.refl _ _⟩)
        | (go_wp2_with (go_at_call 26; (with_reducible refine (HN.out _).mono ?_); rintro e w3 ⟨rfl, hbm⟩); exact ⟨_, rfl, rfl, hBx.trans (hbm.mono hBx.size), hbm⟩)
        | (go_wp2_with (go_at_call 27; (with_reducible refine (HM.out _).mono ?_); rintro e w3 ⟨rfl, hbm⟩); exact ⟨_, rfl, rfl, hBx.trans (hbm.mono hBx.size), hbm⟩)
  case done =>
    intro ys wx hBx hV
    obtain ⟨w4, hw4⟩ : ∃ wy, wy = wx := ⟨_, rfl⟩
    rw [← hw4] at hBx ⊢
    have bw4 := Lib.hid (bel2 bw3.out hBx)
    have zw4 := Lib.hid hBx.size
    have vw4g := Lib.hid (vw3g.out.below hBx vw3g.out.lt)
    have vw4x := Lib.hid (vw3x.out.below hBx vw3x.out.lt)
    have h51 : ys 51 = .bool false := hV 6 (by decide)
    clear hBx hV hw4
    simp only [h51, fill, List.drop_succ_cons, List.drop_zero, List.foldl_cons, List.foldl_nil, Act.put, List.setIfInBounds_toArray, List.set_cons_succ, List.set_cons_zero]
    have hDl : D.length = B.size := by rw [← hD, bs_size]
    obtain ⟨N, hN⟩ : ∃ N, N = partsN r D.length := ⟨_, rfl⟩
    rw [← hN] at hff
    have HSP := Lib.hid (show ∀ k, k * r < B.size ↔ k < N by rw [hN, ← hDl]; exact partsN_spec hr)
    have HPF := Lib.hid (show partsF sq r D = partsTo sq r D N by rw [hN]; rfl)
    have hNle : N ≤ 1000000 := by
      have h := HSP.out (N - 1)
      by_cases h0 : N = 0
      · omega
      · have h1 := h.2 (by omega)
        have h2 : N - 1 ≤ (N - 1) * r := Nat.le_mul_of_pos_right _ hr
        omega
    clear hN
    go_wp2
    go_loopw [8, 9] (fun v i wr => ∃ k : Nat, k ≤ N ∧ i = .int .i64 ((k * r : Nat) : Int) ∧ FMine wr w4.heap.size v (partsTo sq r D k) ∧ Below w4.heap.size w4 wr) (fun _ i _ => B.size + r - (intOf i).toNat)
    case atStart => exact ⟨0, Nat.zero_le _, by rw [Nat.zero_mul]; rfl, FMine.nil _ _, Below.refl _ _⟩
    case round =>
      obtain ⟨k, hk, rfl, hown, hbel⟩ := hrel
      obtain ⟨a9, c9, rfl⟩ := owns_slice hown
      unfold FMine at hown
      rw [partsTo_len] at hown ⊢
      have HO := Lib.hid hown
      have HB := Lib.hid hbel
      have HBW := Lib.hid (bel2 bw4.out hbel)
      have vg := Lib.hid (vw4g.out.below hbel vw4g.out.lt)
      have vx := Lib.hid (vw4x.out.below hbel vw4x.out.lt)
      clear hown hbel
      by_cases hlt : k < N
      case pos =>
        have hkr := (HSP.out k).2 hlt
        obtain ⟨p, hp⟩ : ∃ p, p = k * r := ⟨_, rfl⟩
        rw [← hp] at hkr ⊢
        have q1 : decide ((p : Int) < (B.size : Int)) = true := by simp; omega
        have q2 : decide (p < B.size) = true := by simp; omega
        have hkp : k ≤ p := by rw [hp]; exact Nat.le_mul_of_pos_right _ hr
        obtain ⟨h, hh⟩ : ∃ h : Nat, h = min (p + r) B.size := ⟨_, rfl⟩
        have hmn := fun w ts t => Txt.min2' (P := Tryz.prog) w ts t ((p : Int) + (r : Int)) (B.size : Int) (h : Int) (by omega)
        have hsl := fun w => Txt.cutSS D p h (p : Int) (h : Int) rfl rfl (by omega) (by omega) w
        have e1 : cut D p (h - p) = cut D p r := by
          unfold cut
          have hdl : (D.drop p).length = D.length - p := List.length_drop
          by_cases hc : p + r ≤ B.size
          · rw [show h - p = r by omega]
          · rw [List.take_of_length_le (by omega), List.take_of_length_le (by omega)]
        rw [e1, hD] at hsl
        have HPA := Lib.hid (show partAt sq r D k = ⟨2, sq, wd (k : Int), cut D p r⟩ by rw [hp]; rfl)
        have hkv : vl (wd (k : Int)) = (k : Int) := Crc.vl_wd (by omega) (by omega)
        have HFC := Lib.hid (show fC (partAt sq r D k) = [.int .i64 2, .int .u32 (vl sq), .int .u32 (k : Int), .string (bs (cut D p r))] by rw [HPA.out]; unfold fC; simp only; rw [hkv])
        have hk32 : (k : Int) % 4294967296 = (k : Int) := by omega
        have HPP := Lib.hid (show ((k + 1) * r : Nat) = p + r by rw [Nat.add_mul, Nat.one_mul, hp])
        clear hh e1 HPA hkv hp
        generalize bs (cut D p r) = T at *
        go_wp2
        refine wp_region_tail 18 [60, 61, 62, 63, 64, 65, 66, 67, 68, 69, 70, 71, 72, 73, 74, 75, 76, 77] (fun w' => Below wr.heap.size wr w') (VT [.slice a9 k c9, .pointer (some ⟨w.heap.size + 1, 0, none⟩), .int .u32 (vl sq), .slice a9 k c9, .int .i64 (k : Int), .int .u32 (k : Int), .string B, .int .i64 (p : Int), .int .i64 (p : Int), .agg #[.int .i64 gp, .int .i64 gs, .int .i64 gr], .int .i64 (r : Int), .int .i64 ((p : Int) + (r : Int)), .string B, .int .i64 (B.size : Int), .int .i64 (h : Int), .string T, .agg #[.int .i64 2, .int .u32 (vl sq), .int .u32 (k : Int), .string T], undef] [(17, oneSp [.int .i64 2, .int .u32 (vl sq), .int .u32 (k : Int), .string T])]) (by kernel_rfl) (by kernel_rfl) (by kernel_rfl) (by decide) rfl (by decide) (by simp) (VT.mono _ _) (Below.refl _ _).drew ?each ?done
        case each =>
          simp only [List.take_succ_cons, List.take_zero, Each]
          refine ⟨?o0, ?o1, ?o2, ?o3, ?o4, ?o5, ?o6, ?o7, ?o8, ?o9, ?o10, ?o11, ?o12, ?o13, ?o14, ?o15, ?o16, ?o17, trivial⟩
          case o0 =>
            intro ys wx hBx hdeps
            clear hdeps
            simp only [fill, List.foldl_cons, List.foldl_nil, Act.put, List.setIfInBounds_toArray, List.set_cons_succ, List.set_cons_zero]
            go_wp2_with fail
            exact ⟨_, rfl, rfl, hBx, Below.refl _ _⟩
          case o1 =>
            intro ys wx hBx hdeps
            clear hdeps
            simp only [fill, List.foldl_cons, List.foldl_nil, Act.put, List.setIfInBounds_toArray, List.set_cons_succ, List.set_cons_zero]
            go_wp2_with fail
            exact ⟨_, rfl, rfl, hBx, Below.refl _ _⟩
          case o2 =>
            intro ys wx hBx hdeps
            simp only [Deps, Region.binds, List.getD_cons_zero, List.getD_cons_succ, forall_const, and_true, true_and] at hdeps
            have y1 : ys 61 = .pointer (some ⟨w.heap.size + 1, 0, none⟩) := by first | exact hdeps | exact hdeps.1 | exact hdeps.2.1 | exact hdeps.2 | exact hdeps.2.2
            clear hdeps
            have q501 := (vx.out.below hBx vx.out.lt).cell (j := 0) rfl
            simp only [y1, fill, List.foldl_cons, List.foldl_nil, Act.put, List.setIfInBounds_toArray, List.set_cons_succ, List.set_cons_zero]
            go_wp2_with fail
            exact ⟨_, rfl, rfl, hBx, Below.refl _ _⟩
          case o3 =>
            intro ys wx hBx hdeps
            clear hdeps
            simp only [fill, List.foldl_cons, List.foldl_nil, Act.put, List.setIfInBounds_toArray, List.set_cons_succ, List.set_cons_zero]
            go_wp2_with fail
            exact ⟨_, rfl, rfl, hBx, Below.refl _ _⟩
          case o4 =>
            intro ys wx hBx hdeps
            simp only [Deps, Region.binds, List.getD_cons_zero, List.getD_cons_succ, forall_const, and_true, true_and] at hdeps
            have y3 : ys 63 = .slice a9 k c9 := by first | exact hdeps | exact hdeps.1 | exact hdeps.2.1 | exact hdeps.2 | exact hdeps.2.2
            clear hdeps
            simp only [y3, fill, List.foldl_cons, List.foldl_nil, Act.put, List.setIfInBounds_toArray, List.set_cons_succ, List.set_cons_zero]
            go_wp2_with fail
            exact ⟨_, rfl, rfl, hBx, Below.refl _ _⟩
          case o5 =>
            intro ys wx hBx hdeps
            simp only [Deps, Region.binds, List.getD_cons_zero, List.getD_cons_succ, forall_const, and_true, true_and] at hdeps
            have y4 : ys 64 = .int .i64 (k : Int) := by first | exact hdeps | exact hdeps.1 | exact hdeps.2.1 | exact hdeps.2 | exact hdeps.2.2
            clear hdeps
            simp only [y4, fill, List.foldl_cons, List.foldl_nil, Act.put, List.setIfInBounds_toArray, List.set_cons_succ, List.set_cons_zero]
            go_wp2_with fail
            exact ⟨_, rfl, rfl, hBx, Below.refl _ _⟩
          case o6 =>
            intro ys wx hBx hdeps
            clear hdeps
            simp only [fill, List.foldl_cons, List.foldl_nil, Act.put, List.setIfInBounds_toArray, List.set_cons_succ, List.set_cons_zero]
            go_wp2_with fail
            exact ⟨_, rfl, rfl, hBx, Below.refl _ _⟩
          case o7 =>
            intro ys wx hBx hdeps
            clear hdeps
            simp only [fill, List.foldl_cons, List.foldl_nil, Act.put, List.setIfInBounds_toArray, List.set_cons_succ, List.set_cons_zero]
            go_wp2_with fail
            exact ⟨_, rfl, rfl, hBx, Below.refl _ _⟩
          case o8 =>
            intro ys wx hBx hdeps
            clear hdeps
            simp only [fill, List.foldl_cons, List.foldl_nil, Act.put, List.setIfInBounds_toArray, List.set_cons_succ, List.set_cons_zero]
            go_wp2_with fail
            exact ⟨_, rfl, rfl, hBx, Below.refl _ _⟩
          case o9 =>
            intro ys wx hBx hdeps
            clear hdeps
            have q502 := (vg.out.below hBx vg.out.lt).cell (j := 0) rfl
            have q503 := (vg.out.below hBx vg.out.lt).cell (j := 1) rfl
            have q504 := (vg.out.below hBx vg.out.lt).cell (j := 2) rfl
            simp only [fill, List.foldl_cons, List.foldl_nil, Act.put, List.setIfInBounds_toArray, List.set_cons_succ, List.set_cons_zero]
            go_wp2_with fail
            exact ⟨_, rfl, rfl, hBx, Below.refl _ _⟩
          case o10 =>
            intro ys wx hBx hdeps
            simp only [Deps, Region.binds, List.getD_cons_zero, List.getD_cons_succ, forall_const, and_true, true_and] at hdeps
            have y9 : ys 69 = .agg #[.int .i64 gp, .int .i64 gs, .int .i64 gr] := by first | exact hdeps | exact hdeps.1 | exact hdeps.2.1 | exact hdeps.2 | exact hdeps.2.2
            clear hdeps
            simp only [y9, fill, List.foldl_cons, List.foldl_nil, Act.put, List.setIfInBounds_toArray, List.set_cons_succ, List.set_cons_zero]
            go_wp2_with (go_at_call 28; (with_reducible refine (HRM.out _).mono ?_); rintro e w3 ⟨rfl, hbm⟩)
            exact ⟨_, rfl, rfl, hBx.trans (hbm.mono hBx.size), hbm⟩
          case o11 =>
            intro ys wx hBx hdeps
            simp only [Deps, Region.binds, List.getD_cons_zero, List.getD_cons_succ, forall_const, and_true, true_and] at hdeps
            have y8 : ys 68 = .int .i64 (p : Int) := by first | exact hdeps.1 | exact hdeps.2.1 | exact hdeps.2.2.1 | exact hdeps.2 | exact hdeps.2.2 | exact hdeps.2.2.2
            have y10 : ys 70 = .int .i64 (r : Int) := by first | exact hdeps.1 | exact hdeps.2.1 | exact hdeps.2.2.1 | exact hdeps.2 | exact hdeps.2.2 | exact hdeps.2.2.2
            clear hdeps
            simp only [y8, y10, fill, List.foldl_cons, List.foldl_nil, Act.put, List.setIfInBounds_toArray, List.set_cons_succ, List.set_cons_zero]
            go_wp2_with fail
            exact ⟨_, rfl, rfl, hBx, Below.refl _ _⟩
          case o12 =>
            intro ys wx hBx hdeps
            clear hdeps
            simp only [fill, List.foldl_cons, List.foldl_nil, Act.put, List.setIfInBounds_toArray, List.set_cons_succ, List.set_cons_zero]
            go_wp2_with fail
            exact ⟨_, rfl, rfl, hBx, Below.refl _ _⟩
          case o13 =>
            intro ys wx hBx hdeps
            simp only [Deps, Region.binds, List.getD_cons_zero, List.getD_cons_succ, forall_const, and_true, true_and] at hdeps
            have y12 : ys 72 = .string B := by first | exact hdeps | exact hdeps.1 | exact hdeps.2.1 | exact hdeps.2 | exact hdeps.2.2
            clear hdeps
            simp only [y12, fill, List.foldl_cons, List.foldl_nil, Act.put, List.setIfInBounds_toArray, List.set_cons_succ, List.set_cons_zero]
            go_wp2_with fail
            exact ⟨_, rfl, rfl, hBx, Below.refl _ _⟩
          case o14 =>
            intro ys wx hBx hdeps
            simp only [Deps, Region.binds, List.getD_cons_zero, List.getD_cons_succ, forall_const, and_true, true_and] at hdeps
            have y11 : ys 71 = .int .i64 ((p : Int) + (r : Int)) := by first | exact hdeps.1 | exact hdeps.2.1 | exact hdeps.2.2.1 | exact hdeps.2 | exact hdeps.2.2 | exact hdeps.2.2.2
            have y13 : ys 73 = .int .i64 (B.size : Int) := by first | exact hdeps.1 | exact hdeps.2.1 | exact hdeps.2.2.1 | exact hdeps.2 | exact hdeps.2.2 | exact hdeps.2.2.2
            clear hdeps
            simp only [y11, y13, fill, List.foldl_cons, List.foldl_nil, Act.put, List.setIfInBounds_toArray, List.set_cons_succ, List.set_cons_zero]
            go_wp2_with fail
            exact ⟨_, rfl, rfl, hBx, Below.refl _ _⟩
          case o15 =>
            intro ys wx hBx hdeps
            simp only [Deps, Region.binds, List.getD_cons_zero, List.getD_cons_succ, forall_const, and_true, true_and] at hdeps
            have y6 : ys 66 = .string B := by first | exact hdeps.1 | exact hdeps.2.1 | exact hdeps.2.2.1 | exact hdeps.2.2.2.1 | exact hdeps.2 | exact hdeps.2.2 | exact hdeps.2.2.2 | exact hdeps.2.2.2.2
            have y7 : ys 67 = .int .i64 (p : Int) := by first | exact hdeps.1 | exact hdeps.2.1 | exact hdeps.2.2.1 | exact hdeps.2.2.2.1 | exact hdeps.2 | exact hdeps.2.2 | exact hdeps.2.2.2 | exact hdeps.2.2.2.2
            have y14 : ys 74 = .int .i64 (h : Int) := by first | exact hdeps.1 | exact hdeps.2.1 | exact hdeps.2.2.1 | exact hdeps.2.2.2.1 | exact hdeps.2 | exact hdeps.2.2 | exact hdeps.2.2.2 | exact hdeps.2.2.2.2
            clear hdeps
            simp only [y6, y7, y14, fill, List.foldl_cons, List.foldl_nil, Act.put, List.setIfInBounds_toArray, List.set_cons_succ, List.set_cons_zero]
            go_wp2_with fail
            exact ⟨_, rfl, rfl, hBx, Below.refl _ _⟩
          case o16 =>
            intro ys wx hBx hdeps
            simp only [Deps, Region.binds, List.getD_cons_zero, List.getD_cons_succ, forall_const, and_true, true_and] at hdeps
            have y2 : ys 62 = .int .u32 (vl sq) := by first | exact hdeps.1 | exact hdeps.2.1 | exact hdeps.2.2.1 | exact hdeps.2.2.2.1 | exact hdeps.2 | exact hdeps.2.2 | exact hdeps.2.2.2 | exact hdeps.2.2.2.2
            have y5 : ys 65 = .int .u32 (k : Int) := by first | exact hdeps.1 | exact hdeps.2.1 | exact hdeps.2.2.1 | exact hdeps.2.2.2.1 | exact hdeps.2 | exact hdeps.2.2 | exact hdeps.2.2.2 | exact hdeps.2.2.2.2
            have y15 : ys 75 = .string T := by first | exact hdeps.1 | exact hdeps.2.1 | exact hdeps.2.2.1 | exact hdeps.2.2.2.1 | exact hdeps.2 | exact hdeps.2.2 | exact hdeps.2.2.2 | exact hdeps.2.2.2.2
            clear hdeps
            simp only [y2, y5, y15, fill, List.foldl_cons, List.foldl_nil, Act.put, List.setIfInBounds_toArray, List.set_cons_succ, List.set_cons_zero]
            go_wp2_with fail
            exact ⟨_, rfl, rfl, hBx, Below.refl _ _⟩
          case o17 =>
            intro ys wx hBx hdeps
            simp only [Deps, Region.binds, List.getD_cons_zero, List.getD_cons_succ, forall_const, and_true, true_and] at hdeps
            have y16 : ys 76 = .agg #[.int .i64 2, .int .u32 (vl sq), .int .u32 (k : Int), .string T] := by first | exact hdeps | exact hdeps.1 | exact hdeps.2.1 | exact hdeps.2 | exact hdeps.2.2
            clear hdeps
            simp only [y16, fill, List.foldl_cons, List.foldl_nil, Act.put, List.setIfInBounds_toArray, List.set_cons_succ, List.set_cons_zero]
            go_wp2_with fail
            exact ⟨_, rfl, ⟨_, rfl, lies_new wx [.int .i64 2, .int .u32 (vl sq), .int .u32 (k : Int), .string T] 29⟩, hBx.alloc hBx.size _, (Below.refl _ _).alloc (Nat.le_refl _) _⟩
        case done =>
          intro ys w21 hBx hV
          have hEXIT := Lib.hid hBx
          have bw21 := Lib.hid (bel2 HB.out hBx)
          have zw21 := Lib.hid hBx.size
          have vw21g := Lib.hid (vg.out.below hBx vg.out.lt)
          have vw21x := Lib.hid (vx.out.below hBx vx.out.lt)
          have h60 : ys 60 = .slice a9 k c9 := hV 0 (by decide)
          have hh : ∃ g, ys 77 = .slice (some ⟨g, 0, none⟩) 1 1 ∧ Lies w21 g 0 [.int .i64 2, .int .u32 (vl sq), .int .u32 (k : Int), .string T] := hV 17 (by decide)
          with_reducible refine Exists.elim hh ?_
          intro g77 hh2
          have e77 := hh2.1
          have L77 := Lib.hid hh2.2
          clear hh hh2
          have hBy := Lib.hid hBx
          clear hBx hV
          simp only [h60, e77, fill, List.drop_succ_cons, List.drop_zero, List.foldl_cons, List.foldl_nil, Act.put, List.setIfInBounds_toArray, List.set_cons_succ, List.set_cons_zero]
          refine append_tup rfl _ _ 30 rfl w4.heap.size 29 (.agg #[.int .i64 0, .int .u32 0, .int .u32 0, .string ⟨#[]⟩]) 4 32 Tryz.underlying30 infoF rfl (by decide) (.slice a9 k c9) k (flatF (partsTo sq r D k)) rfl (owns_below HO.out hBy.out) g77 [.int .i64 2, .int .u32 (vl sq), .int .u32 (k : Int), .string T] rfl rfl L77.out ?c1 ?c2 ?c3 ?c5 ?_
          case c1 => simp [Value.oneCell']
          case c2 => omega
          case c3 => unfold maxLen; omega
          case c5 => exact bw21.out.size
          intro g cap2 w9 hown9 hgrow9 hat9 hlt9
          have HB9 := Lib.hid (below_append bw21.out hgrow9 bw21.out.size (fun t ht => (owns_lt HO.out t ht).2))
          have HO9 := Lib.hid hown9
          have vg9 := Lib.hid (vw4g.out.below HB9.out vw4g.out.lt)
          clear hown9 hgrow9 hat9 hlt9 hmn hsl
          have vf701 := (show Var w9 (w.heap.size) 23 [.int .i64 gp, .int .i64 gs, .int .i64 gr] from vg9.out)
          have c702 := vf701.cell (j := 0) rfl
          have c703 := vf701.cell (j := 1) rfl
          have c704 := vf701.cell (j := 2) rfl
          clear vf701
          go_wp2_with (first
    | (go_at_call 28; ((with_reducible refine (HRM.out _).mono ?_); rintro e w41 ⟨rfl, bz⟩; have hbel : Below w9.heap.size w9 w41 := (by exact bz); clear bz; have bw41 := Lib.hid (bel2 HB9.out hbel); have zw41 := Lib.hid hbel.size; have vw41g := Lib.hid (vg9.out.below hbel vg9.out.lt); clear c702 c703 c704; have HO10 := Lib.hid (owns_below HO9.out hbel))))
          go_roundw
          case rel => exact ⟨k + 1, by omega, by rw [HPP.out, Int.natCast_add], by unfold FMine; rw [partsTo_len, partsTo_succ, flatF_snoc, HFC.out]; exact HO10.out, bw41.out⟩
          case measure => simp [intOf]; omega
      case neg =>
        obtain rfl : k = N := by omega
        have h0 : ¬ k * r < B.size := fun h => hlt ((HSP.out k).1 h)
        obtain ⟨p, hp⟩ : ∃ p, p = k * r := ⟨_, rfl⟩
        rw [← hp] at h0 ⊢
        have q1 : decide ((p : Int) < (B.size : Int)) = false := by simp; omega
        have q2 : decide (p < B.size) = false := by simp; omega
        have hk32 : (k : Int) % 4294967296 = (k : Int) := by omega
        have hB32 : (B.size : Int) % 4294967296 = (B.size : Int) := by omega
        clear h0 hp
        go_wp2
        refine wp_region_is_tail 16 [79, 80, 81, 82, 83, 84, 85, 86, 87, 88, 89, 90, 91, 92, 93, 94] (fun w' => Below wr.heap.size wr w')
          [.pointer (some ⟨w.heap.size + 1, 1, none⟩), .int .u32 (vl pv), .string P1, .pointer (some ⟨w.heap.size + 1, 2, none⟩), .int .u32 (vl fr), .string P2, .string (P1 ++ P2), .string B, .int .u32 cs, .string P3, .string (P1 ++ P2 ++ P3), .string B, .int .i64 (B.size : Int), .int .u32 (B.size : Int), .string P4, .string (P1 ++ P2 ++ P3 ++ P4)] (by kernel_rfl) (by kernel_rfl) (by kernel_rfl) (by decide) rfl (by decide) (by simp) (Below.refl _ _).drew ?each ?done
        case each =>
          simp only [List.take_succ_cons, List.take_zero, Each]
          repeat' (first | exact trivial | refine And.intro ?_ ?_)
          all_goals
            intro ys wx hBx hdeps
            simp only [Deps, Region.binds, List.getD_cons_zero, List.getD_cons_succ, forall_const, and_true] at hdeps
            have q501 := (vx.out.below hBx vx.out.lt).cell (j := 1) rfl
            have q502 := (vx.out.below hBx vx.out.lt).cell (j := 2) rfl
            simp only [hdeps, fill, List.foldl_cons, List.foldl_nil, Act.put, List.setIfInBounds_toArray, List.set_cons_succ, List.set_cons_zero]
            first
              | (go_wp2_with fail; exact ⟨_, rfl, rfl, hBx, Below.refl _ _⟩)
              | (go_wp2_with (go_at_call 29; (with_reducible refine (HQ1.out _).mono ?_); rintro e w3 ⟨rfl, hbm⟩); exact ⟨_, rfl, rfl, hBx.trans (hbm.mono hBx.size), hbm⟩)
              | (go_wp2_with (go_at_call 29; (with_reducible refine (HQ2.out _).mono ?_); rintro e w3 ⟨rfl, hbm⟩); exact ⟨_, rfl, rfl, hBx.trans (hbm.mono hBx.size), hbm⟩)
              | (go_wp2_with (go_at_call 29; (with_reducible refine (HQ3.out _).mono ?_); rintro e w3 ⟨rfl, hbm⟩); exact ⟨_, rfl, rfl, hBx.trans (hbm.mono hBx.size), hbm⟩)
              | (go_wp2_with (go_at_call 29; (with_reducible refine (HQ4.out _).mono ?_); rintro e w3 ⟨rfl, hbm⟩); exact ⟨_, rfl, rfl, hBx.trans (hbm.mono hBx.size), hbm⟩)
              | (go_wp2_with (go_at_call 21; (with_reducible refine (HCR.out _).mono ?_); rintro e w3 ⟨rfl, rfl⟩); exact ⟨_, rfl, rfl, hBx, Below.refl _ _⟩)
        case done =>
          intro ys wx hBx hV
          obtain ⟨w21, hw21⟩ : ∃ wy, wy = wx := ⟨_, rfl⟩
          rw [← hw21] at hBx ⊢
          have hEXIT := Lib.hid hBx
          have bw21 := Lib.hid (bel2 HB.out hBx)
          have zw21 := Lib.hid hBx.size
          have vw21g := Lib.hid (vg.out.below hBx vg.out.lt)
          have vw21x := Lib.hid (vx.out.below hBx vx.out.lt)
          have h94 : ys 94 = .string (P1 ++ P2 ++ P3 ++ P4) := hV 15 (by decide)
          clear hBx hV hw21
          simp only [h94, fill, List.drop_succ_cons, List.drop_zero, List.foldl_cons, List.foldl_nil, Act.put, List.setIfInBounds_toArray, List.set_cons_succ, List.set_cons_zero]
          have vf503 := (show Var w21 (w.heap.size + 1) 27 [.int .u32 (vl sq), .int .u32 (vl pv), .int .u32 (vl fr), .slice a n cap] from vw21x.out)
          have c504 := vf503.cell (j := 0) rfl
          have c505 := vf503.cell (j := 1) rfl
          have c506 := vf503.cell (j := 2) rfl
          have c507 := vf503.cell (j := 3) rfl
          clear vf503
          go_wp2_with (at_builtin; go_loud ((refine append_tup rfl _ _ 30 rfl w4.heap.size 29 (.agg #[.int .i64 0, .int .u32 0, .int .u32 0, .string ⟨#[]⟩]) 4 32 Tryz.underlying30 infoF rfl (by decide) (.slice a9 k c9) k (flatF (partsTo sq r D k)) rfl (owns_below HO.out (hEXIT.out.alloc hEXIT.out.size _)) w21.heap.size [.int .i64 3, .int .u32 (vl sq), .int .u32 (k : Int), .string (P1 ++ P2 ++ P3 ++ P4)] rfl rfl ?c0 ?c1 ?c2 ?c3 ?c5 ?_); (case c0 => exact lies_new _ [.int .i64 3, .int .u32 (vl sq), .int .u32 (k : Int), .string (P1 ++ P2 ++ P3 ++ P4)] _); (case c1 => simp [Value.oneCell']); (case c2 => omega); (case c3 => (unfold maxLen; omega)); (case c5 => exact (bel2 bw21.out (Geom.bel_alloc _ _)).size); intro g cap2 w9 hown9 hgrow9 hat9 hlt9))
          have HB9 := Lib.hid (below_append (bel2 bw21.out (Geom.bel_alloc _ _)) hgrow9 (bel2 bw21.out (Geom.bel_alloc _ _)).size (fun t ht => (owns_lt HO.out t ht).2))
          go_ret2
          exact ⟨_, rfl, by rw [HPF.out]; unfold FMine; rw [flatF_snoc, hff, List.length_append, partsTo_len]; exact owns_base hown9 bw4.out.size, bel2 bw4.out HB9.out⟩
end Go.Proofs.YtligapgjdpdihaaGreatDoor.Group
/-
  What the document's Cut answers, for any group.
-/
set_option linter.unusedVariables false
set_option linter.unusedSimpArgs false
namespace Go.Proofs.YtligapgjdpdihaaGreatDoor.Group
open Go.RowKit
open CrcM (W)
open Crc (le4 sumOf vl wd putS)
open Flash (bs bs_size bs_list list_bs cut)
open Go.Proofs.YtligapgjdpdihaaGreatDoor.Frame (Fr zeroF fV fC bel2 below_drewN)
open Piece (pieceR isSeqB)
open Tup Bytes Own
open Geom (Gm gV rightG mostG needG Small right_small roomG)
open Batch (Wr WAt WMine bytesW layB rightW readW)
open Piece (four sealR)
open Go.Proofs.YtligapgjdpdihaaGreatDoor.Region (fill Then Deps Each wp_region_is wp_region_is_tail wp_region_each wp_region_tail)
theorem form_not {x : Gp} (h : formG x = false) : decide (vl x.seq ≤ vl x.prev) = true ∨ (decide (vl x.seq ≤ vl x.prev) = false ∧ decide (vl x.frm < 1) = true) ∨ (decide (vl x.seq ≤ vl x.prev) = false ∧ decide (vl x.frm < 1) = false ∧ decide (vl x.seq < vl x.frm) = true) ∨ (decide (vl x.seq ≤ vl x.prev) = false ∧ decide (vl x.frm < 1) = false ∧ decide (vl x.seq < vl x.frm) = false ∧ decide (2147483647 < vl x.seq) = true) := by
  unfold formG isSeqB at h
  simp only [Bool.and_eq_false_iff, decide_eq_false_iff_not, decide_eq_true_eq] at h ⊢
  omega
theorem form_yes {x : Gp} (h : formG x = true) : decide (vl x.seq ≤ vl x.prev) = false ∧ decide (vl x.frm < 1) = false ∧ decide (vl x.seq < vl x.frm) = false ∧ decide (2147483647 < vl x.seq) = false := by
  unfold formG isSeqB at h
  simp only [Bool.and_eq_true, decide_eq_false_iff_not, decide_eq_true_eq] at h ⊢
  omega
theorem putS_size (x : W) : (putS x).size = 4 := rfl
theorem bs_four (a b c d : W) : bs (four a b c d) = putS a ++ putS b ++ putS c ++ putS d := by
  apply ByteArray.ext
  simp only [ByteArray.data_append]
  unfold putS four bs
  simp
theorem refCut_any (g : Gm) (x : Gp) (a : Option Addr) (cap : Nat) (hl : x.wr.length ≤ maxLen) (hz : ∀ y ∈ x.wr, y.key.size ≤ 8796093022208) (w : World) (hr : WAt w a x.wr) :
    Calls Tryz.prog 10 #[gV g, gpV x (.slice a x.wr.length cap)] w (CutSays (cutG g x) w) := by
  have HRW := Lib.hid hr
  have HR := Lib.hid (fun w => Geom.refRight_any g w)
  have HBY := Lib.hid (fun w hr => Batch.refBytes_any a x.wr cap hl hz w hr)
  unfold cutG
  cases hg : rightG g with
  | false =>
    rw [hg] at HR
    rw [if_pos rfl]
    exact rcut_1 g.page g.pages g.regions x.seq x.prev x.frm a x.wr.length cap x.wr ByteArray.empty HR w HRW
  | true =>
    rw [hg] at HR
    rw [if_neg (by simp)]
    by_cases hc : (bytesW x.wr).2 ≠ 0
    · rw [if_pos hc]
      have qc : (((bytesW x.wr).2 : Int) == 0) = false := by rw [beq_eq_false_iff_ne]; omega
      exact rcut_2 g.page g.pages g.regions x.seq x.prev x.frm a x.wr.length cap x.wr _ (bytesW x.wr).2 qc (by rw [bne, qc]; rfl) HR HBY w HRW
    rw [if_neg hc]
    have hc0 : (bytesW x.wr).2 = 0 := by omega
    rw [hc0] at HBY
    obtain ⟨B, hB⟩ : ∃ B, B = (bytesW x.wr).1 := ⟨_, rfl⟩
    have hBs := bytes_small hc0
    rw [← hB] at HBY hBs ⊢
    have hbs : bs B.data.toList = B := bs_list B
    have hbl : B.data.toList.length = B.size := by simp
    have hsm := right_small.1 hg
    obtain ⟨rp1, rp2, rp3⟩ := roomN_pos hsm
    cases hx : formG x with
    | false =>
      rw [if_pos rfl]
      rcases form_not hx with t0 | ⟨t0, t1⟩ | ⟨t0, t1, t2⟩ | ⟨t0, t1, t2, t3⟩
      · exact rcut_3a g.page g.pages g.regions x.seq x.prev x.frm a x.wr.length cap x.wr B t0 HR HBY w HRW
      · exact rcut_3b g.page g.pages g.regions x.seq x.prev x.frm a x.wr.length cap x.wr B t0 t1 HR HBY w HRW
      · exact rcut_3c g.page g.pages g.regions x.seq x.prev x.frm a x.wr.length cap x.wr B t0 t1 t2 HR HBY w HRW
      · exact rcut_3d g.page g.pages g.regions x.seq x.prev x.frm a x.wr.length cap x.wr B t0 t1 t2 t3 HR HBY w HRW
    | true =>
      rw [if_neg (by simp)]
      obtain ⟨t0, t1, t2, t3⟩ := form_yes hx
      have HN := Lib.hid (fun w => Geom.refNeed_any g hsm (B.size : Int) w)
      have HM := Lib.hid (fun w => Geom.refMost_any g hsm w)
      have HRM := Lib.hid (fun w => Geom.refRoom_any g hsm w)
      by_cases hm : mostG g < needG g (B.size : Int)
      · rw [if_pos hm]
        exact rcut_4 g.page g.pages g.regions x.seq x.prev x.frm a x.wr.length cap x.wr B t0 t1 t2 t3 _ _ (by omega) (decide_eq_true hm) HR HBY HN HM w HRW
      · rw [if_neg hm]
        rw [show roomG g = ((roomN g : Nat) : Int) by rw [rp3]; rfl] at HRM
        have HCR := Lib.hid (fun w => Crc.refCrc_any B (by unfold maxLen; omega) w)
        have HQ1 := Lib.hid (fun w => Frame.refPut_any x.prev w)
        have HQ2 := Lib.hid (fun w => Frame.refPut_any x.frm w)
        have HQ3 := Lib.hid (fun w => Frame.refPut_any (CrcM.sum B.data.toList) w)
        have HQ4 := Lib.hid (fun w => Frame.refPut_any (wd (B.size : Int)) w)
        rw [Crc.vl_wd (by omega) (by omega)] at HQ4
        have hnle : partsN (roomN g) B.size ≤ 1000000 := by
          have h := (partsN_spec (n := B.size) (show 0 < roomN g by omega) (partsN (roomN g) B.size - 1)).2
          by_cases h0 : partsN (roomN g) B.size = 0
          · omega
          · have h1 := h (by omega)
            have h2 : partsN (roomN g) B.size - 1 ≤ (partsN (roomN g) B.size - 1) * roomN g := Nat.le_mul_of_pos_right _ (by omega)
            omega
        have hff : fC (sealF x (partsN (roomN g) B.data.toList.length) B.data.toList) = [.int .i64 3, .int .u32 (vl x.seq), .int .u32 (partsN (roomN g) B.data.toList.length : Int), .string (putS x.prev ++ putS x.frm ++ putS (CrcM.sum B.data.toList) ++ putS (wd (B.size : Int)))] := by
          unfold sealF fC
          simp only
          rw [hbl, bs_four, Crc.vl_wd (by omega) (by omega)]
        exact rcut_5 g.page g.pages g.regions x.seq x.prev x.frm a x.wr.length cap x.wr B t0 t1 t2 t3 _ _ (by omega) (decide_eq_false hm) B.data.toList hbs (roomN g) (by omega) (by omega) _ _ _ _ _ _ (putS_size _) (putS_size _) (putS_size _) (putS_size _) hff HR HBY HN HM HRM HQ1 HQ2 HQ3 HQ4 HCR w HRW
end Go.Proofs.YtligapgjdpdihaaGreatDoor.Group
