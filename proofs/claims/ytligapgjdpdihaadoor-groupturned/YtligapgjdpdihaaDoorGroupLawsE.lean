/-
  The walk of GroupTurned.
-/
import Derived.Test.YtligapgjdpdihaaDoorGroupLawsS
set_option linter.unusedVariables false
set_option linter.unusedSimpArgs false
namespace Go.Proofs.YtligapgjdpdihaaDoor.Group
open Go.RowKit
open CrcM (W)
open Crc (le4 sumOf vl wd putS)
open Flash (bs bs_size bs_list list_bs cut)
open Go.Proofs.YtligapgjdpdihaaDoor.Frame (Fr zeroF fV fC bel2 below_drewN)
open Piece (pieceR isSeqB)
open Tup Bytes Own
open Bytes (Row8 bytes_below)
open Geom (Gm gV rightG mostG needG Small right_small smallG small_small)
open Batch (Wr WAt WMine Tb bytesW layB rightW readW writesOf makeW)
open Go.Proofs.YtligapgjdpdihaaDoor.Region (fill Then Deps Each wp_region_is wp_region_is_tail wp_region_each wp_region_tail)
set_option maxRecDepth 100000 in
set_option maxHeartbeats 8000000 in
theorem turned_x (gp gs gr hp hq hr : Int) (sq pv fr : W) (a : Option Addr) (n cap : Nat) (L : List Wr) (s0 s1 s2 : W) (M : List Wr) (PL : List Fr) (at_ b1 : Int) (i j : Nat) (hi : i + 1 < PL.length) (hfew : PL.length ≤ 1000) (XB X2 : ByteArray) (hj : j < XB.size) (hXz : XB.size ≤ 1048576) (hx1 : (flatF PL)[i * 4 + 3]? = some (.string XB)) (PL2 : List Fr) (hset : (flatF PL).set (i * 4 + 3) (.string X2) = flatF PL2) (x y z : UInt8) (hy : y = XB.data.toList.getD j 0) (hX2 : X2 = bs (XB.data.toList.set j z)) (hxr : bits .xor .u8 (y.toNat : Int) (x.toNat : Int) = (z.toNat : Int)) (c0 : (((x.toNat : Int)) == 0) = false)
    (HGE : Hid (∀ w, Calls Tryd.prog 9 #[.agg #[.int .i64 gp, .int .i64 gs, .int .i64 gr]] w fun e w' => e = .returned (.agg #[.int .i64 hp, .int .i64 hq, .int .i64 hr]) ∧ Below w.heap.size w w'))
    (HSH : Hid (∀ w, WAt w a L → Calls Tryd.prog 11 #[.agg #[.int .u32 (vl sq), .int .u32 (vl pv), .int .u32 (vl fr), .slice a n cap]] w fun e w' => ∃ va vc, e = .returned (.agg #[.int .u32 (vl s0), .int .u32 (vl s1), .int .u32 (vl s2), .slice va M.length vc]) ∧ WMine w' w.heap.size (.slice va M.length vc) M ∧ Below w.heap.size w w'))
    (HC : Hid (∀ w a c, Tb w → WAt w a M → Calls Tryd.prog 12 #[.agg #[.int .i64 hp, .int .i64 hq, .int .i64 hr], .agg #[.int .u32 (vl s0), .int .u32 (vl s1), .int .u32 (vl s2), .slice a M.length c]] w fun e w' => ∃ va vc, e = .returned (.tuple #[.slice va PL.length vc, .int .i64 0]) ∧ FMine w' w.heap.size (.slice va PL.length vc) PL ∧ Below w.heap.size w w'))
    (HAL : Hid (∀ w, Tb w → Calls Tryd.prog 14 #[] w fun e w' => e = .returned (.bool true) ∧ Below w.heap.size w w'))
    (HPK : Hid (∀ w, Calls Tryd.prog 22 #[.int .i64 at_, .int .i64 ((PL.length : Int) - 1)] w fun e w' => e = .returned (.int .i64 (i : Int)) ∧ w = w'))
    (HPL : Hid (∀ w, Calls Tryd.prog 22 #[.int .i64 b1, .int .i64 (XB.size : Int)] w fun e w' => e = .returned (.int .i64 (j : Int)) ∧ w = w'))
    (HJ : Hid (∀ w base a c, Tb w → w.ownsRow base 49 4 (.slice a PL.length c) PL.length (flatF PL2) → Calls Tryd.prog 16 #[.slice a PL.length c] w fun e w' => ∃ va vc, e = .returned (.tuple #[.agg #[.int .u32 0, .int .u32 0, .int .u32 0, .slice va 0 vc], .int .i64 5]) ∧ Below w.heap.size w w')) (w : World) (HT : Hid (Tb w)) (HRW : Hid (WAt w a L)) :
    Calls Tryd.prog 6 #[.agg #[.int .i64 gp, .int .i64 gs, .int .i64 gr], .agg #[.int .u32 (vl sq), .int .u32 (vl pv), .int .u32 (vl fr), .slice a n cap], .int .i64 at_, .int .i64 b1, .int .u8 (x.toNat : Int)] w fun e w' => e = .returned (.bool true) ∧ Below w.heap.size w w' := by
  have h2 : 2 ≤ PL.length := by omega
  have HSL := Lib.hid (show XB.data.toList.length = XB.size by simp)
  have HY := Lib.hid hy
  have HX2 := Lib.hid hX2
  have HX1 := Lib.hid hx1
  have HSET := Lib.hid hset
  have hip2 : (i : Int) < (PL.length : Int) := by omega
  have hip3 : i < PL.length := by omega
  have hj2 : (j : Int) < (XB.size : Int) := by omega
  have qe : (XB.toList == ([] : List UInt8)) = false := by
    rw [ByteArray.toList_eq]
    cases hh : XB.data.toList with
    | nil => have : XB.data.toList.length = XB.size := by simp
             rw [hh] at this; simp at this; omega
    | cons _ _ => rfl
  have hcv := fun w => Lib.run_convert_string_bytes (P := Tryd.prog) w 9 50 5 XB Tryd.underlying9 Tryd.underlying50 Tryd.underlying5
  have HRB8 := Lib.hid (fun w => show Row8 (Lib.bytesWorld w 5 XB) w.heap.size XB.data.toList from Row8.of_string w 5 XB)
  have HC1 := Lib.hid (fun w => show (Lib.bytesWorld w 5 XB).cell? ⟨w.heap.size, j, none⟩ = some (.int .u8 (y.toNat : Int)) ∧ (Lib.bytesWorld w 5 XB).frozen? ⟨w.heap.size, j, none⟩ = false by rw [HY.out]; exact HRB8.out w j (by rw [HSL.out]; exact hj))
  have HTX := Lib.hid (fun w cap => show (convert 50 9 (.slice (some ⟨w.heap.size, 0, none⟩) XB.size cap)).run Tryd.prog ((Lib.bytesWorld w 5 XB).setCell ⟨w.heap.size, j, none⟩ (.int .u8 (z.toNat : Int))) = .ok (.string X2) ((Lib.bytesWorld w 5 XB).setCell ⟨w.heap.size, j, none⟩ (.int .u8 (z.toNat : Int))) by
    rw [HX2.out]
    exact ((HRB8.out w).set j z (by rw [HSL.out]; exact hj)).text (P := Tryd.prog) 50 9 5 cap Tryd.underlying50 Tryd.underlying5 Tryd.underlying9 XB.size (by rw [List.length_set, HSL.out]))
  clear hy hX2 hx1 hset
  go_enter Tryd.func6, Tryd.ntmps6
  go_wp2
  obtain ⟨w1, hw1⟩ : ∃ wx, wx = ((w.alloc (.cells #[.int .i64 gp, .int .i64 gs, .int .i64 gr] 23)).alloc (.cells #[.int .u32 (vl sq), .int .u32 (vl pv), .int .u32 (vl fr), .slice a n cap] 27)) := ⟨_, rfl⟩
  have bw1 := Lib.hid (show Below w.heap.size w w1 by rw [hw1]; exact (bel2 (Geom.bel_alloc _ _) (Geom.bel_alloc _ _)))
  have zw1 := Lib.hid (show w.heap.size + 2 ≤ w1.heap.size by rw [hw1]; simp)
  have vw1g := Lib.hid (show Var w1 (w.heap.size) 23 [.int .i64 gp, .int .i64 gs, .int .i64 gr] by rw [hw1]; exact ((Var.new w 23 [.int .i64 gp, .int .i64 gs, .int .i64 gr]).alloc _))
  have vw1x := Lib.hid (show Var w1 (w.heap.size + 1) 27 [.int .u32 (vl sq), .int .u32 (vl pv), .int .u32 (vl fr), .slice a n cap] by rw [hw1]; exact (show Var ((w.alloc (.cells #[.int .i64 gp, .int .i64 gs, .int .i64 gr] 23)).alloc (.cells #[.int .u32 (vl sq), .int .u32 (vl pv), .int .u32 (vl fr), .slice a n cap] 27)) (w.heap.size + 1) 27 [.int .u32 (vl sq), .int .u32 (vl pv), .int .u32 (vl fr), .slice a n cap] from by have h := Var.new (w.alloc (.cells #[.int .i64 gp, .int .i64 gs, .int .i64 gr] 23)) 27 [.int .u32 (vl sq), .int .u32 (vl pv), .int .u32 (vl fr), .slice a n cap]; rw [show (w.alloc (.cells #[.int .i64 gp, .int .i64 gs, .int .i64 gr] 23)).heap.size = w.heap.size + 1 by simp] at h; exact h))
  rw [← hw1]
  refine wp_region_each [18, 19, 20, 21, 22, 17, 23, 24, 11, 12] (fun w' => Below w1.heap.size w1 w') (VT [.agg #[.int .i64 gp, .int .i64 gs, .int .i64 gr], .agg #[.int .i64 hp, .int .i64 hq, .int .i64 hr], .agg #[.int .u32 (vl sq), .int .u32 (vl pv), .int .u32 (vl fr), .slice a n cap], undef, undef, undef, undef, .int .i64 0, undef, .int .i64 0] [(3, gp2 w1.heap.size s0 s1 s2 M), (4, cut2 w1.heap.size PL 0), (5, cut2 w1.heap.size PL 0), (6, row2 w1.heap.size PL), (8, row2 w1.heap.size PL)]) (by kernel_rfl) (by kernel_rfl) rfl (by decide) (by simp) (VT.mono _ _) (Below.refl _ _).drew ?each ?done
  case each =>
    simp only [Each]
    refine ⟨?o0, ?o1, ?o2, ?o3, ?o4, ?o5, ?o6, ?o7, ?o8, ?o9, trivial⟩
    case o0 =>
      intro ys wx hBx hdeps
      clear hdeps
      have q1 := (vw1g.out.below hBx vw1g.out.lt).cell (j := 0) rfl
      have q2 := (vw1g.out.below hBx vw1g.out.lt).cell (j := 1) rfl
      have q3 := (vw1g.out.below hBx vw1g.out.lt).cell (j := 2) rfl
      simp only [fill, List.foldl_cons, List.foldl_nil, Act.put, List.setIfInBounds_toArray, List.set_cons_succ, List.set_cons_zero]
      go_wp2_with fail
      exact ⟨_, rfl, rfl, hBx, Below.refl _ _⟩
    case o1 =>
      intro ys wx hBx hdeps
      simp only [Deps, Region.binds, List.getD_cons_zero, List.getD_cons_succ, forall_const, and_true, true_and] at hdeps
      have y0 : ys 18 = .agg #[.int .i64 gp, .int .i64 gs, .int .i64 gr] := by first | exact hdeps | exact hdeps.1 | exact hdeps.2.1 | exact hdeps.2 | exact hdeps.2.2
      clear hdeps
      simp only [y0, fill, List.foldl_cons, List.foldl_nil, Act.put, List.setIfInBounds_toArray, List.set_cons_succ, List.set_cons_zero]
      go_wp2_with (go_at_call 9; (with_reducible refine (HGE.out _).mono ?_); rintro e w3 ⟨rfl, hbm⟩)
      exact ⟨_, rfl, rfl, hBx.trans (hbm.mono hBx.size), hbm⟩
    case o2 =>
      intro ys wx hBx hdeps
      clear hdeps
      have q4 := (vw1x.out.below hBx vw1x.out.lt).cell (j := 0) rfl
      have q5 := (vw1x.out.below hBx vw1x.out.lt).cell (j := 1) rfl
      have q6 := (vw1x.out.below hBx vw1x.out.lt).cell (j := 2) rfl
      have q7 := (vw1x.out.below hBx vw1x.out.lt).cell (j := 3) rfl
      simp only [fill, List.foldl_cons, List.foldl_nil, Act.put, List.setIfInBounds_toArray, List.set_cons_succ, List.set_cons_zero]
      go_wp2_with fail
      exact ⟨_, rfl, rfl, hBx, Below.refl _ _⟩
    case o3 =>
      intro ys wx hBx hdeps
      simp only [Deps, Region.binds, List.getD_cons_zero, List.getD_cons_succ, forall_const, and_true, true_and] at hdeps
      have y2 : ys 20 = .agg #[.int .u32 (vl sq), .int .u32 (vl pv), .int .u32 (vl fr), .slice a n cap] := by first | exact hdeps | exact hdeps.1 | exact hdeps.2.1 | exact hdeps.2 | exact hdeps.2.2
      clear hdeps
      simp only [y2, fill, List.foldl_cons, List.foldl_nil, Act.put, List.setIfInBounds_toArray, List.set_cons_succ, List.set_cons_zero]
      go_wp2_with (go_at_call 11; go_loud ((with_reducible refine (HSH.out _ (Batch.WAt.below HRW.out (bel2 bw1.out hBx))).mono ?_); rintro e w3 ⟨va, vc, rfl, hown, hbm⟩))
      exact ⟨_, rfl, ⟨(va, vc), rfl, owns_base hown hBx.size⟩, hBx.trans (hbm.mono hBx.size), hbm⟩
    case o4 =>
      intro ys wx hBx hdeps
      simp only [Deps, Region.binds, List.getD_cons_zero, List.getD_cons_succ, forall_const, and_true, true_and] at hdeps
      have y1 : ys 19 = .agg #[.int .i64 hp, .int .i64 hq, .int .i64 hr] := by first | exact hdeps.1 | exact hdeps.2.1 | exact hdeps.2.2.1 | exact hdeps.2 | exact hdeps.2.2 | exact hdeps.2.2.2
      have z3 : ∃ u : Option Addr × Nat, ys 21 = .agg #[.int .u32 (vl s0), .int .u32 (vl s1), .int .u32 (vl s2), .slice u.1 M.length u.2] ∧ Batch.WMine wx w1.heap.size (.slice u.1 M.length u.2) M := by first | exact hdeps.1 | exact hdeps.2.1 | exact hdeps.2.2.1 | exact hdeps.2 | exact hdeps.2.2 | exact hdeps.2.2.2
      with_reducible refine Exists.elim z3 ?_
      intro g3 hh
      have y3 := hh.1
      have r3 := hh.2
      clear hh z3
      clear hdeps
      simp only [y1, y3, fill, List.foldl_cons, List.foldl_nil, Act.put, List.setIfInBounds_toArray, List.set_cons_succ, List.set_cons_zero]
      go_wp2_with (go_at_call 12; (with_reducible refine (HC.out _ _ _ (Batch.Tb.below HT.out (bel2 bw1.out hBx)) (wat_mine r3)).mono ?_); rintro e w3 ⟨va, vc, rfl, hown, hbm⟩)
      exact ⟨_, rfl, ⟨(va, vc), rfl, hown.base hBx.size⟩, hBx.trans (hbm.mono hBx.size), hbm⟩
    case o5 =>
      intro ys wx hBx hdeps
      simp only [Deps, Region.binds, List.getD_cons_zero, List.getD_cons_succ, forall_const, and_true, true_and] at hdeps
      have z4 : ∃ u : Option Addr × Nat, ys 22 = .tuple #[.slice u.1 PL.length u.2, .int .i64 0] ∧ FMine wx w1.heap.size (.slice u.1 PL.length u.2) PL := by first | exact hdeps | exact hdeps.1 | exact hdeps.2.1 | exact hdeps.2 | exact hdeps.2.2
      with_reducible refine Exists.elim z4 ?_
      intro g4 hh
      have y4 := hh.1
      have r4 := hh.2
      clear hh z4
      clear hdeps
      simp only [y4, fill, List.foldl_cons, List.foldl_nil, Act.put, List.setIfInBounds_toArray, List.set_cons_succ, List.set_cons_zero]
      go_wp2_with fail
      exact ⟨_, rfl, ⟨g4, rfl, r4⟩, hBx, Below.refl _ _⟩
    case o6 =>
      intro ys wx hBx hdeps
      simp only [Deps, Region.binds, List.getD_cons_zero, List.getD_cons_succ, forall_const, and_true, true_and] at hdeps
      have z5 : ∃ u : Option Addr × Nat, ys 17 = .tuple #[.slice u.1 PL.length u.2, .int .i64 0] ∧ FMine wx w1.heap.size (.slice u.1 PL.length u.2) PL := by first | exact hdeps | exact hdeps.1 | exact hdeps.2.1 | exact hdeps.2 | exact hdeps.2.2
      with_reducible refine Exists.elim z5 ?_
      intro g5 hh
      have y5 := hh.1
      have r5 := hh.2
      clear hh z5
      clear hdeps
      simp only [y5, fill, List.foldl_cons, List.foldl_nil, Act.put, List.setIfInBounds_toArray, List.set_cons_succ, List.set_cons_zero]
      go_wp2_with fail
      exact ⟨_, rfl, ⟨g5, rfl, r5⟩, hBx, Below.refl _ _⟩
    case o7 =>
      intro ys wx hBx hdeps
      simp only [Deps, Region.binds, List.getD_cons_zero, List.getD_cons_succ, forall_const, and_true, true_and] at hdeps
      have z5 : ∃ u : Option Addr × Nat, ys 17 = .tuple #[.slice u.1 PL.length u.2, .int .i64 0] ∧ FMine wx w1.heap.size (.slice u.1 PL.length u.2) PL := by first | exact hdeps | exact hdeps.1 | exact hdeps.2.1 | exact hdeps.2 | exact hdeps.2.2
      with_reducible refine Exists.elim z5 ?_
      intro g5 hh
      have y5 := hh.1
      have r5 := hh.2
      clear hh z5
      clear hdeps
      simp only [y5, fill, List.foldl_cons, List.foldl_nil, Act.put, List.setIfInBounds_toArray, List.set_cons_succ, List.set_cons_zero]
      go_wp2_with fail
      exact ⟨_, rfl, rfl, hBx, Below.refl _ _⟩
    case o8 =>
      intro ys wx hBx hdeps
      simp only [Deps, Region.binds, List.getD_cons_zero, List.getD_cons_succ, forall_const, and_true, true_and] at hdeps
      have z6 : ∃ u : Option Addr × Nat, ys 23 = .slice u.1 PL.length u.2 ∧ FMine wx w1.heap.size (.slice u.1 PL.length u.2) PL := by first | exact hdeps | exact hdeps.1 | exact hdeps.2.1 | exact hdeps.2 | exact hdeps.2.2
      with_reducible refine Exists.elim z6 ?_
      intro g6 hh
      have y6 := hh.1
      have r6 := hh.2
      clear hh z6
      clear hdeps
      simp only [y6, fill, List.foldl_cons, List.foldl_nil, Act.put, List.setIfInBounds_toArray, List.set_cons_succ, List.set_cons_zero]
      go_wp2_with fail
      exact ⟨_, rfl, ⟨g6, rfl, r6⟩, hBx, Below.refl _ _⟩
    case o9 =>
      intro ys wx hBx hdeps
      simp only [Deps, Region.binds, List.getD_cons_zero, List.getD_cons_succ, forall_const, and_true, true_and] at hdeps
      have y7 : ys 24 = .int .i64 0 := by first | exact hdeps | exact hdeps.1 | exact hdeps.2.1 | exact hdeps.2 | exact hdeps.2.2
      clear hdeps
      simp only [y7, fill, List.foldl_cons, List.foldl_nil, Act.put, List.setIfInBounds_toArray, List.set_cons_succ, List.set_cons_zero]
      go_wp2_with fail
      exact ⟨_, rfl, rfl, hBx, Below.refl _ _⟩
  case done =>
    intro ys w2 hBx hV
    have bw2 := Lib.hid (bel2 bw1.out hBx)
    have zw2 := Lib.hid hBx.size
    have vw2g := Lib.hid (vw1g.out.below hBx vw1g.out.lt)
    have vw2x := Lib.hid (vw1x.out.below hBx vw1x.out.lt)
    have hh : ∃ u : Option Addr × Nat, ys 11 = .slice u.1 PL.length u.2 ∧ FMine w2 w1.heap.size (.slice u.1 PL.length u.2) PL := hV 8 (by decide)
    with_reducible refine Exists.elim hh ?_
    intro uP hh2
    have eP := hh2.1
    have MP := Lib.hid hh2.2
    clear hh hh2
    have h12 : ys 12 = .int .i64 0 := hV 9 (by decide)
    clear hBx hV
    simp only [eP, h12, fill, List.drop_succ_cons, List.drop_zero, List.foldl_cons, List.foldl_nil, Act.put, List.setIfInBounds_toArray, List.set_cons_succ, List.set_cons_zero]
    have h2' : 0 < PL.length := by omega
    have hlen2 : decide ((PL.length : Int) < 2) = false := by simp; omega
    have hlen2' : decide (PL.length < 2) = false := by simp; omega
    with_reducible refine Exists.elim (fmine_some MP.out h2') ?_
    intro gP hh
    have hgP := hh.1
    have hgB := hh.2
    clear hh
    have HMP := MP.out
    rw [hgP] at HMP ⊢
    have MQ := Lib.hid HMP
    clear HMP hgP
    generalize uP.2 = cP at *
    go_wp2_with (first
      | (go_at_call 14; go_loud ((with_reducible refine (HAL.out _ (Batch.Tb.below HT.out bw2.out)).mono ?_); rintro e w3 ⟨rfl, bz⟩; have hbel : Below w2.heap.size w2 w3 := (by exact bz); clear bz; have bw3 := Lib.hid (bel2 bw2.out hbel); have zw3 := Lib.hid hbel.size; have vw3g := Lib.hid (vw2g.out.below hbel vw2g.out.lt); have vw3x := Lib.hid (vw2x.out.below hbel vw2x.out.lt); have rw3P := Lib.hid (owns_below MQ.out hbel); clear hbel; have hgl := owns_lt' rw3P.out; have k0 := owns_cell rw3P.out HX1.out; have k1 := (HC1.out w3).1; have k2 := (HC1.out w3).2; have hlow := Lib.hid (show Below w3.heap.size w3 ((Lib.bytesWorld w3 5 XB).setCell ⟨w3.heap.size, j, none⟩ (.int .u8 (z.toNat : Int))) from (bytes_below w3 5 XB).setCell (Nat.le_refl _) _); have hTX := HTX.out w3; have rS := Lib.hid (show World.ownsRow ((Lib.bytesWorld w3 5 XB).setCell ⟨w3.heap.size, j, none⟩ (.int .u8 (z.toNat : Int))) w1.heap.size 49 4 (.slice (some ⟨gP, 0, none⟩) PL.length cP) PL.length (flatF PL) from owns_below rw3P.out hlow.out); have k3 := owns_cell rS.out HX1.out; have k4 := owns_frozen rS.out (i * 4 + 3); have r5 := Lib.hid (show World.ownsRow (((Lib.bytesWorld w3 5 XB).setCell ⟨w3.heap.size, j, none⟩ (.int .u8 (z.toNat : Int))).setCell ⟨gP, i * 4 + 3, none⟩ (.string X2)) w1.heap.size 49 4 (.slice (some ⟨gP, 0, none⟩) PL.length cP) PL.length (flatF PL2) from (by rw [← HSET.out]; exact owns_set rS.out (i * 4 + 3) (.string X2))); have hB5 := Lib.hid (show Below w.heap.size w (((Lib.bytesWorld w3 5 XB).setCell ⟨w3.heap.size, j, none⟩ (.int .u8 (z.toNat : Int))).setCell ⟨gP, i * 4 + 3, none⟩ (.string X2)) from (bel2 bw3.out hlow.out).setCell (p := ⟨gP, i * 4 + 3, none⟩) (by have := zw1.out; have := bw1.out.size; simp only; omega) _)))
      | (go_at_call 22; (with_reducible refine (HPK.out _).mono ?_); rintro e wsame ⟨rfl, rfl⟩)
      | (go_at_call 22; (with_reducible refine (HPL.out _).mono ?_); rintro e wsame ⟨rfl, rfl⟩)
      | (go_at_call 16; go_loud ((with_reducible refine (HJ.out _ _ _ _ (Batch.Tb.below HT.out hB5.out) r5.out).mono ?_); rintro e w9 ⟨va, vc, rfl, bz⟩; have bJ := Lib.hid (bel2 hB5.out bz); clear bz; have vf951 := (show Var (w9.alloc (.cells #[.int .u32 0, .int .u32 0, .int .u32 0, .slice va 0 vc] 27)) (w9.heap.size) 27 [.int .u32 0, .int .u32 0, .int .u32 0, .slice va 0 vc] from (Var.new w9 27 [.int .u32 0, .int .u32 0, .int .u32 0, .slice va 0 vc])); have c952 := vf951.cell (j := 0) rfl; have c953 := vf951.cell (j := 1) rfl; have c954 := vf951.cell (j := 2) rfl; have c955 := vf951.cell (j := 3) rfl; clear vf951)))
    go_ret
    exact ⟨rfl, (bel2 bJ.out (Geom.bel_alloc _ _))⟩
set_option maxRecDepth 100000 in
set_option maxHeartbeats 8000000 in
theorem turned_z (gp gs gr hp hq hr : Int) (sq pv fr : W) (a : Option Addr) (n cap : Nat) (L : List Wr) (s0 s1 s2 : W) (M : List Wr) (PL : List Fr) (at_ b1 : Int) (i j : Nat) (hi : i + 1 < PL.length) (hfew : PL.length ≤ 1000) (XB X2 : ByteArray) (hj : j < XB.size) (hXz : XB.size ≤ 1048576) (hx1 : (flatF PL)[i * 4 + 3]? = some (.string XB)) (PL2 : List Fr) (hset : (flatF PL).set (i * 4 + 3) (.string X2) = flatF PL2) (x y z : UInt8) (hy : y = XB.data.toList.getD j 0) (hX2 : X2 = bs (XB.data.toList.set j z)) (hxr : bits .xor .u8 (y.toNat : Int) 1 = (z.toNat : Int))
    (HGE : Hid (∀ w, Calls Tryd.prog 9 #[.agg #[.int .i64 gp, .int .i64 gs, .int .i64 gr]] w fun e w' => e = .returned (.agg #[.int .i64 hp, .int .i64 hq, .int .i64 hr]) ∧ Below w.heap.size w w'))
    (HSH : Hid (∀ w, WAt w a L → Calls Tryd.prog 11 #[.agg #[.int .u32 (vl sq), .int .u32 (vl pv), .int .u32 (vl fr), .slice a n cap]] w fun e w' => ∃ va vc, e = .returned (.agg #[.int .u32 (vl s0), .int .u32 (vl s1), .int .u32 (vl s2), .slice va M.length vc]) ∧ WMine w' w.heap.size (.slice va M.length vc) M ∧ Below w.heap.size w w'))
    (HC : Hid (∀ w a c, Tb w → WAt w a M → Calls Tryd.prog 12 #[.agg #[.int .i64 hp, .int .i64 hq, .int .i64 hr], .agg #[.int .u32 (vl s0), .int .u32 (vl s1), .int .u32 (vl s2), .slice a M.length c]] w fun e w' => ∃ va vc, e = .returned (.tuple #[.slice va PL.length vc, .int .i64 0]) ∧ FMine w' w.heap.size (.slice va PL.length vc) PL ∧ Below w.heap.size w w'))
    (HAL : Hid (∀ w, Tb w → Calls Tryd.prog 14 #[] w fun e w' => e = .returned (.bool true) ∧ Below w.heap.size w w'))
    (HPK : Hid (∀ w, Calls Tryd.prog 22 #[.int .i64 at_, .int .i64 ((PL.length : Int) - 1)] w fun e w' => e = .returned (.int .i64 (i : Int)) ∧ w = w'))
    (HPL : Hid (∀ w, Calls Tryd.prog 22 #[.int .i64 b1, .int .i64 (XB.size : Int)] w fun e w' => e = .returned (.int .i64 (j : Int)) ∧ w = w'))
    (HJ : Hid (∀ w base a c, Tb w → w.ownsRow base 49 4 (.slice a PL.length c) PL.length (flatF PL2) → Calls Tryd.prog 16 #[.slice a PL.length c] w fun e w' => ∃ va vc, e = .returned (.tuple #[.agg #[.int .u32 0, .int .u32 0, .int .u32 0, .slice va 0 vc], .int .i64 5]) ∧ Below w.heap.size w w')) (w : World) (HT : Hid (Tb w)) (HRW : Hid (WAt w a L)) :
    Calls Tryd.prog 6 #[.agg #[.int .i64 gp, .int .i64 gs, .int .i64 gr], .agg #[.int .u32 (vl sq), .int .u32 (vl pv), .int .u32 (vl fr), .slice a n cap], .int .i64 at_, .int .i64 b1, .int .u8 0] w fun e w' => e = .returned (.bool true) ∧ Below w.heap.size w w' := by
  have h2 : 2 ≤ PL.length := by omega
  have HSL := Lib.hid (show XB.data.toList.length = XB.size by simp)
  have HY := Lib.hid hy
  have HX2 := Lib.hid hX2
  have HX1 := Lib.hid hx1
  have HSET := Lib.hid hset
  have hip2 : (i : Int) < (PL.length : Int) := by omega
  have hip3 : i < PL.length := by omega
  have hj2 : (j : Int) < (XB.size : Int) := by omega
  have qe : (XB.toList == ([] : List UInt8)) = false := by
    rw [ByteArray.toList_eq]
    cases hh : XB.data.toList with
    | nil => have : XB.data.toList.length = XB.size := by simp
             rw [hh] at this; simp at this; omega
    | cons _ _ => rfl
  have hcv := fun w => Lib.run_convert_string_bytes (P := Tryd.prog) w 9 50 5 XB Tryd.underlying9 Tryd.underlying50 Tryd.underlying5
  have HRB8 := Lib.hid (fun w => show Row8 (Lib.bytesWorld w 5 XB) w.heap.size XB.data.toList from Row8.of_string w 5 XB)
  have HC1 := Lib.hid (fun w => show (Lib.bytesWorld w 5 XB).cell? ⟨w.heap.size, j, none⟩ = some (.int .u8 (y.toNat : Int)) ∧ (Lib.bytesWorld w 5 XB).frozen? ⟨w.heap.size, j, none⟩ = false by rw [HY.out]; exact HRB8.out w j (by rw [HSL.out]; exact hj))
  have HTX := Lib.hid (fun w cap => show (convert 50 9 (.slice (some ⟨w.heap.size, 0, none⟩) XB.size cap)).run Tryd.prog ((Lib.bytesWorld w 5 XB).setCell ⟨w.heap.size, j, none⟩ (.int .u8 (z.toNat : Int))) = .ok (.string X2) ((Lib.bytesWorld w 5 XB).setCell ⟨w.heap.size, j, none⟩ (.int .u8 (z.toNat : Int))) by
    rw [HX2.out]
    exact ((HRB8.out w).set j z (by rw [HSL.out]; exact hj)).text (P := Tryd.prog) 50 9 5 cap Tryd.underlying50 Tryd.underlying5 Tryd.underlying9 XB.size (by rw [List.length_set, HSL.out]))
  clear hy hX2 hx1 hset
  go_enter Tryd.func6, Tryd.ntmps6
  go_wp2
  obtain ⟨w1, hw1⟩ : ∃ wx, wx = ((w.alloc (.cells #[.int .i64 gp, .int .i64 gs, .int .i64 gr] 23)).alloc (.cells #[.int .u32 (vl sq), .int .u32 (vl pv), .int .u32 (vl fr), .slice a n cap] 27)) := ⟨_, rfl⟩
  have bw1 := Lib.hid (show Below w.heap.size w w1 by rw [hw1]; exact (bel2 (Geom.bel_alloc _ _) (Geom.bel_alloc _ _)))
  have zw1 := Lib.hid (show w.heap.size + 2 ≤ w1.heap.size by rw [hw1]; simp)
  have vw1g := Lib.hid (show Var w1 (w.heap.size) 23 [.int .i64 gp, .int .i64 gs, .int .i64 gr] by rw [hw1]; exact ((Var.new w 23 [.int .i64 gp, .int .i64 gs, .int .i64 gr]).alloc _))
  have vw1x := Lib.hid (show Var w1 (w.heap.size + 1) 27 [.int .u32 (vl sq), .int .u32 (vl pv), .int .u32 (vl fr), .slice a n cap] by rw [hw1]; exact (show Var ((w.alloc (.cells #[.int .i64 gp, .int .i64 gs, .int .i64 gr] 23)).alloc (.cells #[.int .u32 (vl sq), .int .u32 (vl pv), .int .u32 (vl fr), .slice a n cap] 27)) (w.heap.size + 1) 27 [.int .u32 (vl sq), .int .u32 (vl pv), .int .u32 (vl fr), .slice a n cap] from by have h := Var.new (w.alloc (.cells #[.int .i64 gp, .int .i64 gs, .int .i64 gr] 23)) 27 [.int .u32 (vl sq), .int .u32 (vl pv), .int .u32 (vl fr), .slice a n cap]; rw [show (w.alloc (.cells #[.int .i64 gp, .int .i64 gs, .int .i64 gr] 23)).heap.size = w.heap.size + 1 by simp] at h; exact h))
  rw [← hw1]
  refine wp_region_each [18, 19, 20, 21, 22, 17, 23, 24, 11, 12] (fun w' => Below w1.heap.size w1 w') (VT [.agg #[.int .i64 gp, .int .i64 gs, .int .i64 gr], .agg #[.int .i64 hp, .int .i64 hq, .int .i64 hr], .agg #[.int .u32 (vl sq), .int .u32 (vl pv), .int .u32 (vl fr), .slice a n cap], undef, undef, undef, undef, .int .i64 0, undef, .int .i64 0] [(3, gp2 w1.heap.size s0 s1 s2 M), (4, cut2 w1.heap.size PL 0), (5, cut2 w1.heap.size PL 0), (6, row2 w1.heap.size PL), (8, row2 w1.heap.size PL)]) (by kernel_rfl) (by kernel_rfl) rfl (by decide) (by simp) (VT.mono _ _) (Below.refl _ _).drew ?each ?done
  case each =>
    simp only [Each]
    refine ⟨?o0, ?o1, ?o2, ?o3, ?o4, ?o5, ?o6, ?o7, ?o8, ?o9, trivial⟩
    case o0 =>
      intro ys wx hBx hdeps
      clear hdeps
      have q1 := (vw1g.out.below hBx vw1g.out.lt).cell (j := 0) rfl
      have q2 := (vw1g.out.below hBx vw1g.out.lt).cell (j := 1) rfl
      have q3 := (vw1g.out.below hBx vw1g.out.lt).cell (j := 2) rfl
      simp only [fill, List.foldl_cons, List.foldl_nil, Act.put, List.setIfInBounds_toArray, List.set_cons_succ, List.set_cons_zero]
      go_wp2_with fail
      exact ⟨_, rfl, rfl, hBx, Below.refl _ _⟩
    case o1 =>
      intro ys wx hBx hdeps
      simp only [Deps, Region.binds, List.getD_cons_zero, List.getD_cons_succ, forall_const, and_true, true_and] at hdeps
      have y0 : ys 18 = .agg #[.int .i64 gp, .int .i64 gs, .int .i64 gr] := by first | exact hdeps | exact hdeps.1 | exact hdeps.2.1 | exact hdeps.2 | exact hdeps.2.2
      clear hdeps
      simp only [y0, fill, List.foldl_cons, List.foldl_nil, Act.put, List.setIfInBounds_toArray, List.set_cons_succ, List.set_cons_zero]
      go_wp2_with (go_at_call 9; (with_reducible refine (HGE.out _).mono ?_); rintro e w3 ⟨rfl, hbm⟩)
      exact ⟨_, rfl, rfl, hBx.trans (hbm.mono hBx.size), hbm⟩
    case o2 =>
      intro ys wx hBx hdeps
      clear hdeps
      have q4 := (vw1x.out.below hBx vw1x.out.lt).cell (j := 0) rfl
      have q5 := (vw1x.out.below hBx vw1x.out.lt).cell (j := 1) rfl
      have q6 := (vw1x.out.below hBx vw1x.out.lt).cell (j := 2) rfl
      have q7 := (vw1x.out.below hBx vw1x.out.lt).cell (j := 3) rfl
      simp only [fill, List.foldl_cons, List.foldl_nil, Act.put, List.setIfInBounds_toArray, List.set_cons_succ, List.set_cons_zero]
      go_wp2_with fail
      exact ⟨_, rfl, rfl, hBx, Below.refl _ _⟩
    case o3 =>
      intro ys wx hBx hdeps
      simp only [Deps, Region.binds, List.getD_cons_zero, List.getD_cons_succ, forall_const, and_true, true_and] at hdeps
      have y2 : ys 20 = .agg #[.int .u32 (vl sq), .int .u32 (vl pv), .int .u32 (vl fr), .slice a n cap] := by first | exact hdeps | exact hdeps.1 | exact hdeps.2.1 | exact hdeps.2 | exact hdeps.2.2
      clear hdeps
      simp only [y2, fill, List.foldl_cons, List.foldl_nil, Act.put, List.setIfInBounds_toArray, List.set_cons_succ, List.set_cons_zero]
      go_wp2_with (go_at_call 11; go_loud ((with_reducible refine (HSH.out _ (Batch.WAt.below HRW.out (bel2 bw1.out hBx))).mono ?_); rintro e w3 ⟨va, vc, rfl, hown, hbm⟩))
      exact ⟨_, rfl, ⟨(va, vc), rfl, owns_base hown hBx.size⟩, hBx.trans (hbm.mono hBx.size), hbm⟩
    case o4 =>
      intro ys wx hBx hdeps
      simp only [Deps, Region.binds, List.getD_cons_zero, List.getD_cons_succ, forall_const, and_true, true_and] at hdeps
      have y1 : ys 19 = .agg #[.int .i64 hp, .int .i64 hq, .int .i64 hr] := by first | exact hdeps.1 | exact hdeps.2.1 | exact hdeps.2.2.1 | exact hdeps.2 | exact hdeps.2.2 | exact hdeps.2.2.2
      have z3 : ∃ u : Option Addr × Nat, ys 21 = .agg #[.int .u32 (vl s0), .int .u32 (vl s1), .int .u32 (vl s2), .slice u.1 M.length u.2] ∧ Batch.WMine wx w1.heap.size (.slice u.1 M.length u.2) M := by first | exact hdeps.1 | exact hdeps.2.1 | exact hdeps.2.2.1 | exact hdeps.2 | exact hdeps.2.2 | exact hdeps.2.2.2
      with_reducible refine Exists.elim z3 ?_
      intro g3 hh
      have y3 := hh.1
      have r3 := hh.2
      clear hh z3
      clear hdeps
      simp only [y1, y3, fill, List.foldl_cons, List.foldl_nil, Act.put, List.setIfInBounds_toArray, List.set_cons_succ, List.set_cons_zero]
      go_wp2_with (go_at_call 12; (with_reducible refine (HC.out _ _ _ (Batch.Tb.below HT.out (bel2 bw1.out hBx)) (wat_mine r3)).mono ?_); rintro e w3 ⟨va, vc, rfl, hown, hbm⟩)
      exact ⟨_, rfl, ⟨(va, vc), rfl, hown.base hBx.size⟩, hBx.trans (hbm.mono hBx.size), hbm⟩
    case o5 =>
      intro ys wx hBx hdeps
      simp only [Deps, Region.binds, List.getD_cons_zero, List.getD_cons_succ, forall_const, and_true, true_and] at hdeps
      have z4 : ∃ u : Option Addr × Nat, ys 22 = .tuple #[.slice u.1 PL.length u.2, .int .i64 0] ∧ FMine wx w1.heap.size (.slice u.1 PL.length u.2) PL := by first | exact hdeps | exact hdeps.1 | exact hdeps.2.1 | exact hdeps.2 | exact hdeps.2.2
      with_reducible refine Exists.elim z4 ?_
      intro g4 hh
      have y4 := hh.1
      have r4 := hh.2
      clear hh z4
      clear hdeps
      simp only [y4, fill, List.foldl_cons, List.foldl_nil, Act.put, List.setIfInBounds_toArray, List.set_cons_succ, List.set_cons_zero]
      go_wp2_with fail
      exact ⟨_, rfl, ⟨g4, rfl, r4⟩, hBx, Below.refl _ _⟩
    case o6 =>
      intro ys wx hBx hdeps
      simp only [Deps, Region.binds, List.getD_cons_zero, List.getD_cons_succ, forall_const, and_true, true_and] at hdeps
      have z5 : ∃ u : Option Addr × Nat, ys 17 = .tuple #[.slice u.1 PL.length u.2, .int .i64 0] ∧ FMine wx w1.heap.size (.slice u.1 PL.length u.2) PL := by first | exact hdeps | exact hdeps.1 | exact hdeps.2.1 | exact hdeps.2 | exact hdeps.2.2
      with_reducible refine Exists.elim z5 ?_
      intro g5 hh
      have y5 := hh.1
      have r5 := hh.2
      clear hh z5
      clear hdeps
      simp only [y5, fill, List.foldl_cons, List.foldl_nil, Act.put, List.setIfInBounds_toArray, List.set_cons_succ, List.set_cons_zero]
      go_wp2_with fail
      exact ⟨_, rfl, ⟨g5, rfl, r5⟩, hBx, Below.refl _ _⟩
    case o7 =>
      intro ys wx hBx hdeps
      simp only [Deps, Region.binds, List.getD_cons_zero, List.getD_cons_succ, forall_const, and_true, true_and] at hdeps
      have z5 : ∃ u : Option Addr × Nat, ys 17 = .tuple #[.slice u.1 PL.length u.2, .int .i64 0] ∧ FMine wx w1.heap.size (.slice u.1 PL.length u.2) PL := by first | exact hdeps | exact hdeps.1 | exact hdeps.2.1 | exact hdeps.2 | exact hdeps.2.2
      with_reducible refine Exists.elim z5 ?_
      intro g5 hh
      have y5 := hh.1
      have r5 := hh.2
      clear hh z5
      clear hdeps
      simp only [y5, fill, List.foldl_cons, List.foldl_nil, Act.put, List.setIfInBounds_toArray, List.set_cons_succ, List.set_cons_zero]
      go_wp2_with fail
      exact ⟨_, rfl, rfl, hBx, Below.refl _ _⟩
    case o8 =>
      intro ys wx hBx hdeps
      simp only [Deps, Region.binds, List.getD_cons_zero, List.getD_cons_succ, forall_const, and_true, true_and] at hdeps
      have z6 : ∃ u : Option Addr × Nat, ys 23 = .slice u.1 PL.length u.2 ∧ FMine wx w1.heap.size (.slice u.1 PL.length u.2) PL := by first | exact hdeps | exact hdeps.1 | exact hdeps.2.1 | exact hdeps.2 | exact hdeps.2.2
      with_reducible refine Exists.elim z6 ?_
      intro g6 hh
      have y6 := hh.1
      have r6 := hh.2
      clear hh z6
      clear hdeps
      simp only [y6, fill, List.foldl_cons, List.foldl_nil, Act.put, List.setIfInBounds_toArray, List.set_cons_succ, List.set_cons_zero]
      go_wp2_with fail
      exact ⟨_, rfl, ⟨g6, rfl, r6⟩, hBx, Below.refl _ _⟩
    case o9 =>
      intro ys wx hBx hdeps
      simp only [Deps, Region.binds, List.getD_cons_zero, List.getD_cons_succ, forall_const, and_true, true_and] at hdeps
      have y7 : ys 24 = .int .i64 0 := by first | exact hdeps | exact hdeps.1 | exact hdeps.2.1 | exact hdeps.2 | exact hdeps.2.2
      clear hdeps
      simp only [y7, fill, List.foldl_cons, List.foldl_nil, Act.put, List.setIfInBounds_toArray, List.set_cons_succ, List.set_cons_zero]
      go_wp2_with fail
      exact ⟨_, rfl, rfl, hBx, Below.refl _ _⟩
  case done =>
    intro ys w2 hBx hV
    have bw2 := Lib.hid (bel2 bw1.out hBx)
    have zw2 := Lib.hid hBx.size
    have vw2g := Lib.hid (vw1g.out.below hBx vw1g.out.lt)
    have vw2x := Lib.hid (vw1x.out.below hBx vw1x.out.lt)
    have hh : ∃ u : Option Addr × Nat, ys 11 = .slice u.1 PL.length u.2 ∧ FMine w2 w1.heap.size (.slice u.1 PL.length u.2) PL := hV 8 (by decide)
    with_reducible refine Exists.elim hh ?_
    intro uP hh2
    have eP := hh2.1
    have MP := Lib.hid hh2.2
    clear hh hh2
    have h12 : ys 12 = .int .i64 0 := hV 9 (by decide)
    clear hBx hV
    simp only [eP, h12, fill, List.drop_succ_cons, List.drop_zero, List.foldl_cons, List.foldl_nil, Act.put, List.setIfInBounds_toArray, List.set_cons_succ, List.set_cons_zero]
    have h2' : 0 < PL.length := by omega
    have hlen2 : decide ((PL.length : Int) < 2) = false := by simp; omega
    have hlen2' : decide (PL.length < 2) = false := by simp; omega
    with_reducible refine Exists.elim (fmine_some MP.out h2') ?_
    intro gP hh
    have hgP := hh.1
    have hgB := hh.2
    clear hh
    have HMP := MP.out
    rw [hgP] at HMP ⊢
    have MQ := Lib.hid HMP
    clear HMP hgP
    generalize uP.2 = cP at *
    go_wp2_with (first
      | (go_at_call 14; go_loud ((with_reducible refine (HAL.out _ (Batch.Tb.below HT.out bw2.out)).mono ?_); rintro e w3 ⟨rfl, bz⟩; have hbel : Below w2.heap.size w2 w3 := (by exact bz); clear bz; have bw3 := Lib.hid (bel2 bw2.out hbel); have zw3 := Lib.hid hbel.size; have vw3g := Lib.hid (vw2g.out.below hbel vw2g.out.lt); have vw3x := Lib.hid (vw2x.out.below hbel vw2x.out.lt); have rw3P := Lib.hid (owns_below MQ.out hbel); clear hbel; have hgl := owns_lt' rw3P.out; have k0 := owns_cell rw3P.out HX1.out; have k1 := (HC1.out w3).1; have k2 := (HC1.out w3).2; have hlow := Lib.hid (show Below w3.heap.size w3 ((Lib.bytesWorld w3 5 XB).setCell ⟨w3.heap.size, j, none⟩ (.int .u8 (z.toNat : Int))) from (bytes_below w3 5 XB).setCell (Nat.le_refl _) _); have hTX := HTX.out w3; have rS := Lib.hid (show World.ownsRow ((Lib.bytesWorld w3 5 XB).setCell ⟨w3.heap.size, j, none⟩ (.int .u8 (z.toNat : Int))) w1.heap.size 49 4 (.slice (some ⟨gP, 0, none⟩) PL.length cP) PL.length (flatF PL) from owns_below rw3P.out hlow.out); have k3 := owns_cell rS.out HX1.out; have k4 := owns_frozen rS.out (i * 4 + 3); have r5 := Lib.hid (show World.ownsRow (((Lib.bytesWorld w3 5 XB).setCell ⟨w3.heap.size, j, none⟩ (.int .u8 (z.toNat : Int))).setCell ⟨gP, i * 4 + 3, none⟩ (.string X2)) w1.heap.size 49 4 (.slice (some ⟨gP, 0, none⟩) PL.length cP) PL.length (flatF PL2) from (by rw [← HSET.out]; exact owns_set rS.out (i * 4 + 3) (.string X2))); have hB5 := Lib.hid (show Below w.heap.size w (((Lib.bytesWorld w3 5 XB).setCell ⟨w3.heap.size, j, none⟩ (.int .u8 (z.toNat : Int))).setCell ⟨gP, i * 4 + 3, none⟩ (.string X2)) from (bel2 bw3.out hlow.out).setCell (p := ⟨gP, i * 4 + 3, none⟩) (by have := zw1.out; have := bw1.out.size; simp only; omega) _)))
      | (go_at_call 22; (with_reducible refine (HPK.out _).mono ?_); rintro e wsame ⟨rfl, rfl⟩)
      | (go_at_call 22; (with_reducible refine (HPL.out _).mono ?_); rintro e wsame ⟨rfl, rfl⟩)
      | (go_at_call 16; go_loud ((with_reducible refine (HJ.out _ _ _ _ (Batch.Tb.below HT.out hB5.out) r5.out).mono ?_); rintro e w9 ⟨va, vc, rfl, bz⟩; have bJ := Lib.hid (bel2 hB5.out bz); clear bz; have vf951 := (show Var (w9.alloc (.cells #[.int .u32 0, .int .u32 0, .int .u32 0, .slice va 0 vc] 27)) (w9.heap.size) 27 [.int .u32 0, .int .u32 0, .int .u32 0, .slice va 0 vc] from (Var.new w9 27 [.int .u32 0, .int .u32 0, .int .u32 0, .slice va 0 vc])); have c952 := vf951.cell (j := 0) rfl; have c953 := vf951.cell (j := 1) rfl; have c954 := vf951.cell (j := 2) rfl; have c955 := vf951.cell (j := 3) rfl; clear vf951)))
    go_ret
    exact ⟨rfl, (bel2 bJ.out (Geom.bel_alloc _ _))⟩
set_option maxRecDepth 100000 in
set_option maxHeartbeats 8000000 in
theorem turned_f (gp gs gr hp hq hr : Int) (sq pv fr : W) (a : Option Addr) (n cap : Nat) (L : List Wr) (s0 s1 s2 : W) (M : List Wr) (PL : List Fr) (c9 : Nat) (q0 : ((c9 : Int) == 0) = false) (q00 : ((c9 : Int) != 0) = true) (at_ b1 by_ : Int)
    (HGE : Hid (∀ w, Calls Tryd.prog 9 #[.agg #[.int .i64 gp, .int .i64 gs, .int .i64 gr]] w fun e w' => e = .returned (.agg #[.int .i64 hp, .int .i64 hq, .int .i64 hr]) ∧ Below w.heap.size w w'))
    (HSH : Hid (∀ w, WAt w a L → Calls Tryd.prog 11 #[.agg #[.int .u32 (vl sq), .int .u32 (vl pv), .int .u32 (vl fr), .slice a n cap]] w fun e w' => ∃ va vc, e = .returned (.agg #[.int .u32 (vl s0), .int .u32 (vl s1), .int .u32 (vl s2), .slice va M.length vc]) ∧ WMine w' w.heap.size (.slice va M.length vc) M ∧ Below w.heap.size w w'))
    (HC : Hid (∀ w a c, Tb w → WAt w a M → Calls Tryd.prog 12 #[.agg #[.int .i64 hp, .int .i64 hq, .int .i64 hr], .agg #[.int .u32 (vl s0), .int .u32 (vl s1), .int .u32 (vl s2), .slice a M.length c]] w fun e w' => ∃ va vc, e = .returned (.tuple #[.slice va PL.length vc, .int .i64 (c9 : Int)]) ∧ FMine w' w.heap.size (.slice va PL.length vc) PL ∧ Below w.heap.size w w'))
    (HAL : Hid (∀ w, Tb w → Calls Tryd.prog 14 #[] w fun e w' => e = .returned (.bool true) ∧ Below w.heap.size w w')) (w : World) (HT : Hid (Tb w)) (HRW : Hid (WAt w a L)) :
    Calls Tryd.prog 6 #[.agg #[.int .i64 gp, .int .i64 gs, .int .i64 gr], .agg #[.int .u32 (vl sq), .int .u32 (vl pv), .int .u32 (vl fr), .slice a n cap], .int .i64 at_, .int .i64 b1, .int .u8 by_] w fun e w' => e = .returned (.bool true) ∧ Below w.heap.size w w' := by
  go_enter Tryd.func6, Tryd.ntmps6
  go_wp2
  obtain ⟨w1, hw1⟩ : ∃ wx, wx = ((w.alloc (.cells #[.int .i64 gp, .int .i64 gs, .int .i64 gr] 23)).alloc (.cells #[.int .u32 (vl sq), .int .u32 (vl pv), .int .u32 (vl fr), .slice a n cap] 27)) := ⟨_, rfl⟩
  have bw1 := Lib.hid (show Below w.heap.size w w1 by rw [hw1]; exact (bel2 (Geom.bel_alloc _ _) (Geom.bel_alloc _ _)))
  have zw1 := Lib.hid (show w.heap.size + 2 ≤ w1.heap.size by rw [hw1]; simp)
  have vw1g := Lib.hid (show Var w1 (w.heap.size) 23 [.int .i64 gp, .int .i64 gs, .int .i64 gr] by rw [hw1]; exact ((Var.new w 23 [.int .i64 gp, .int .i64 gs, .int .i64 gr]).alloc _))
  have vw1x := Lib.hid (show Var w1 (w.heap.size + 1) 27 [.int .u32 (vl sq), .int .u32 (vl pv), .int .u32 (vl fr), .slice a n cap] by rw [hw1]; exact (show Var ((w.alloc (.cells #[.int .i64 gp, .int .i64 gs, .int .i64 gr] 23)).alloc (.cells #[.int .u32 (vl sq), .int .u32 (vl pv), .int .u32 (vl fr), .slice a n cap] 27)) (w.heap.size + 1) 27 [.int .u32 (vl sq), .int .u32 (vl pv), .int .u32 (vl fr), .slice a n cap] from by have h := Var.new (w.alloc (.cells #[.int .i64 gp, .int .i64 gs, .int .i64 gr] 23)) 27 [.int .u32 (vl sq), .int .u32 (vl pv), .int .u32 (vl fr), .slice a n cap]; rw [show (w.alloc (.cells #[.int .i64 gp, .int .i64 gs, .int .i64 gr] 23)).heap.size = w.heap.size + 1 by simp] at h; exact h))
  rw [← hw1]
  refine wp_region_each [18, 19, 20, 21, 22, 17, 23, 24, 11, 12] (fun w' => Below w1.heap.size w1 w') (VT [.agg #[.int .i64 gp, .int .i64 gs, .int .i64 gr], .agg #[.int .i64 hp, .int .i64 hq, .int .i64 hr], .agg #[.int .u32 (vl sq), .int .u32 (vl pv), .int .u32 (vl fr), .slice a n cap], undef, undef, undef, undef, .int .i64 (c9 : Int), undef, .int .i64 (c9 : Int)] [(3, gp2 w1.heap.size s0 s1 s2 M), (4, cut2 w1.heap.size PL (c9 : Int)), (5, cut2 w1.heap.size PL (c9 : Int)), (6, row2 w1.heap.size PL), (8, row2 w1.heap.size PL)]) (by kernel_rfl) (by kernel_rfl) rfl (by decide) (by simp) (VT.mono _ _) (Below.refl _ _).drew ?each ?done
  case each =>
    simp only [Each]
    refine ⟨?o0, ?o1, ?o2, ?o3, ?o4, ?o5, ?o6, ?o7, ?o8, ?o9, trivial⟩
    case o0 =>
      intro ys wx hBx hdeps
      clear hdeps
      have q1 := (vw1g.out.below hBx vw1g.out.lt).cell (j := 0) rfl
      have q2 := (vw1g.out.below hBx vw1g.out.lt).cell (j := 1) rfl
      have q3 := (vw1g.out.below hBx vw1g.out.lt).cell (j := 2) rfl
      simp only [fill, List.foldl_cons, List.foldl_nil, Act.put, List.setIfInBounds_toArray, List.set_cons_succ, List.set_cons_zero]
      go_wp2_with fail
      exact ⟨_, rfl, rfl, hBx, Below.refl _ _⟩
    case o1 =>
      intro ys wx hBx hdeps
      simp only [Deps, Region.binds, List.getD_cons_zero, List.getD_cons_succ, forall_const, and_true, true_and] at hdeps
      have y0 : ys 18 = .agg #[.int .i64 gp, .int .i64 gs, .int .i64 gr] := by first | exact hdeps | exact hdeps.1 | exact hdeps.2.1 | exact hdeps.2 | exact hdeps.2.2
      clear hdeps
      simp only [y0, fill, List.foldl_cons, List.foldl_nil, Act.put, List.setIfInBounds_toArray, List.set_cons_succ, List.set_cons_zero]
      go_wp2_with (go_at_call 9; (with_reducible refine (HGE.out _).mono ?_); rintro e w3 ⟨rfl, hbm⟩)
      exact ⟨_, rfl, rfl, hBx.trans (hbm.mono hBx.size), hbm⟩
    case o2 =>
      intro ys wx hBx hdeps
      clear hdeps
      have q4 := (vw1x.out.below hBx vw1x.out.lt).cell (j := 0) rfl
      have q5 := (vw1x.out.below hBx vw1x.out.lt).cell (j := 1) rfl
      have q6 := (vw1x.out.below hBx vw1x.out.lt).cell (j := 2) rfl
      have q7 := (vw1x.out.below hBx vw1x.out.lt).cell (j := 3) rfl
      simp only [fill, List.foldl_cons, List.foldl_nil, Act.put, List.setIfInBounds_toArray, List.set_cons_succ, List.set_cons_zero]
      go_wp2_with fail
      exact ⟨_, rfl, rfl, hBx, Below.refl _ _⟩
    case o3 =>
      intro ys wx hBx hdeps
      simp only [Deps, Region.binds, List.getD_cons_zero, List.getD_cons_succ, forall_const, and_true, true_and] at hdeps
      have y2 : ys 20 = .agg #[.int .u32 (vl sq), .int .u32 (vl pv), .int .u32 (vl fr), .slice a n cap] := by first | exact hdeps | exact hdeps.1 | exact hdeps.2.1 | exact hdeps.2 | exact hdeps.2.2
      clear hdeps
      simp only [y2, fill, List.foldl_cons, List.foldl_nil, Act.put, List.setIfInBounds_toArray, List.set_cons_succ, List.set_cons_zero]
      go_wp2_with (go_at_call 11; go_loud ((with_reducible refine (HSH.out _ (Batch.WAt.below HRW.out (bel2 bw1.out hBx))).mono ?_); rintro e w3 ⟨va, vc, rfl, hown, hbm⟩))
      exact ⟨_, rfl, ⟨(va, vc), rfl, owns_base hown hBx.size⟩, hBx.trans (hbm.mono hBx.size), hbm⟩
    case o4 =>
      intro ys wx hBx hdeps
      simp only [Deps, Region.binds, List.getD_cons_zero, List.getD_cons_succ, forall_const, and_true, true_and] at hdeps
      have y1 : ys 19 = .agg #[.int .i64 hp, .int .i64 hq, .int .i64 hr] := by first | exact hdeps.1 | exact hdeps.2.1 | exact hdeps.2.2.1 | exact hdeps.2 | exact hdeps.2.2 | exact hdeps.2.2.2
      have z3 : ∃ u : Option Addr × Nat, ys 21 = .agg #[.int .u32 (vl s0), .int .u32 (vl s1), .int .u32 (vl s2), .slice u.1 M.length u.2] ∧ Batch.WMine wx w1.heap.size (.slice u.1 M.length u.2) M := by first | exact hdeps.1 | exact hdeps.2.1 | exact hdeps.2.2.1 | exact hdeps.2 | exact hdeps.2.2 | exact hdeps.2.2.2
      with_reducible refine Exists.elim z3 ?_
      intro g3 hh
      have y3 := hh.1
      have r3 := hh.2
      clear hh z3
      clear hdeps
      simp only [y1, y3, fill, List.foldl_cons, List.foldl_nil, Act.put, List.setIfInBounds_toArray, List.set_cons_succ, List.set_cons_zero]
      go_wp2_with (go_at_call 12; (with_reducible refine (HC.out _ _ _ (Batch.Tb.below HT.out (bel2 bw1.out hBx)) (wat_mine r3)).mono ?_); rintro e w3 ⟨va, vc, rfl, hown, hbm⟩)
      exact ⟨_, rfl, ⟨(va, vc), rfl, hown.base hBx.size⟩, hBx.trans (hbm.mono hBx.size), hbm⟩
    case o5 =>
      intro ys wx hBx hdeps
      simp only [Deps, Region.binds, List.getD_cons_zero, List.getD_cons_succ, forall_const, and_true, true_and] at hdeps
      have z4 : ∃ u : Option Addr × Nat, ys 22 = .tuple #[.slice u.1 PL.length u.2, .int .i64 (c9 : Int)] ∧ FMine wx w1.heap.size (.slice u.1 PL.length u.2) PL := by first | exact hdeps | exact hdeps.1 | exact hdeps.2.1 | exact hdeps.2 | exact hdeps.2.2
      with_reducible refine Exists.elim z4 ?_
      intro g4 hh
      have y4 := hh.1
      have r4 := hh.2
      clear hh z4
      clear hdeps
      simp only [y4, fill, List.foldl_cons, List.foldl_nil, Act.put, List.setIfInBounds_toArray, List.set_cons_succ, List.set_cons_zero]
      go_wp2_with fail
      exact ⟨_, rfl, ⟨g4, rfl, r4⟩, hBx, Below.refl _ _⟩
    case o6 =>
      intro ys wx hBx hdeps
      simp only [Deps, Region.binds, List.getD_cons_zero, List.getD_cons_succ, forall_const, and_true, true_and] at hdeps
      have z5 : ∃ u : Option Addr × Nat, ys 17 = .tuple #[.slice u.1 PL.length u.2, .int .i64 (c9 : Int)] ∧ FMine wx w1.heap.size (.slice u.1 PL.length u.2) PL := by first | exact hdeps | exact hdeps.1 | exact hdeps.2.1 | exact hdeps.2 | exact hdeps.2.2
      with_reducible refine Exists.elim z5 ?_
      intro g5 hh
      have y5 := hh.1
      have r5 := hh.2
      clear hh z5
      clear hdeps
      simp only [y5, fill, List.foldl_cons, List.foldl_nil, Act.put, List.setIfInBounds_toArray, List.set_cons_succ, List.set_cons_zero]
      go_wp2_with fail
      exact ⟨_, rfl, ⟨g5, rfl, r5⟩, hBx, Below.refl _ _⟩
    case o7 =>
      intro ys wx hBx hdeps
      simp only [Deps, Region.binds, List.getD_cons_zero, List.getD_cons_succ, forall_const, and_true, true_and] at hdeps
      have z5 : ∃ u : Option Addr × Nat, ys 17 = .tuple #[.slice u.1 PL.length u.2, .int .i64 (c9 : Int)] ∧ FMine wx w1.heap.size (.slice u.1 PL.length u.2) PL := by first | exact hdeps | exact hdeps.1 | exact hdeps.2.1 | exact hdeps.2 | exact hdeps.2.2
      with_reducible refine Exists.elim z5 ?_
      intro g5 hh
      have y5 := hh.1
      have r5 := hh.2
      clear hh z5
      clear hdeps
      simp only [y5, fill, List.foldl_cons, List.foldl_nil, Act.put, List.setIfInBounds_toArray, List.set_cons_succ, List.set_cons_zero]
      go_wp2_with fail
      exact ⟨_, rfl, rfl, hBx, Below.refl _ _⟩
    case o8 =>
      intro ys wx hBx hdeps
      simp only [Deps, Region.binds, List.getD_cons_zero, List.getD_cons_succ, forall_const, and_true, true_and] at hdeps
      have z6 : ∃ u : Option Addr × Nat, ys 23 = .slice u.1 PL.length u.2 ∧ FMine wx w1.heap.size (.slice u.1 PL.length u.2) PL := by first | exact hdeps | exact hdeps.1 | exact hdeps.2.1 | exact hdeps.2 | exact hdeps.2.2
      with_reducible refine Exists.elim z6 ?_
      intro g6 hh
      have y6 := hh.1
      have r6 := hh.2
      clear hh z6
      clear hdeps
      simp only [y6, fill, List.foldl_cons, List.foldl_nil, Act.put, List.setIfInBounds_toArray, List.set_cons_succ, List.set_cons_zero]
      go_wp2_with fail
      exact ⟨_, rfl, ⟨g6, rfl, r6⟩, hBx, Below.refl _ _⟩
    case o9 =>
      intro ys wx hBx hdeps
      simp only [Deps, Region.binds, List.getD_cons_zero, List.getD_cons_succ, forall_const, and_true, true_and] at hdeps
      have y7 : ys 24 = .int .i64 (c9 : Int) := by first | exact hdeps | exact hdeps.1 | exact hdeps.2.1 | exact hdeps.2 | exact hdeps.2.2
      clear hdeps
      simp only [y7, fill, List.foldl_cons, List.foldl_nil, Act.put, List.setIfInBounds_toArray, List.set_cons_succ, List.set_cons_zero]
      go_wp2_with fail
      exact ⟨_, rfl, rfl, hBx, Below.refl _ _⟩
  case done =>
    intro ys w2 hBx hV
    have bw2 := Lib.hid (bel2 bw1.out hBx)
    have zw2 := Lib.hid hBx.size
    have vw2g := Lib.hid (vw1g.out.below hBx vw1g.out.lt)
    have vw2x := Lib.hid (vw1x.out.below hBx vw1x.out.lt)
    have hh : ∃ u : Option Addr × Nat, ys 11 = .slice u.1 PL.length u.2 ∧ FMine w2 w1.heap.size (.slice u.1 PL.length u.2) PL := hV 8 (by decide)
    with_reducible refine Exists.elim hh ?_
    intro uP hh2
    have eP := hh2.1
    have MP := Lib.hid hh2.2
    clear hh hh2
    have h12 : ys 12 = .int .i64 (c9 : Int) := hV 9 (by decide)
    clear hBx hV
    simp only [eP, h12, fill, List.drop_succ_cons, List.drop_zero, List.foldl_cons, List.foldl_nil, Act.put, List.setIfInBounds_toArray, List.set_cons_succ, List.set_cons_zero]
    go_wp2_with (first
    | (go_at_call 14; go_loud ((with_reducible refine (HAL.out _ (Batch.Tb.below HT.out bw2.out)).mono ?_); rintro e w3 ⟨rfl, bz⟩; have hbel : Below w2.heap.size w2 w3 := (by exact bz); clear bz; have bw3 := Lib.hid (bel2 bw2.out hbel); have zw3 := Lib.hid hbel.size; have vw3g := Lib.hid (vw2g.out.below hbel vw2g.out.lt); have vw3x := Lib.hid (vw2x.out.below hbel vw2x.out.lt); clear hbel))
    | (go_at_call 14; go_loud ((with_reducible refine (HAL.out _ (Batch.Tb.below HT.out bw3.out)).mono ?_); rintro e w4 ⟨rfl, bz⟩; have hbel : Below w3.heap.size w3 w4 := (by exact bz); clear bz; have bw4 := Lib.hid (bel2 bw3.out hbel); have zw4 := Lib.hid hbel.size; have vw4g := Lib.hid (vw3g.out.below hbel vw3g.out.lt); have vw4x := Lib.hid (vw3x.out.below hbel vw3x.out.lt); clear hbel)))
    go_ret
    exact ⟨rfl, bw4.out⟩
theorem turned_any (g : Gm) (x : Gp) (a : Option Addr) (cap : Nat) (at_ b1 : Int) (c : UInt8) (hl : x.wr.length ≤ maxLen) (w : World) (hT : Tb w) (hr : WAt w a x.wr) :
    Calls Tryd.prog 6 #[gV g, gpV x (.slice a x.wr.length cap), .int .i64 at_, .int .i64 b1, .int .u8 (c.toNat : Int)] w fun e w' => e = .returned (.bool true) ∧ Below w.heap.size w w' := by
  have HSH := fun w hr => shaped_mine (shaped_any x a cap hl w hr)
  have hl2 := shaped_few x
  have hk2 := shaped_key x
  have HC := fun (g : Gm) (x : Gp) h1 h2 w a c hT hr => cut_mine (cut_any g x a c h1 h2 w hT hr)
  have HC := HC (smallG g) (shapedG x) (by omega) hk2
  have HGE := fun w => Geom.geom_any g w
  have HA := fun w hT => alive_any w hT
  have HSM := small_small g
  have HSG := fun w a b c d ha hb => sameG_any (shapedG x) a b c d (by omega) w ha hb
  have HRB := fun w a c hr => Batch.refBytes_any a (shapedG x).wr c (by unfold maxLen; omega) hk2 w hr
  have HN := fun (n : Int) w => Geom.need_any (smallG g) n w
  have HM := fun w => Geom.most_any (smallG g) w
  have HRO := fun w => Geom.room_any (smallG g) w
  rw [right_small.2 HSM] at HM HRO
  simp only [right_small.2 HSM, if_true] at HN HM HRO
  by_cases hc : (cutG (smallG g) (shapedG x)).2 = 0
  · generalize smallG g = h at *
    generalize shapedG x = y at *
    obtain ⟨b, hb, he⟩ := cut_ok (g := h) (x := y) (l := (cutG h y).1) (by rw [← hc])
    rw [hc] at HC
    have hz := hb.sizes
    have hfew : (cutG h y).1.length ≤ 1000 := by rw [he]; exact frames_few hb
    have hbod : ∀ f ∈ (cutG h y).1, f.body.length ≤ 1048576 := by rw [he]; exact small_body hb
    have hpl : (cutG h y).1.length = partsN (roomN h) b.length + 1 := by rw [he]; exact framesG_len _ _ _
    have hn1 : ((cutG h y).1.length : Int) - 1 = ((partsN (roomN h) b.length : Nat) : Int) := by omega
    obtain ⟨i, hi⟩ : ∃ i : Nat, (i : Int) = at_ % ((partsN (roomN h) b.length : Nat) : Int) := ⟨(at_ % ((partsN (roomN h) b.length : Nat) : Int)).toNat, by have := Int.emod_nonneg at_ (show ((partsN (roomN h) b.length : Nat) : Int) ≠ 0 by omega); omega⟩
    have hil : i < partsN (roomN h) b.length := by have := Int.emod_lt_of_pos at_ (show 0 < ((partsN (roomN h) b.length : Nat) : Int) by omega); omega
    have HPK := fun w => Book.pick_any at_ (partsN (roomN h) b.length) (by omega) (by omega) w
    rw [← hi, ← hn1] at HPK
    obtain ⟨p, hp⟩ : ∃ p, p = partAt y.seq (roomN h) b i := ⟨_, rfl⟩
    have hg : (cutG h y).1[i]? = some p := by rw [he, hp]; exact part_get hil
    have hpb := hbod p (List.mem_of_getElem? hg)
    have hpos : 0 < p.body.length := by
      have h1 := cut_some (r := roomN h) (by omega) (b := b) (k := i) ((partsN_spec (by omega) i).2 hil)
      rw [hp]
      exact List.length_pos_iff.2 h1
    obtain ⟨j, hj⟩ : ∃ j : Nat, (j : Int) = b1 % (p.body.length : Int) := ⟨(b1 % (p.body.length : Int)).toNat, by have := Int.emod_nonneg b1 (show (p.body.length : Int) ≠ 0 by omega); omega⟩
    have hjl : j < p.body.length := by have := Int.emod_lt_of_pos b1 (show 0 < (p.body.length : Int) by omega); omega
    have HPL := fun w => Book.pick_any b1 p.body.length hpos (by omega) w
    rw [← hj] at HPL
    rw [← bs_size p.body] at HPL
    obtain ⟨bx, hx0, hxa⟩ : ∃ x : UInt8, x ≠ 0 ∧ ((c = 0 ∧ x = 1) ∨ (c ≠ 0 ∧ x = c)) := by
      by_cases h0 : c = 0
      · exact ⟨1, by decide, .inl ⟨h0, rfl⟩⟩
      · exact ⟨c, h0, .inr ⟨h0, rfl⟩⟩
    have hv : p.body[j] ^^^ bx ≠ p.body[j] := by
      intro e
      apply hx0
      have h1 : p.body[j] ^^^ (p.body[j] ^^^ bx) = p.body[j] ^^^ p.body[j] := by rw [e]
      rwa [← UInt8.xor_assoc, UInt8.xor_self, UInt8.zero_xor] at h1
    obtain ⟨q, hq⟩ : ∃ q : Fr, q = ⟨p.kind, p.a, p.b, p.body.set j (p.body[j] ^^^ bx)⟩ := ⟨_, rfl⟩
    have hjn := join_turned hb hil hp hjl (p.body[j] ^^^ bx) hv hq
    rw [← he] at hjn
    have hx1 := (flatF_at _ _ _ hg).2.2.2
    have hset := flatF_set (cutG h y).1 i p (p.body.set j (p.body[j] ^^^ bx)) hg
    rw [← hq] at hset
    have hql : ((cutG h y).1.set i q).length = (cutG h y).1.length := List.length_set
    have hqb : ∀ f ∈ (cutG h y).1.set i q, f.body.length ≤ 1048576 := fun f hf => by
      rcases List.mem_or_eq_of_mem_set hf with hf | rfl
      · exact hbod f hf
      · rw [hq]
        show (p.body.set j _).length ≤ _
        rw [List.length_set]; exact hpb
    have HJ : ∀ w base a c, Tb w → w.ownsRow base 49 4 (.slice a (cutG h y).1.length c) (cutG h y).1.length (flatF ((cutG h y).1.set i q)) → Calls Tryd.prog 16 #[.slice a (cutG h y).1.length c] w fun e w' => ∃ va vc, e = .returned (.tuple #[.agg #[.int .u32 0, .int .u32 0, .int .u32 0, .slice va 0 vc], .int .i64 5]) ∧ Below w.heap.size w w' := fun w base a c hT hr => by
      have hr2 : FMine w base (.slice a ((cutG h y).1.set i q).length c) ((cutG h y).1.set i q) := by unfold FMine; rw [hql]; exact hr
      have h1 := join_mine (join_any a ((cutG h y).1.set i q) c (by omega) hqb (fm_cap hr2) w hT (fat_mine hr2))
      rw [hjn, hql] at h1
      exact h1.mono fun e w' ⟨va, vc, he, _, hb⟩ => ⟨va, vc, he, hb⟩
    have hyv : p.body[j] = (bs p.body).data.toList.getD j 0 := by rw [list_bs, List.getD_eq_getElem?_getD, List.getElem?_eq_getElem hjl]; rfl
    have hxr : bits .xor .u8 ((p.body[j]).toNat : Int) (bx.toNat : Int) = ((p.body[j] ^^^ bx).toNat : Int) := Bytes.xor_u8 _ _
    rcases hxa with ⟨rfl, rfl⟩ | ⟨hc0, rfl⟩
    · exact turned_z g.page g.pages g.regions h.page h.pages h.regions x.seq x.prev x.frm a x.wr.length cap x.wr y.seq y.prev y.frm y.wr (cutG h y).1 at_ b1 i j (by omega) hfew (bs p.body) _ (by rw [bs_size]; exact hjl) (by rw [bs_size]; exact hpb) hx1 _ hset 1 p.body[j] (p.body[j] ^^^ 1) hyv (by rw [list_bs]) hxr HGE HSH HC HA HPK HPL HJ w hT hr
    · exact turned_x g.page g.pages g.regions h.page h.pages h.regions x.seq x.prev x.frm a x.wr.length cap x.wr y.seq y.prev y.frm y.wr (cutG h y).1 at_ b1 i j (by omega) hfew (bs p.body) _ (by rw [bs_size]; exact hjl) (by rw [bs_size]; exact hpb) hx1 _ hset bx p.body[j] (p.body[j] ^^^ bx) hyv (by rw [list_bs]) hxr (by rw [beq_eq_false_iff_ne]; intro e; apply hc0; exact UInt8.toNat_inj.1 (by simpa using e)) HGE HSH HC HA HPK HPL HJ w hT hr
  · generalize smallG g = h at *
    generalize shapedG x = y at *
    have q0 : (((cutG h y).2 : Int) == 0) = false := by rw [beq_eq_false_iff_ne]; omega
    exact turned_f g.page g.pages g.regions h.page h.pages h.regions x.seq x.prev x.frm a x.wr.length cap x.wr y.seq y.prev y.frm y.wr (cutG h y).1 (cutG h y).2 q0 (by rw [bne, q0]; rfl) at_ b1 _ HGE HSH HC HA w hT hr
end Go.Proofs.YtligapgjdpdihaaDoor.Group
