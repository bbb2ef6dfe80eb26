/-
  The walks of the laws of chapter 9: PieceFields.
-/
import Derived.Test.YtdbfclngllhdlaaPieceLawsB
import Derived.Test.YtdbfclngllhdlaaGeomB
set_option linter.unusedVariables false
set_option linter.unusedSimpArgs false
namespace Go.Proofs.Ytdbfclngllhdlaa.Piece
open Go.RowKit
open CrcM (W)
open Crc (le4 sumOf vl wd putS)
open Flash (bs bs_size bs_list list_bs)
open Go.Proofs.Ytdbfclngllhdlaa.Frame (Fr zeroF fV bel2 below_drewN)
open Tup Bytes Own
open Go.Proofs.Ytdbfclngllhdlaa.Region (fill Then Deps Each wp_region_is wp_region_is_tail wp_region_each wp_region_tail)
set_option maxRecDepth 100000 in
set_option maxHeartbeats 8000000 in
theorem fields_not (fk how hw : Int) (fa fb : W) (F : ByteArray) (ga gb : W) (G : ByteArray) (gk : Int)
    (HO : Hid (∀ w, Calls Try.prog 10 #[.agg #[.int .i64 gk, .int .u32 (vl ga), .int .u32 (vl gb), .string G]] w fun e w' => e = .returned (.tuple #[.nilIface, .int .i64 2]) ∧ Below w.heap.size w w'))
    (HS : Hid (∀ w, Calls Try.prog 8 #[.agg #[.int .i64 fk, .int .u32 (vl fa), .int .u32 (vl fb), .string F], .int .i64 hw] w fun e w' => e = .returned (.agg #[.int .i64 gk, .int .u32 (vl ga), .int .u32 (vl gb), .string G]) ∧ Below w.heap.size w w'))
    (HPK : Hid (∀ w, Calls Try.prog 9 #[.int .i64 how, .int .i64 3] w fun e w' => e = .returned (.int .i64 hw) ∧ w = w')) (w : World) :
    Calls Try.prog 4 #[.agg #[.int .i64 fk, .int .u32 (vl fa), .int .u32 (vl fb), .string F], .int .i64 how] w fun e w' => e = .returned (.bool true) ∧ Below w.heap.size w w' := by
  have HAL := Lib.hid (fun w => alive_any w)
  go_enter Try.func4, Try.ntmps4
  go_wp2
  obtain ⟨w1, hw1⟩ : ∃ wx, wx = (w.alloc (.cells #[.int .i64 fk, .int .u32 (vl fa), .int .u32 (vl fb), .string F] 24)) := ⟨_, rfl⟩
  have bw1 := Lib.hid (show Below w.heap.size w w1 by rw [hw1]; exact (Geom.bel_alloc _ _))
  have zw1 := Lib.hid (show w.heap.size + 1 ≤ w1.heap.size by rw [hw1]; simp)
  have vw1f := Lib.hid (show Var w1 (w.heap.size) 24 [.int .i64 fk, .int .u32 (vl fa), .int .u32 (vl fb), .string F] by rw [hw1]; exact (Var.new w 24 [.int .i64 fk, .int .u32 (vl fa), .int .u32 (vl fb), .string F]))
  rw [← hw1]
  refine wp_region_is_tail 3 [13, 14, 15] (fun w' => Below w1.heap.size w1 w')
    [.agg #[.int .i64 fk, .int .u32 (vl fa), .int .u32 (vl fb), .string F], .int .i64 how, .int .i64 hw] (by kernel_rfl) (by kernel_rfl) (by kernel_rfl) (by decide) rfl (by decide) (by simp) (Below.refl _ _).drew ?each ?done
  case each =>
    simp only [List.take_succ_cons, List.take_zero, Each]
    repeat' (first | exact trivial | refine And.intro ?_ ?_)
    all_goals
      intro ys wx hBx hdeps
      simp only [Deps, Region.binds, List.getD_cons_zero, List.getD_cons_succ, forall_const, and_true] at hdeps
      have q1 := (vw1f.out.below hBx vw1f.out.lt).cell (j := 0) rfl
      have q2 := (vw1f.out.below hBx vw1f.out.lt).cell (j := 1) rfl
      have q3 := (vw1f.out.below hBx vw1f.out.lt).cell (j := 2) rfl
      have q4 := (vw1f.out.below hBx vw1f.out.lt).cell (j := 3) rfl
      simp only [hdeps, fill, List.foldl_cons, List.foldl_nil, Act.put, List.setIfInBounds_toArray, List.set_cons_succ, List.set_cons_zero]
      first
        | (go_wp2_with fail; exact ⟨_, rfl, rfl, hBx, Below.refl _ _⟩)
        | (go_wp2_with (go_at_call 9; (with_reducible refine (HPK.out _).mono ?_); rintro e w3 ⟨rfl, rfl⟩); exact ⟨_, rfl, rfl, hBx, Below.refl _ _⟩)
  case done =>
    intro ys wx hBx hV
    obtain ⟨w2, hw2⟩ : ∃ wy, wy = wx := ⟨_, rfl⟩
    rw [← hw2] at hBx ⊢
    have bw2 := Lib.hid (bel2 bw1.out hBx)
    have zw2 := Lib.hid hBx.size
    have vw2f := Lib.hid (vw1f.out.below hBx vw1f.out.lt)
    have h13 : ys 13 = .agg #[.int .i64 fk, .int .u32 (vl fa), .int .u32 (vl fb), .string F] := hV 0 (by decide)
    have h15 : ys 15 = .int .i64 hw := hV 2 (by decide)
    clear hBx hV hw2
    simp only [h13, h15, fill, List.drop_succ_cons, List.drop_zero, List.foldl_cons, List.foldl_nil, Act.put, List.setIfInBounds_toArray, List.set_cons_succ, List.set_cons_zero]
    go_wp2_with (first
    | (go_at_call 8; ((with_reducible refine (HS.out _).mono ?_); rintro e w3 ⟨rfl, bz⟩; have hbel : Below w2.heap.size w2 w3 := (by exact bz); clear bz; have bw3 := Lib.hid (bel2 bw2.out hbel); have zw3 := Lib.hid hbel.size; have vw3f := Lib.hid (vw2f.out.below hbel vw2f.out.lt); clear hbel; have vf5 := (show Var w3 (w.heap.size) 24 [.int .i64 fk, .int .u32 (vl fa), .int .u32 (vl fb), .string F] from vw3f.out); have c6 := vf5.cell (j := 0) rfl; have c7 := vf5.cell (j := 1) rfl; have c8 := vf5.cell (j := 2) rfl; have c9 := vf5.cell (j := 3) rfl; clear vf5; have vf10 := (show Var w3 (w.heap.size) 24 [.int .i64 fk, .int .u32 (vl fa), .int .u32 (vl fb), .string F] from vw3f.out); have f11 := vf10.frozen 0; have f12 := vf10.frozen 1; have f13 := vf10.frozen 2; have f14 := vf10.frozen 3; clear vf10; have vf15 := (show Var ((((w3.setCell ⟨w.heap.size, 0, none⟩ (.int .i64 gk)).setCell ⟨w.heap.size, 1, none⟩ (.int .u32 (vl ga))).setCell ⟨w.heap.size, 2, none⟩ (.int .u32 (vl gb))).setCell ⟨w.heap.size, 3, none⟩ (.string G)) (w.heap.size) 24 [.int .i64 gk, .int .u32 (vl ga), .int .u32 (vl gb), .string G] from ((((vw3f.out.set 0 (.int .i64 gk)).set 1 (.int .u32 (vl ga))).set 2 (.int .u32 (vl gb))).set 3 (.string G))); have c16 := vf15.cell (j := 0) rfl; have c17 := vf15.cell (j := 1) rfl; have c18 := vf15.cell (j := 2) rfl; have c19 := vf15.cell (j := 3) rfl; clear vf15))
    | (go_at_call 10; ((with_reducible refine (HO.out _).mono ?_); rintro e w5 ⟨rfl, bz⟩; obtain ⟨w4, hw4⟩ : ∃ wx, wx = ((((w3.setCell ⟨w.heap.size, 0, none⟩ (.int .i64 gk)).setCell ⟨w.heap.size, 1, none⟩ (.int .u32 (vl ga))).setCell ⟨w.heap.size, 2, none⟩ (.int .u32 (vl gb))).setCell ⟨w.heap.size, 3, none⟩ (.string G)) := ⟨_, rfl⟩; have bw4 := Lib.hid (show Below w.heap.size w w4 by rw [hw4]; exact ((((bw3.out.setCell (p := ⟨w.heap.size, 0, none⟩) (by have := zw1.out; have := zw2.out; have := zw3.out; simp only; omega) _).setCell (p := ⟨w.heap.size, 1, none⟩) (by have := zw1.out; have := zw2.out; have := zw3.out; simp only; omega) _).setCell (p := ⟨w.heap.size, 2, none⟩) (by have := zw1.out; have := zw2.out; have := zw3.out; simp only; omega) _).setCell (p := ⟨w.heap.size, 3, none⟩) (by have := zw1.out; have := zw2.out; have := zw3.out; simp only; omega) _)); have zw4 := Lib.hid (show w3.heap.size + 0 ≤ w4.heap.size by rw [hw4]; simp); have vw4f := Lib.hid (show Var w4 (w.heap.size) 24 [.int .i64 gk, .int .u32 (vl ga), .int .u32 (vl gb), .string G] by rw [hw4]; exact ((((vw3f.out.set 0 (.int .i64 gk)).set 1 (.int .u32 (vl ga))).set 2 (.int .u32 (vl gb))).set 3 (.string G))); have hbel : Below w4.heap.size w4 w5 := (by rw [hw4]; exact bz); clear bz; have bw5 := Lib.hid (bel2 bw4.out hbel); have zw5 := Lib.hid hbel.size; have vw5f := Lib.hid (vw4f.out.below hbel vw4f.out.lt); clear hbel; clear c6 c7 c8 c9 f11 f12 f13 f14 c16 c17 c18 c19))
    | (go_at_call 11; ((with_reducible refine (HAL.out _).mono ?_); rintro e w6 ⟨rfl, bz⟩; have hbel : Below w5.heap.size w5 w6 := (by exact bz); clear bz; have bw6 := Lib.hid (bel2 bw5.out hbel); have zw6 := Lib.hid hbel.size; have vw6f := Lib.hid (vw5f.out.below hbel vw5f.out.lt); clear hbel))
    | (go_at_call 11; ((with_reducible refine (HAL.out _).mono ?_); rintro e w7 ⟨rfl, bz⟩; have hbel : Below w6.heap.size w6 w7 := (by exact bz); clear bz; have bw7 := Lib.hid (bel2 bw6.out hbel); have zw7 := Lib.hid hbel.size; have vw7f := Lib.hid (vw6f.out.below hbel vw6f.out.lt); clear hbel)))
    go_ret
    exact ⟨rfl, bw7.out⟩
set_option maxRecDepth 100000 in
set_option maxHeartbeats 8000000 in
theorem fields_Head (fk how hw : Int) (fa fb : W) (F : ByteArray) (ga gb : W) (G : ByteArray) (V : Value)
    (HO : Hid (∀ w, Calls Try.prog 10 #[.agg #[.int .i64 1, .int .u32 (vl ga), .int .u32 (vl gb), .string G]] w fun e w' => e = .returned (.tuple #[(.iface 55 V), .int .i64 0]) ∧ Below w.heap.size w w'))
    (HS : Hid (∀ w, Calls Try.prog 8 #[.agg #[.int .i64 fk, .int .u32 (vl fa), .int .u32 (vl fb), .string F], .int .i64 hw] w fun e w' => e = .returned (.agg #[.int .i64 1, .int .u32 (vl ga), .int .u32 (vl gb), .string G]) ∧ Below w.heap.size w w'))
    (HPK : Hid (∀ w, Calls Try.prog 9 #[.int .i64 how, .int .i64 3] w fun e w' => e = .returned (.int .i64 hw) ∧ w = w'))
    (HPart : Hid (∀ w, Calls Try.prog 14 #[(.iface 55 V)] w fun e w' => e = .returned (.tuple #[.agg #[.int .u32 0, .int .u32 0, .string ⟨#[]⟩], .bool false]) ∧ Below w.heap.size w w'))
    (HSeal : Hid (∀ w, Calls Try.prog 15 #[(.iface 55 V)] w fun e w' => e = .returned (.tuple #[.agg #[.int .u32 0, .int .u32 0, .int .u32 0, .int .u32 0, .int .u32 0, .int .u32 0], .bool false]) ∧ Below w.heap.size w w'))
    (HFloor : Hid (∀ w, Calls Try.prog 16 #[(.iface 55 V)] w fun e w' => e = .returned (.tuple #[.agg #[.int .u32 0, .int .u32 0, .int .u32 0], .bool false]) ∧ Below w.heap.size w w')) (w : World) :
    Calls Try.prog 4 #[.agg #[.int .i64 fk, .int .u32 (vl fa), .int .u32 (vl fb), .string F], .int .i64 how] w fun e w' => e = .returned (.bool true) ∧ Below w.heap.size w w' := by
  have HAL := Lib.hid (fun w => alive_any w)
  go_enter Try.func4, Try.ntmps4
  go_wp2
  obtain ⟨w1, hw1⟩ : ∃ wx, wx = (w.alloc (.cells #[.int .i64 fk, .int .u32 (vl fa), .int .u32 (vl fb), .string F] 24)) := ⟨_, rfl⟩
  have bw1 := Lib.hid (show Below w.heap.size w w1 by rw [hw1]; exact (Geom.bel_alloc _ _))
  have zw1 := Lib.hid (show w.heap.size + 1 ≤ w1.heap.size by rw [hw1]; simp)
  have vw1f := Lib.hid (show Var w1 (w.heap.size) 24 [.int .i64 fk, .int .u32 (vl fa), .int .u32 (vl fb), .string F] by rw [hw1]; exact (Var.new w 24 [.int .i64 fk, .int .u32 (vl fa), .int .u32 (vl fb), .string F]))
  rw [← hw1]
  refine wp_region_is_tail 3 [13, 14, 15] (fun w' => Below w1.heap.size w1 w')
    [.agg #[.int .i64 fk, .int .u32 (vl fa), .int .u32 (vl fb), .string F], .int .i64 how, .int .i64 hw] (by kernel_rfl) (by kernel_rfl) (by kernel_rfl) (by decide) rfl (by decide) (by simp) (Below.refl _ _).drew ?each ?done
  case each =>
    simp only [List.take_succ_cons, List.take_zero, Each]
    repeat' (first | exact trivial | refine And.intro ?_ ?_)
    all_goals
      intro ys wx hBx hdeps
      simp only [Deps, Region.binds, List.getD_cons_zero, List.getD_cons_succ, forall_const, and_true] at hdeps
      have q1 := (vw1f.out.below hBx vw1f.out.lt).cell (j := 0) rfl
      have q2 := (vw1f.out.below hBx vw1f.out.lt).cell (j := 1) rfl
      have q3 := (vw1f.out.below hBx vw1f.out.lt).cell (j := 2) rfl
      have q4 := (vw1f.out.below hBx vw1f.out.lt).cell (j := 3) rfl
      simp only [hdeps, fill, List.foldl_cons, List.foldl_nil, Act.put, List.setIfInBounds_toArray, List.set_cons_succ, List.set_cons_zero]
      first
        | (go_wp2_with fail; exact ⟨_, rfl, rfl, hBx, Below.refl _ _⟩)
        | (go_wp2_with (go_at_call 9; (with_reducible refine (HPK.out _).mono ?_); rintro e w3 ⟨rfl, rfl⟩); exact ⟨_, rfl, rfl, hBx, Below.refl _ _⟩)
  case done =>
    intro ys wx hBx hV
    obtain ⟨w2, hw2⟩ : ∃ wy, wy = wx := ⟨_, rfl⟩
    rw [← hw2] at hBx ⊢
    have bw2 := Lib.hid (bel2 bw1.out hBx)
    have zw2 := Lib.hid hBx.size
    have vw2f := Lib.hid (vw1f.out.below hBx vw1f.out.lt)
    have h13 : ys 13 = .agg #[.int .i64 fk, .int .u32 (vl fa), .int .u32 (vl fb), .string F] := hV 0 (by decide)
    have h15 : ys 15 = .int .i64 hw := hV 2 (by decide)
    clear hBx hV hw2
    simp only [h13, h15, fill, List.drop_succ_cons, List.drop_zero, List.foldl_cons, List.foldl_nil, Act.put, List.setIfInBounds_toArray, List.set_cons_succ, List.set_cons_zero]
    go_wp2_with (first
    | (go_at_call 8; ((with_reducible refine (HS.out _).mono ?_); rintro e w3 ⟨rfl, bz⟩; have hbel : Below w2.heap.size w2 w3 := (by exact bz); clear bz; have bw3 := Lib.hid (bel2 bw2.out hbel); have zw3 := Lib.hid hbel.size; have vw3f := Lib.hid (vw2f.out.below hbel vw2f.out.lt); clear hbel; have vf5 := (show Var w3 (w.heap.size) 24 [.int .i64 fk, .int .u32 (vl fa), .int .u32 (vl fb), .string F] from vw3f.out); have c6 := vf5.cell (j := 0) rfl; have c7 := vf5.cell (j := 1) rfl; have c8 := vf5.cell (j := 2) rfl; have c9 := vf5.cell (j := 3) rfl; clear vf5; have vf10 := (show Var w3 (w.heap.size) 24 [.int .i64 fk, .int .u32 (vl fa), .int .u32 (vl fb), .string F] from vw3f.out); have f11 := vf10.frozen 0; have f12 := vf10.frozen 1; have f13 := vf10.frozen 2; have f14 := vf10.frozen 3; clear vf10; have vf15 := (show Var ((((w3.setCell ⟨w.heap.size, 0, none⟩ (.int .i64 1)).setCell ⟨w.heap.size, 1, none⟩ (.int .u32 (vl ga))).setCell ⟨w.heap.size, 2, none⟩ (.int .u32 (vl gb))).setCell ⟨w.heap.size, 3, none⟩ (.string G)) (w.heap.size) 24 [.int .i64 1, .int .u32 (vl ga), .int .u32 (vl gb), .string G] from ((((vw3f.out.set 0 (.int .i64 1)).set 1 (.int .u32 (vl ga))).set 2 (.int .u32 (vl gb))).set 3 (.string G))); have c16 := vf15.cell (j := 0) rfl; have c17 := vf15.cell (j := 1) rfl; have c18 := vf15.cell (j := 2) rfl; have c19 := vf15.cell (j := 3) rfl; clear vf15))
    | (go_at_call 10; ((with_reducible refine (HO.out _).mono ?_); rintro e w5 ⟨rfl, bz⟩; obtain ⟨w4, hw4⟩ : ∃ wx, wx = ((((w3.setCell ⟨w.heap.size, 0, none⟩ (.int .i64 1)).setCell ⟨w.heap.size, 1, none⟩ (.int .u32 (vl ga))).setCell ⟨w.heap.size, 2, none⟩ (.int .u32 (vl gb))).setCell ⟨w.heap.size, 3, none⟩ (.string G)) := ⟨_, rfl⟩; have bw4 := Lib.hid (show Below w.heap.size w w4 by rw [hw4]; exact ((((bw3.out.setCell (p := ⟨w.heap.size, 0, none⟩) (by have := zw1.out; have := zw2.out; have := zw3.out; simp only; omega) _).setCell (p := ⟨w.heap.size, 1, none⟩) (by have := zw1.out; have := zw2.out; have := zw3.out; simp only; omega) _).setCell (p := ⟨w.heap.size, 2, none⟩) (by have := zw1.out; have := zw2.out; have := zw3.out; simp only; omega) _).setCell (p := ⟨w.heap.size, 3, none⟩) (by have := zw1.out; have := zw2.out; have := zw3.out; simp only; omega) _)); have zw4 := Lib.hid (show w3.heap.size + 0 ≤ w4.heap.size by rw [hw4]; simp); have vw4f := Lib.hid (show Var w4 (w.heap.size) 24 [.int .i64 1, .int .u32 (vl ga), .int .u32 (vl gb), .string G] by rw [hw4]; exact ((((vw3f.out.set 0 (.int .i64 1)).set 1 (.int .u32 (vl ga))).set 2 (.int .u32 (vl gb))).set 3 (.string G))); have hbel : Below w4.heap.size w4 w5 := (by rw [hw4]; exact bz); clear bz; have bw5 := Lib.hid (bel2 bw4.out hbel); have zw5 := Lib.hid hbel.size; have vw5f := Lib.hid (vw4f.out.below hbel vw4f.out.lt); clear hbel; clear c6 c7 c8 c9 f11 f12 f13 f14 c16 c17 c18 c19))
    | (go_at_call 11; ((with_reducible refine (HAL.out _).mono ?_); rintro e w6 ⟨rfl, bz⟩; have hbel : Below w5.heap.size w5 w6 := (by exact bz); clear bz; have bw6 := Lib.hid (bel2 bw5.out hbel); have zw6 := Lib.hid hbel.size; have vw6f := Lib.hid (vw5f.out.below hbel vw5f.out.lt); clear hbel))
    | (go_at_call 14; ((with_reducible refine (HPart.out _).mono ?_); rintro e w7 ⟨rfl, bz⟩; have hbel : Below w6.heap.size w6 w7 := (by exact bz); clear bz; have bw7 := Lib.hid (bel2 bw6.out hbel); have zw7 := Lib.hid hbel.size; have vw7f := Lib.hid (vw6f.out.below hbel vw6f.out.lt); clear hbel))
    | (go_at_call 15; ((with_reducible refine (HSeal.out _).mono ?_); rintro e w9 ⟨rfl, bz⟩; obtain ⟨w8, hw8⟩ : ∃ wx, wx = (w7.alloc (.cells #[.int .u32 0, .int .u32 0, .string ⟨#[]⟩] 39)) := ⟨_, rfl⟩; have bw8 := Lib.hid (show Below w.heap.size w w8 by rw [hw8]; exact (bel2 bw7.out (Geom.bel_alloc _ _))); have zw8 := Lib.hid (show w7.heap.size + 1 ≤ w8.heap.size by rw [hw8]; simp); have vw8f := Lib.hid (show Var w8 (w.heap.size) 24 [.int .i64 1, .int .u32 (vl ga), .int .u32 (vl gb), .string G] by rw [hw8]; exact (vw7f.out.alloc _)); have vw8Part := Lib.hid (show Var w8 (w7.heap.size) 39 [.int .u32 0, .int .u32 0, .string ⟨#[]⟩] by rw [hw8]; exact (Var.new w7 39 [.int .u32 0, .int .u32 0, .string ⟨#[]⟩])); have hbel : Below w8.heap.size w8 w9 := (by rw [hw8]; exact bz); clear bz; have bw9 := Lib.hid (bel2 bw8.out hbel); have zw9 := Lib.hid hbel.size; have vw9f := Lib.hid (vw8f.out.below hbel vw8f.out.lt); have vw9Part := Lib.hid (vw8Part.out.below hbel vw8Part.out.lt); clear hbel))
    | (go_at_call 16; ((with_reducible refine (HFloor.out _).mono ?_); rintro e w11 ⟨rfl, bz⟩; obtain ⟨w10, hw10⟩ : ∃ wx, wx = (w9.alloc (.cells #[.int .u32 0, .int .u32 0, .int .u32 0, .int .u32 0, .int .u32 0, .int .u32 0] 43)) := ⟨_, rfl⟩; have bw10 := Lib.hid (show Below w.heap.size w w10 by rw [hw10]; exact (bel2 bw9.out (Geom.bel_alloc _ _))); have zw10 := Lib.hid (show w9.heap.size + 1 ≤ w10.heap.size by rw [hw10]; simp); have vw10f := Lib.hid (show Var w10 (w.heap.size) 24 [.int .i64 1, .int .u32 (vl ga), .int .u32 (vl gb), .string G] by rw [hw10]; exact (vw9f.out.alloc _)); have vw10Part := Lib.hid (show Var w10 (w7.heap.size) 39 [.int .u32 0, .int .u32 0, .string ⟨#[]⟩] by rw [hw10]; exact (vw9Part.out.alloc _)); have vw10Seal := Lib.hid (show Var w10 (w9.heap.size) 43 [.int .u32 0, .int .u32 0, .int .u32 0, .int .u32 0, .int .u32 0, .int .u32 0] by rw [hw10]; exact (Var.new w9 43 [.int .u32 0, .int .u32 0, .int .u32 0, .int .u32 0, .int .u32 0, .int .u32 0])); have hbel : Below w10.heap.size w10 w11 := (by rw [hw10]; exact bz); clear bz; have bw11 := Lib.hid (bel2 bw10.out hbel); have zw11 := Lib.hid hbel.size; have vw11f := Lib.hid (vw10f.out.below hbel vw10f.out.lt); have vw11Part := Lib.hid (vw10Part.out.below hbel vw10Part.out.lt); have vw11Seal := Lib.hid (vw10Seal.out.below hbel vw10Seal.out.lt); clear hbel; have vf20 := (show Var (w11.alloc (.cells #[.int .u32 0, .int .u32 0, .int .u32 0] 47)) (w.heap.size) 24 [.int .i64 1, .int .u32 (vl ga), .int .u32 (vl gb), .string G] from (vw11f.out.alloc _)); have c21 := vf20.cell (j := 0) rfl; have c22 := vf20.cell (j := 1) rfl; have c23 := vf20.cell (j := 2) rfl; have c24 := vf20.cell (j := 3) rfl; clear vf20; have vf25 := (show Var (w11.alloc (.cells #[.int .u32 0, .int .u32 0, .int .u32 0] 47)) (w7.heap.size) 39 [.int .u32 0, .int .u32 0, .string ⟨#[]⟩] from (vw11Part.out.alloc _)); have c26 := vf25.cell (j := 0) rfl; have c27 := vf25.cell (j := 1) rfl; have c28 := vf25.cell (j := 2) rfl; clear vf25; have vf29 := (show Var (w11.alloc (.cells #[.int .u32 0, .int .u32 0, .int .u32 0] 47)) (w9.heap.size) 43 [.int .u32 0, .int .u32 0, .int .u32 0, .int .u32 0, .int .u32 0, .int .u32 0] from (vw11Seal.out.alloc _)); have c30 := vf29.cell (j := 0) rfl; have c31 := vf29.cell (j := 1) rfl; have c32 := vf29.cell (j := 2) rfl; have c33 := vf29.cell (j := 3) rfl; have c34 := vf29.cell (j := 4) rfl; have c35 := vf29.cell (j := 5) rfl; clear vf29; have vf36 := (show Var (w11.alloc (.cells #[.int .u32 0, .int .u32 0, .int .u32 0] 47)) (w11.heap.size) 47 [.int .u32 0, .int .u32 0, .int .u32 0] from (Var.new w11 47 [.int .u32 0, .int .u32 0, .int .u32 0])); have c37 := vf36.cell (j := 0) rfl; have c38 := vf36.cell (j := 1) rfl; have c39 := vf36.cell (j := 2) rfl; clear vf36)))
    go_ret
    exact ⟨rfl, (bel2 bw11.out (Geom.bel_alloc _ _))⟩
set_option maxRecDepth 100000 in
set_option maxHeartbeats 8000000 in
theorem fields_Part (fk how hw : Int) (fa fb : W) (F : ByteArray) (ga gb : W) (G : ByteArray) (V : Value)
    (HO : Hid (∀ w, Calls Try.prog 10 #[.agg #[.int .i64 2, .int .u32 (vl ga), .int .u32 (vl gb), .string G]] w fun e w' => e = .returned (.tuple #[(.iface 39 V), .int .i64 0]) ∧ Below w.heap.size w w'))
    (HS : Hid (∀ w, Calls Try.prog 8 #[.agg #[.int .i64 fk, .int .u32 (vl fa), .int .u32 (vl fb), .string F], .int .i64 hw] w fun e w' => e = .returned (.agg #[.int .i64 2, .int .u32 (vl ga), .int .u32 (vl gb), .string G]) ∧ Below w.heap.size w w'))
    (HPK : Hid (∀ w, Calls Try.prog 9 #[.int .i64 how, .int .i64 3] w fun e w' => e = .returned (.int .i64 hw) ∧ w = w'))
    (HPart : Hid (∀ w, Calls Try.prog 14 #[(.iface 39 V)] w fun e w' => e = .returned (.tuple #[.agg #[.int .u32 (vl ga), .int .u32 (vl gb), .string G], .bool true]) ∧ Below w.heap.size w w'))
    (HSeal : Hid (∀ w, Calls Try.prog 15 #[(.iface 39 V)] w fun e w' => e = .returned (.tuple #[.agg #[.int .u32 0, .int .u32 0, .int .u32 0, .int .u32 0, .int .u32 0, .int .u32 0], .bool false]) ∧ Below w.heap.size w w'))
    (HFloor : Hid (∀ w, Calls Try.prog 16 #[(.iface 39 V)] w fun e w' => e = .returned (.tuple #[.agg #[.int .u32 0, .int .u32 0, .int .u32 0], .bool false]) ∧ Below w.heap.size w w')) (w : World) :
    Calls Try.prog 4 #[.agg #[.int .i64 fk, .int .u32 (vl fa), .int .u32 (vl fb), .string F], .int .i64 how] w fun e w' => e = .returned (.bool true) ∧ Below w.heap.size w w' := by
  have HAL := Lib.hid (fun w => alive_any w)
  go_enter Try.func4, Try.ntmps4
  go_wp2
  obtain ⟨w1, hw1⟩ : ∃ wx, wx = (w.alloc (.cells #[.int .i64 fk, .int .u32 (vl fa), .int .u32 (vl fb), .string F] 24)) := ⟨_, rfl⟩
  have bw1 := Lib.hid (show Below w.heap.size w w1 by rw [hw1]; exact (Geom.bel_alloc _ _))
  have zw1 := Lib.hid (show w.heap.size + 1 ≤ w1.heap.size by rw [hw1]; simp)
  have vw1f := Lib.hid (show Var w1 (w.heap.size) 24 [.int .i64 fk, .int .u32 (vl fa), .int .u32 (vl fb), .string F] by rw [hw1]; exact (Var.new w 24 [.int .i64 fk, .int .u32 (vl fa), .int .u32 (vl fb), .string F]))
  rw [← hw1]
  refine wp_region_is_tail 3 [13, 14, 15] (fun w' => Below w1.heap.size w1 w')
    [.agg #[.int .i64 fk, .int .u32 (vl fa), .int .u32 (vl fb), .string F], .int .i64 how, .int .i64 hw] (by kernel_rfl) (by kernel_rfl) (by kernel_rfl) (by decide) rfl (by decide) (by simp) (Below.refl _ _).drew ?each ?done
  case each =>
    simp only [List.take_succ_cons, List.take_zero, Each]
    repeat' (first | exact trivial | refine And.intro ?_ ?_)
    all_goals
      intro ys wx hBx hdeps
      simp only [Deps, Region.binds, List.getD_cons_zero, List.getD_cons_succ, forall_const, and_true] at hdeps
      have q1 := (vw1f.out.below hBx vw1f.out.lt).cell (j := 0) rfl
      have q2 := (vw1f.out.below hBx vw1f.out.lt).cell (j := 1) rfl
      have q3 := (vw1f.out.below hBx vw1f.out.lt).cell (j := 2) rfl
      have q4 := (vw1f.out.below hBx vw1f.out.lt).cell (j := 3) rfl
      simp only [hdeps, fill, List.foldl_cons, List.foldl_nil, Act.put, List.setIfInBounds_toArray, List.set_cons_succ, List.set_cons_zero]
      first
        | (go_wp2_with fail; exact ⟨_, rfl, rfl, hBx, Below.refl _ _⟩)
        | (go_wp2_with (go_at_call 9; (with_reducible refine (HPK.out _).mono ?_); rintro e w3 ⟨rfl, rfl⟩); exact ⟨_, rfl, rfl, hBx, Below.refl _ _⟩)
  case done =>
    intro ys wx hBx hV
    obtain ⟨w2, hw2⟩ : ∃ wy, wy = wx := ⟨_, rfl⟩
    rw [← hw2] at hBx ⊢
    have bw2 := Lib.hid (bel2 bw1.out hBx)
    have zw2 := Lib.hid hBx.size
    have vw2f := Lib.hid (vw1f.out.below hBx vw1f.out.lt)
    have h13 : ys 13 = .agg #[.int .i64 fk, .int .u32 (vl fa), .int .u32 (vl fb), .string F] := hV 0 (by decide)
    have h15 : ys 15 = .int .i64 hw := hV 2 (by decide)
    clear hBx hV hw2
    simp only [h13, h15, fill, List.drop_succ_cons, List.drop_zero, List.foldl_cons, List.foldl_nil, Act.put, List.setIfInBounds_toArray, List.set_cons_succ, List.set_cons_zero]
    go_wp2_with (first
    | (go_at_call 8; ((with_reducible refine (HS.out _).mono ?_); rintro e w3 ⟨rfl, bz⟩; have hbel : Below w2.heap.size w2 w3 := (by exact bz); clear bz; have bw3 := Lib.hid (bel2 bw2.out hbel); have zw3 := Lib.hid hbel.size; have vw3f := Lib.hid (vw2f.out.below hbel vw2f.out.lt); clear hbel; have vf5 := (show Var w3 (w.heap.size) 24 [.int .i64 fk, .int .u32 (vl fa), .int .u32 (vl fb), .string F] from vw3f.out); have c6 := vf5.cell (j := 0) rfl; have c7 := vf5.cell (j := 1) rfl; have c8 := vf5.cell (j := 2) rfl; have c9 := vf5.cell (j := 3) rfl; clear vf5; have vf10 := (show Var w3 (w.heap.size) 24 [.int .i64 fk, .int .u32 (vl fa), .int .u32 (vl fb), .string F] from vw3f.out); have f11 := vf10.frozen 0; have f12 := vf10.frozen 1; have f13 := vf10.frozen 2; have f14 := vf10.frozen 3; clear vf10; have vf15 := (show Var ((((w3.setCell ⟨w.heap.size, 0, none⟩ (.int .i64 2)).setCell ⟨w.heap.size, 1, none⟩ (.int .u32 (vl ga))).setCell ⟨w.heap.size, 2, none⟩ (.int .u32 (vl gb))).setCell ⟨w.heap.size, 3, none⟩ (.string G)) (w.heap.size) 24 [.int .i64 2, .int .u32 (vl ga), .int .u32 (vl gb), .string G] from ((((vw3f.out.set 0 (.int .i64 2)).set 1 (.int .u32 (vl ga))).set 2 (.int .u32 (vl gb))).set 3 (.string G))); have c16 := vf15.cell (j := 0) rfl; have c17 := vf15.cell (j := 1) rfl; have c18 := vf15.cell (j := 2) rfl; have c19 := vf15.cell (j := 3) rfl; clear vf15))
    | (go_at_call 10; ((with_reducible refine (HO.out _).mono ?_); rintro e w5 ⟨rfl, bz⟩; obtain ⟨w4, hw4⟩ : ∃ wx, wx = ((((w3.setCell ⟨w.heap.size, 0, none⟩ (.int .i64 2)).setCell ⟨w.heap.size, 1, none⟩ (.int .u32 (vl ga))).setCell ⟨w.heap.size, 2, none⟩ (.int .u32 (vl gb))).setCell ⟨w.heap.size, 3, none⟩ (.string G)) := ⟨_, rfl⟩; have bw4 := Lib.hid (show Below w.heap.size w w4 by rw [hw4]; exact ((((bw3.out.setCell (p := ⟨w.heap.size, 0, none⟩) (by have := zw1.out; have := zw2.out; have := zw3.out; simp only; omega) _).setCell (p := ⟨w.heap.size, 1, none⟩) (by have := zw1.out; have := zw2.out; have := zw3.out; simp only; omega) _).setCell (p := ⟨w.heap.size, 2, none⟩) (by have := zw1.out; have := zw2.out; have := zw3.out; simp only; omega) _).setCell (p := ⟨w.heap.size, 3, none⟩) (by have := zw1.out; have := zw2.out; have := zw3.out; simp only; omega) _)); have zw4 := Lib.hid (show w3.heap.size + 0 ≤ w4.heap.size by rw [hw4]; simp); have vw4f := Lib.hid (show Var w4 (w.heap.size) 24 [.int .i64 2, .int .u32 (vl ga), .int .u32 (vl gb), .string G] by rw [hw4]; exact ((((vw3f.out.set 0 (.int .i64 2)).set 1 (.int .u32 (vl ga))).set 2 (.int .u32 (vl gb))).set 3 (.string G))); have hbel : Below w4.heap.size w4 w5 := (by rw [hw4]; exact bz); clear bz; have bw5 := Lib.hid (bel2 bw4.out hbel); have zw5 := Lib.hid hbel.size; have vw5f := Lib.hid (vw4f.out.below hbel vw4f.out.lt); clear hbel; clear c6 c7 c8 c9 f11 f12 f13 f14 c16 c17 c18 c19))
    | (go_at_call 11; ((with_reducible refine (HAL.out _).mono ?_); rintro e w6 ⟨rfl, bz⟩; have hbel : Below w5.heap.size w5 w6 := (by exact bz); clear bz; have bw6 := Lib.hid (bel2 bw5.out hbel); have zw6 := Lib.hid hbel.size; have vw6f := Lib.hid (vw5f.out.below hbel vw5f.out.lt); clear hbel))
    | (go_at_call 14; ((with_reducible refine (HPart.out _).mono ?_); rintro e w7 ⟨rfl, bz⟩; have hbel : Below w6.heap.size w6 w7 := (by exact bz); clear bz; have bw7 := Lib.hid (bel2 bw6.out hbel); have zw7 := Lib.hid hbel.size; have vw7f := Lib.hid (vw6f.out.below hbel vw6f.out.lt); clear hbel))
    | (go_at_call 15; ((with_reducible refine (HSeal.out _).mono ?_); rintro e w9 ⟨rfl, bz⟩; obtain ⟨w8, hw8⟩ : ∃ wx, wx = (w7.alloc (.cells #[.int .u32 (vl ga), .int .u32 (vl gb), .string G] 39)) := ⟨_, rfl⟩; have bw8 := Lib.hid (show Below w.heap.size w w8 by rw [hw8]; exact (bel2 bw7.out (Geom.bel_alloc _ _))); have zw8 := Lib.hid (show w7.heap.size + 1 ≤ w8.heap.size by rw [hw8]; simp); have vw8f := Lib.hid (show Var w8 (w.heap.size) 24 [.int .i64 2, .int .u32 (vl ga), .int .u32 (vl gb), .string G] by rw [hw8]; exact (vw7f.out.alloc _)); have vw8Part := Lib.hid (show Var w8 (w7.heap.size) 39 [.int .u32 (vl ga), .int .u32 (vl gb), .string G] by rw [hw8]; exact (Var.new w7 39 [.int .u32 (vl ga), .int .u32 (vl gb), .string G])); have hbel : Below w8.heap.size w8 w9 := (by rw [hw8]; exact bz); clear bz; have bw9 := Lib.hid (bel2 bw8.out hbel); have zw9 := Lib.hid hbel.size; have vw9f := Lib.hid (vw8f.out.below hbel vw8f.out.lt); have vw9Part := Lib.hid (vw8Part.out.below hbel vw8Part.out.lt); clear hbel))
    | (go_at_call 16; ((with_reducible refine (HFloor.out _).mono ?_); rintro e w11 ⟨rfl, bz⟩; obtain ⟨w10, hw10⟩ : ∃ wx, wx = (w9.alloc (.cells #[.int .u32 0, .int .u32 0, .int .u32 0, .int .u32 0, .int .u32 0, .int .u32 0] 43)) := ⟨_, rfl⟩; have bw10 := Lib.hid (show Below w.heap.size w w10 by rw [hw10]; exact (bel2 bw9.out (Geom.bel_alloc _ _))); have zw10 := Lib.hid (show w9.heap.size + 1 ≤ w10.heap.size by rw [hw10]; simp); have vw10f := Lib.hid (show Var w10 (w.heap.size) 24 [.int .i64 2, .int .u32 (vl ga), .int .u32 (vl gb), .string G] by rw [hw10]; exact (vw9f.out.alloc _)); have vw10Part := Lib.hid (show Var w10 (w7.heap.size) 39 [.int .u32 (vl ga), .int .u32 (vl gb), .string G] by rw [hw10]; exact (vw9Part.out.alloc _)); have vw10Seal := Lib.hid (show Var w10 (w9.heap.size) 43 [.int .u32 0, .int .u32 0, .int .u32 0, .int .u32 0, .int .u32 0, .int .u32 0] by rw [hw10]; exact (Var.new w9 43 [.int .u32 0, .int .u32 0, .int .u32 0, .int .u32 0, .int .u32 0, .int .u32 0])); have hbel : Below w10.heap.size w10 w11 := (by rw [hw10]; exact bz); clear bz; have bw11 := Lib.hid (bel2 bw10.out hbel); have zw11 := Lib.hid hbel.size; have vw11f := Lib.hid (vw10f.out.below hbel vw10f.out.lt); have vw11Part := Lib.hid (vw10Part.out.below hbel vw10Part.out.lt); have vw11Seal := Lib.hid (vw10Seal.out.below hbel vw10Seal.out.lt); clear hbel; have vf20 := (show Var (w11.alloc (.cells #[.int .u32 0, .int .u32 0, .int .u32 0] 47)) (w.heap.size) 24 [.int .i64 2, .int .u32 (vl ga), .int .u32 (vl gb), .string G] from (vw11f.out.alloc _)); have c21 := vf20.cell (j := 0) rfl; have c22 := vf20.cell (j := 1) rfl; have c23 := vf20.cell (j := 2) rfl; have c24 := vf20.cell (j := 3) rfl; clear vf20; have vf25 := (show Var (w11.alloc (.cells #[.int .u32 0, .int .u32 0, .int .u32 0] 47)) (w7.heap.size) 39 [.int .u32 (vl ga), .int .u32 (vl gb), .string G] from (vw11Part.out.alloc _)); have c26 := vf25.cell (j := 0) rfl; have c27 := vf25.cell (j := 1) rfl; have c28 := vf25.cell (j := 2) rfl; clear vf25; have vf29 := (show Var (w11.alloc (.cells #[.int .u32 0, .int .u32 0, .int .u32 0] 47)) (w9.heap.size) 43 [.int .u32 0, .int .u32 0, .int .u32 0, .int .u32 0, .int .u32 0, .int .u32 0] from (vw11Seal.out.alloc _)); have c30 := vf29.cell (j := 0) rfl; have c31 := vf29.cell (j := 1) rfl; have c32 := vf29.cell (j := 2) rfl; have c33 := vf29.cell (j := 3) rfl; have c34 := vf29.cell (j := 4) rfl; have c35 := vf29.cell (j := 5) rfl; clear vf29; have vf36 := (show Var (w11.alloc (.cells #[.int .u32 0, .int .u32 0, .int .u32 0] 47)) (w11.heap.size) 47 [.int .u32 0, .int .u32 0, .int .u32 0] from (Var.new w11 47 [.int .u32 0, .int .u32 0, .int .u32 0])); have c37 := vf36.cell (j := 0) rfl; have c38 := vf36.cell (j := 1) rfl; have c39 := vf36.cell (j := 2) rfl; clear vf36)))
    go_ret
    exact ⟨rfl, (bel2 bw11.out (Geom.bel_alloc _ _))⟩
set_option maxRecDepth 100000 in
set_option maxHeartbeats 8000000 in
theorem fields_Seal (fk how hw : Int) (fa fb : W) (F : ByteArray) (ga gb : W) (G : ByteArray) (V : Value)
    (v0 v4 v8 v12 : W)
    (HO : Hid (∀ w, Calls Try.prog 10 #[.agg #[.int .i64 3, .int .u32 (vl ga), .int .u32 (vl gb), .string G]] w fun e w' => e = .returned (.tuple #[(.iface 43 V), .int .i64 0]) ∧ Below w.heap.size w w'))
    (HS : Hid (∀ w, Calls Try.prog 8 #[.agg #[.int .i64 fk, .int .u32 (vl fa), .int .u32 (vl fb), .string F], .int .i64 hw] w fun e w' => e = .returned (.agg #[.int .i64 3, .int .u32 (vl ga), .int .u32 (vl gb), .string G]) ∧ Below w.heap.size w w'))
    (HPK : Hid (∀ w, Calls Try.prog 9 #[.int .i64 how, .int .i64 3] w fun e w' => e = .returned (.int .i64 hw) ∧ w = w'))
    (HPart : Hid (∀ w, Calls Try.prog 14 #[(.iface 43 V)] w fun e w' => e = .returned (.tuple #[.agg #[.int .u32 0, .int .u32 0, .string ⟨#[]⟩], .bool false]) ∧ Below w.heap.size w w'))
    (HSeal : Hid (∀ w, Calls Try.prog 15 #[(.iface 43 V)] w fun e w' => e = .returned (.tuple #[.agg #[.int .u32 (vl ga), .int .u32 (vl gb), .int .u32 (vl v0), .int .u32 (vl v4), .int .u32 (vl v8), .int .u32 (vl v12)], .bool true]) ∧ Below w.heap.size w w'))
    (HFloor : Hid (∀ w, Calls Try.prog 16 #[(.iface 43 V)] w fun e w' => e = .returned (.tuple #[.agg #[.int .u32 0, .int .u32 0, .int .u32 0], .bool false]) ∧ Below w.heap.size w w'))
    (HG0 : Hid (∀ (w : World) (k : Nat), Calls Try.prog 17 #[.string G, .int .i64 0] (w.drewN k) fun e w' => e = .returned (.int .u32 (vl v0)) ∧ ∃ n, w' = w.drewN n))
    (HG4 : Hid (∀ (w : World) (k : Nat), Calls Try.prog 17 #[.string G, .int .i64 4] (w.drewN k) fun e w' => e = .returned (.int .u32 (vl v4)) ∧ ∃ n, w' = w.drewN n))
    (HG8 : Hid (∀ (w : World) (k : Nat), Calls Try.prog 17 #[.string G, .int .i64 8] (w.drewN k) fun e w' => e = .returned (.int .u32 (vl v8)) ∧ ∃ n, w' = w.drewN n))
    (HG12 : Hid (∀ (w : World) (k : Nat), Calls Try.prog 17 #[.string G, .int .i64 12] (w.drewN k) fun e w' => e = .returned (.int .u32 (vl v12)) ∧ ∃ n, w' = w.drewN n)) (w : World) :
    Calls Try.prog 4 #[.agg #[.int .i64 fk, .int .u32 (vl fa), .int .u32 (vl fb), .string F], .int .i64 how] w fun e w' => e = .returned (.bool true) ∧ Below w.heap.size w w' := by
  have HAL := Lib.hid (fun w => alive_any w)
  go_enter Try.func4, Try.ntmps4
  go_wp2
  obtain ⟨w1, hw1⟩ : ∃ wx, wx = (w.alloc (.cells #[.int .i64 fk, .int .u32 (vl fa), .int .u32 (vl fb), .string F] 24)) := ⟨_, rfl⟩
  have bw1 := Lib.hid (show Below w.heap.size w w1 by rw [hw1]; exact (Geom.bel_alloc _ _))
  have zw1 := Lib.hid (show w.heap.size + 1 ≤ w1.heap.size by rw [hw1]; simp)
  have vw1f := Lib.hid (show Var w1 (w.heap.size) 24 [.int .i64 fk, .int .u32 (vl fa), .int .u32 (vl fb), .string F] by rw [hw1]; exact (Var.new w 24 [.int .i64 fk, .int .u32 (vl fa), .int .u32 (vl fb), .string F]))
  rw [← hw1]
  refine wp_region_is_tail 3 [13, 14, 15] (fun w' => Below w1.heap.size w1 w')
    [.agg #[.int .i64 fk, .int .u32 (vl fa), .int .u32 (vl fb), .string F], .int .i64 how, .int .i64 hw] (by kernel_rfl) (by kernel_rfl) (by kernel_rfl) (by decide) rfl (by decide) (by simp) (Below.refl _ _).drew ?each ?done
  case each =>
    simp only [List.take_succ_cons, List.take_zero, Each]
    repeat' (first | exact trivial | refine And.intro ?_ ?_)
    all_goals
      intro ys wx hBx hdeps
      simp only [Deps, Region.binds, List.getD_cons_zero, List.getD_cons_succ, forall_const, and_true] at hdeps
      have q1 := (vw1f.out.below hBx vw1f.out.lt).cell (j := 0) rfl
      have q2 := (vw1f.out.below hBx vw1f.out.lt).cell (j := 1) rfl
      have q3 := (vw1f.out.below hBx vw1f.out.lt).cell (j := 2) rfl
      have q4 := (vw1f.out.below hBx vw1f.out.lt).cell (j := 3) rfl
      simp only [hdeps, fill, List.foldl_cons, List.foldl_nil, Act.put, List.setIfInBounds_toArray, List.set_cons_succ, List.set_cons_zero]
      first
        | (go_wp2_with fail; exact ⟨_, rfl, rfl, hBx, Below.refl _ _⟩)
        | (go_wp2_with (go_at_call 9; (with_reducible refine (HPK.out _).mono ?_); rintro e w3 ⟨rfl, rfl⟩); exact ⟨_, rfl, rfl, hBx, Below.refl _ _⟩)
  case done =>
    intro ys wx hBx hV
    obtain ⟨w2, hw2⟩ : ∃ wy, wy = wx := ⟨_, rfl⟩
    rw [← hw2] at hBx ⊢
    have bw2 := Lib.hid (bel2 bw1.out hBx)
    have zw2 := Lib.hid hBx.size
    have vw2f := Lib.hid (vw1f.out.below hBx vw1f.out.lt)
    have h13 : ys 13 = .agg #[.int .i64 fk, .int .u32 (vl fa), .int .u32 (vl fb), .string F] := hV 0 (by decide)
    have h15 : ys 15 = .int .i64 hw := hV 2 (by decide)
    clear hBx hV hw2
    simp only [h13, h15, fill, List.drop_succ_cons, List.drop_zero, List.foldl_cons, List.foldl_nil, Act.put, List.setIfInBounds_toArray, List.set_cons_succ, List.set_cons_zero]
    go_wp2_with (first
    | (go_at_call 8; ((with_reducible refine (HS.out _).mono ?_); rintro e w3 ⟨rfl, bz⟩; have hbel : Below w2.heap.size w2 w3 := (by exact bz); clear bz; have bw3 := Lib.hid (bel2 bw2.out hbel); have zw3 := Lib.hid hbel.size; have vw3f := Lib.hid (vw2f.out.below hbel vw2f.out.lt); clear hbel; have vf5 := (show Var w3 (w.heap.size) 24 [.int .i64 fk, .int .u32 (vl fa), .int .u32 (vl fb), .string F] from vw3f.out); have c6 := vf5.cell (j := 0) rfl; have c7 := vf5.cell (j := 1) rfl; have c8 := vf5.cell (j := 2) rfl; have c9 := vf5.cell (j := 3) rfl; clear vf5; have vf10 := (show Var w3 (w.heap.size) 24 [.int .i64 fk, .int .u32 (vl fa), .int .u32 (vl fb), .string F] from vw3f.out); have f11 := vf10.frozen 0; have f12 := vf10.frozen 1; have f13 := vf10.frozen 2; have f14 := vf10.frozen 3; clear vf10; have vf15 := (show Var ((((w3.setCell ⟨w.heap.size, 0, none⟩ (.int .i64 3)).setCell ⟨w.heap.size, 1, none⟩ (.int .u32 (vl ga))).setCell ⟨w.heap.size, 2, none⟩ (.int .u32 (vl gb))).setCell ⟨w.heap.size, 3, none⟩ (.string G)) (w.heap.size) 24 [.int .i64 3, .int .u32 (vl ga), .int .u32 (vl gb), .string G] from ((((vw3f.out.set 0 (.int .i64 3)).set 1 (.int .u32 (vl ga))).set 2 (.int .u32 (vl gb))).set 3 (.string G))); have c16 := vf15.cell (j := 0) rfl; have c17 := vf15.cell (j := 1) rfl; have c18 := vf15.cell (j := 2) rfl; have c19 := vf15.cell (j := 3) rfl; clear vf15))
    | (go_at_call 10; ((with_reducible refine (HO.out _).mono ?_); rintro e w5 ⟨rfl, bz⟩; obtain ⟨w4, hw4⟩ : ∃ wx, wx = ((((w3.setCell ⟨w.heap.size, 0, none⟩ (.int .i64 3)).setCell ⟨w.heap.size, 1, none⟩ (.int .u32 (vl ga))).setCell ⟨w.heap.size, 2, none⟩ (.int .u32 (vl gb))).setCell ⟨w.heap.size, 3, none⟩ (.string G)) := ⟨_, rfl⟩; have bw4 := Lib.hid (show Below w.heap.size w w4 by rw [hw4]; exact ((((bw3.out.setCell (p := ⟨w.heap.size, 0, none⟩) (by have := zw1.out; have := zw2.out; have := zw3.out; simp only; omega) _).setCell (p := ⟨w.heap.size, 1, none⟩) (by have := zw1.out; have := zw2.out; have := zw3.out; simp only; omega) _).setCell (p := ⟨w.heap.size, 2, none⟩) (by have := zw1.out; have := zw2.out; have := zw3.out; simp only; omega) _).setCell (p := ⟨w.heap.size, 3, none⟩) (by have := zw1.out; have := zw2.out; have := zw3.out; simp only; omega) _)); have zw4 := Lib.hid (show w3.heap.size + 0 ≤ w4.heap.size by rw [hw4]; simp); have vw4f := Lib.hid (show Var w4 (w.heap.size) 24 [.int .i64 3, .int .u32 (vl ga), .int .u32 (vl gb), .string G] by rw [hw4]; exact ((((vw3f.out.set 0 (.int .i64 3)).set 1 (.int .u32 (vl ga))).set 2 (.int .u32 (vl gb))).set 3 (.string G))); have hbel : Below w4.heap.size w4 w5 := (by rw [hw4]; exact bz); clear bz; have bw5 := Lib.hid (bel2 bw4.out hbel); have zw5 := Lib.hid hbel.size; have vw5f := Lib.hid (vw4f.out.below hbel vw4f.out.lt); clear hbel; clear c6 c7 c8 c9 f11 f12 f13 f14 c16 c17 c18 c19))
    | (go_at_call 11; ((with_reducible refine (HAL.out _).mono ?_); rintro e w6 ⟨rfl, bz⟩; have hbel : Below w5.heap.size w5 w6 := (by exact bz); clear bz; have bw6 := Lib.hid (bel2 bw5.out hbel); have zw6 := Lib.hid hbel.size; have vw6f := Lib.hid (vw5f.out.below hbel vw5f.out.lt); clear hbel))
    | (go_at_call 14; ((with_reducible refine (HPart.out _).mono ?_); rintro e w7 ⟨rfl, bz⟩; have hbel : Below w6.heap.size w6 w7 := (by exact bz); clear bz; have bw7 := Lib.hid (bel2 bw6.out hbel); have zw7 := Lib.hid hbel.size; have vw7f := Lib.hid (vw6f.out.below hbel vw6f.out.lt); clear hbel))
    | (go_at_call 15; ((with_reducible refine (HSeal.out _).mono ?_); rintro e w9 ⟨rfl, bz⟩; obtain ⟨w8, hw8⟩ : ∃ wx, wx = (w7.alloc (.cells #[.int .u32 0, .int .u32 0, .string ⟨#[]⟩] 39)) := ⟨_, rfl⟩; have bw8 := Lib.hid (show Below w.heap.size w w8 by rw [hw8]; exact (bel2 bw7.out (Geom.bel_alloc _ _))); have zw8 := Lib.hid (show w7.heap.size + 1 ≤ w8.heap.size by rw [hw8]; simp); have vw8f := Lib.hid (show Var w8 (w.heap.size) 24 [.int .i64 3, .int .u32 (vl ga), .int .u32 (vl gb), .string G] by rw [hw8]; exact (vw7f.out.alloc _)); have vw8Part := Lib.hid (show Var w8 (w7.heap.size) 39 [.int .u32 0, .int .u32 0, .string ⟨#[]⟩] by rw [hw8]; exact (Var.new w7 39 [.int .u32 0, .int .u32 0, .string ⟨#[]⟩])); have hbel : Below w8.heap.size w8 w9 := (by rw [hw8]; exact bz); clear bz; have bw9 := Lib.hid (bel2 bw8.out hbel); have zw9 := Lib.hid hbel.size; have vw9f := Lib.hid (vw8f.out.below hbel vw8f.out.lt); have vw9Part := Lib.hid (vw8Part.out.below hbel vw8Part.out.lt); clear hbel))
    | (go_at_call 16; ((with_reducible refine (HFloor.out _).mono ?_); rintro e w11 ⟨rfl, bz⟩; obtain ⟨w10, hw10⟩ : ∃ wx, wx = (w9.alloc (.cells #[.int .u32 (vl ga), .int .u32 (vl gb), .int .u32 (vl v0), .int .u32 (vl v4), .int .u32 (vl v8), .int .u32 (vl v12)] 43)) := ⟨_, rfl⟩; have bw10 := Lib.hid (show Below w.heap.size w w10 by rw [hw10]; exact (bel2 bw9.out (Geom.bel_alloc _ _))); have zw10 := Lib.hid (show w9.heap.size + 1 ≤ w10.heap.size by rw [hw10]; simp); have vw10f := Lib.hid (show Var w10 (w.heap.size) 24 [.int .i64 3, .int .u32 (vl ga), .int .u32 (vl gb), .string G] by rw [hw10]; exact (vw9f.out.alloc _)); have vw10Part := Lib.hid (show Var w10 (w7.heap.size) 39 [.int .u32 0, .int .u32 0, .string ⟨#[]⟩] by rw [hw10]; exact (vw9Part.out.alloc _)); have vw10Seal := Lib.hid (show Var w10 (w9.heap.size) 43 [.int .u32 (vl ga), .int .u32 (vl gb), .int .u32 (vl v0), .int .u32 (vl v4), .int .u32 (vl v8), .int .u32 (vl v12)] by rw [hw10]; exact (Var.new w9 43 [.int .u32 (vl ga), .int .u32 (vl gb), .int .u32 (vl v0), .int .u32 (vl v4), .int .u32 (vl v8), .int .u32 (vl v12)])); have hbel : Below w10.heap.size w10 w11 := (by rw [hw10]; exact bz); clear bz; have bw11 := Lib.hid (bel2 bw10.out hbel); have zw11 := Lib.hid hbel.size; have vw11f := Lib.hid (vw10f.out.below hbel vw10f.out.lt); have vw11Part := Lib.hid (vw10Part.out.below hbel vw10Part.out.lt); have vw11Seal := Lib.hid (vw10Seal.out.below hbel vw10Seal.out.lt); clear hbel; have vf20 := (show Var (w11.alloc (.cells #[.int .u32 0, .int .u32 0, .int .u32 0] 47)) (w.heap.size) 24 [.int .i64 3, .int .u32 (vl ga), .int .u32 (vl gb), .string G] from (vw11f.out.alloc _)); have c21 := vf20.cell (j := 0) rfl; have c22 := vf20.cell (j := 1) rfl; have c23 := vf20.cell (j := 2) rfl; have c24 := vf20.cell (j := 3) rfl; clear vf20; have vf25 := (show Var (w11.alloc (.cells #[.int .u32 0, .int .u32 0, .int .u32 0] 47)) (w7.heap.size) 39 [.int .u32 0, .int .u32 0, .string ⟨#[]⟩] from (vw11Part.out.alloc _)); have c26 := vf25.cell (j := 0) rfl; have c27 := vf25.cell (j := 1) rfl; have c28 := vf25.cell (j := 2) rfl; clear vf25; have vf29 := (show Var (w11.alloc (.cells #[.int .u32 0, .int .u32 0, .int .u32 0] 47)) (w9.heap.size) 43 [.int .u32 (vl ga), .int .u32 (vl gb), .int .u32 (vl v0), .int .u32 (vl v4), .int .u32 (vl v8), .int .u32 (vl v12)] from (vw11Seal.out.alloc _)); have c30 := vf29.cell (j := 0) rfl; have c31 := vf29.cell (j := 1) rfl; have c32 := vf29.cell (j := 2) rfl; have c33 := vf29.cell (j := 3) rfl; have c34 := vf29.cell (j := 4) rfl; have c35 := vf29.cell (j := 5) rfl; clear vf29; have vf36 := (show Var (w11.alloc (.cells #[.int .u32 0, .int .u32 0, .int .u32 0] 47)) (w11.heap.size) 47 [.int .u32 0, .int .u32 0, .int .u32 0] from (Var.new w11 47 [.int .u32 0, .int .u32 0, .int .u32 0])); have c37 := vf36.cell (j := 0) rfl; have c38 := vf36.cell (j := 1) rfl; have c39 := vf36.cell (j := 2) rfl; clear vf36)))
    obtain ⟨w12, hw12⟩ : ∃ wx, wx = (w11.alloc (.cells #[.int .u32 0, .int .u32 0, .int .u32 0] 47)) := ⟨_, rfl⟩
    have bw12 := Lib.hid (show Below w.heap.size w w12 by rw [hw12]; exact (bel2 bw11.out (Geom.bel_alloc _ _)))
    have zw12 := Lib.hid (show w11.heap.size + 1 ≤ w12.heap.size by rw [hw12]; simp)
    have vw12f := Lib.hid (show Var w12 (w.heap.size) 24 [.int .i64 3, .int .u32 (vl ga), .int .u32 (vl gb), .string G] by rw [hw12]; exact (vw11f.out.alloc _))
    have vw12Part := Lib.hid (show Var w12 (w7.heap.size) 39 [.int .u32 0, .int .u32 0, .string ⟨#[]⟩] by rw [hw12]; exact (vw11Part.out.alloc _))
    have vw12Seal := Lib.hid (show Var w12 (w9.heap.size) 43 [.int .u32 (vl ga), .int .u32 (vl gb), .int .u32 (vl v0), .int .u32 (vl v4), .int .u32 (vl v8), .int .u32 (vl v12)] by rw [hw12]; exact (vw11Seal.out.alloc _))
    have vw12Floor := Lib.hid (show Var w12 (w11.heap.size) 47 [.int .u32 0, .int .u32 0, .int .u32 0] by rw [hw12]; exact (Var.new w11 47 [.int .u32 0, .int .u32 0, .int .u32 0]))
    rw [← hw12]
    clear c21 c22 c23 c24 c26 c27 c28 c30 c31 c32 c33 c34 c35 c37 c38 c39 hw12
    have vf40 := (show Var w12 (w.heap.size) 24 [.int .i64 3, .int .u32 (vl ga), .int .u32 (vl gb), .string G] from vw12f.out)
    have c41 := vf40.cell (j := 0) rfl
    have c42 := vf40.cell (j := 1) rfl
    have c43 := vf40.cell (j := 2) rfl
    have c44 := vf40.cell (j := 3) rfl
    clear vf40
    have vf45 := (show Var w12 (w9.heap.size) 43 [.int .u32 (vl ga), .int .u32 (vl gb), .int .u32 (vl v0), .int .u32 (vl v4), .int .u32 (vl v8), .int .u32 (vl v12)] from vw12Seal.out)
    have c46 := vf45.cell (j := 0) rfl
    have c47 := vf45.cell (j := 1) rfl
    have c48 := vf45.cell (j := 2) rfl
    have c49 := vf45.cell (j := 3) rfl
    have c50 := vf45.cell (j := 4) rfl
    have c51 := vf45.cell (j := 5) rfl
    clear vf45
    go_quiet (first | (go_at_call 17; with_reducible exact HG0.out _ _) | (go_at_call 17; with_reducible exact HG4.out _ _) | (go_at_call 17; with_reducible exact HG8.out _ _) | (go_at_call 17; with_reducible exact HG12.out _ _))
    go_wp2
    go_ret
    exact ⟨rfl, below_draw bw12.out ⟨_, rfl⟩⟩
set_option maxRecDepth 100000 in
set_option maxHeartbeats 8000000 in
theorem fields_Floor (fk how hw : Int) (fa fb : W) (F : ByteArray) (ga gb : W) (G : ByteArray) (V : Value)
    (v0 : W)
    (HO : Hid (∀ w, Calls Try.prog 10 #[.agg #[.int .i64 4, .int .u32 (vl ga), .int .u32 (vl gb), .string G]] w fun e w' => e = .returned (.tuple #[(.iface 47 V), .int .i64 0]) ∧ Below w.heap.size w w'))
    (HS : Hid (∀ w, Calls Try.prog 8 #[.agg #[.int .i64 fk, .int .u32 (vl fa), .int .u32 (vl fb), .string F], .int .i64 hw] w fun e w' => e = .returned (.agg #[.int .i64 4, .int .u32 (vl ga), .int .u32 (vl gb), .string G]) ∧ Below w.heap.size w w'))
    (HPK : Hid (∀ w, Calls Try.prog 9 #[.int .i64 how, .int .i64 3] w fun e w' => e = .returned (.int .i64 hw) ∧ w = w'))
    (HPart : Hid (∀ w, Calls Try.prog 14 #[(.iface 47 V)] w fun e w' => e = .returned (.tuple #[.agg #[.int .u32 0, .int .u32 0, .string ⟨#[]⟩], .bool false]) ∧ Below w.heap.size w w'))
    (HSeal : Hid (∀ w, Calls Try.prog 15 #[(.iface 47 V)] w fun e w' => e = .returned (.tuple #[.agg #[.int .u32 0, .int .u32 0, .int .u32 0, .int .u32 0, .int .u32 0, .int .u32 0], .bool false]) ∧ Below w.heap.size w w'))
    (HFloor : Hid (∀ w, Calls Try.prog 16 #[(.iface 47 V)] w fun e w' => e = .returned (.tuple #[.agg #[.int .u32 (vl ga), .int .u32 (vl gb), .int .u32 (vl v0)], .bool true]) ∧ Below w.heap.size w w'))
    (HG0 : Hid (∀ (w : World) (k : Nat), Calls Try.prog 17 #[.string G, .int .i64 0] (w.drewN k) fun e w' => e = .returned (.int .u32 (vl v0)) ∧ ∃ n, w' = w.drewN n)) (w : World) :
    Calls Try.prog 4 #[.agg #[.int .i64 fk, .int .u32 (vl fa), .int .u32 (vl fb), .string F], .int .i64 how] w fun e w' => e = .returned (.bool true) ∧ Below w.heap.size w w' := by
  have HAL := Lib.hid (fun w => alive_any w)
  go_enter Try.func4, Try.ntmps4
  go_wp2
  obtain ⟨w1, hw1⟩ : ∃ wx, wx = (w.alloc (.cells #[.int .i64 fk, .int .u32 (vl fa), .int .u32 (vl fb), .string F] 24)) := ⟨_, rfl⟩
  have bw1 := Lib.hid (show Below w.heap.size w w1 by rw [hw1]; exact (Geom.bel_alloc _ _))
  have zw1 := Lib.hid (show w.heap.size + 1 ≤ w1.heap.size by rw [hw1]; simp)
  have vw1f := Lib.hid (show Var w1 (w.heap.size) 24 [.int .i64 fk, .int .u32 (vl fa), .int .u32 (vl fb), .string F] by rw [hw1]; exact (Var.new w 24 [.int .i64 fk, .int .u32 (vl fa), .int .u32 (vl fb), .string F]))
  rw [← hw1]
  refine wp_region_is_tail 3 [13, 14, 15] (fun w' => Below w1.heap.size w1 w')
    [.agg #[.int .i64 fk, .int .u32 (vl fa), .int .u32 (vl fb), .string F], .int .i64 how, .int .i64 hw] (by kernel_rfl) (by kernel_rfl) (by kernel_rfl) (by decide) rfl (by decide) (by simp) (Below.refl _ _).drew ?each ?done
  case each =>
    simp only [List.take_succ_cons, List.take_zero, Each]
    repeat' (first | exact trivial | refine And.intro ?_ ?_)
    all_goals
      intro ys wx hBx hdeps
      simp only [Deps, Region.binds, List.getD_cons_zero, List.getD_cons_succ, forall_const, and_true] at hdeps
      have q1 := (vw1f.out.below hBx vw1f.out.lt).cell (j := 0) rfl
      have q2 := (vw1f.out.below hBx vw1f.out.lt).cell (j := 1) rfl
      have q3 := (vw1f.out.below hBx vw1f.out.lt).cell (j := 2) rfl
      have q4 := (vw1f.out.below hBx vw1f.out.lt).cell (j := 3) rfl
      simp only [hdeps, fill, List.foldl_cons, List.foldl_nil, Act.put, List.setIfInBounds_toArray, List.set_cons_succ, List.set_cons_zero]
      first
        | (go_wp2_with fail; exact ⟨_, rfl, rfl, hBx, Below.refl _ _⟩)
        | (go_wp2_with (go_at_call 9; (with_reducible refine (HPK.out _).mono ?_); rintro e w3 ⟨rfl, rfl⟩); exact ⟨_, rfl, rfl, hBx, Below.refl _ _⟩)
  case done =>
    intro ys wx hBx hV
    obtain ⟨w2, hw2⟩ : ∃ wy, wy = wx := ⟨_, rfl⟩
    rw [← hw2] at hBx ⊢
    have bw2 := Lib.hid (bel2 bw1.out hBx)
    have zw2 := Lib.hid hBx.size
    have vw2f := Lib.hid (vw1f.out.below hBx vw1f.out.lt)
    have h13 : ys 13 = .agg #[.int .i64 fk, .int .u32 (vl fa), .int .u32 (vl fb), .string F] := hV 0 (by decide)
    have h15 : ys 15 = .int .i64 hw := hV 2 (by decide)
    clear hBx hV hw2
    simp only [h13, h15, fill, List.drop_succ_cons, List.drop_zero, List.foldl_cons, List.foldl_nil, Act.put, List.setIfInBounds_toArray, List.set_cons_succ, List.set_cons_zero]
    go_wp2_with (first
    | (go_at_call 8; ((with_reducible refine (HS.out _).mono ?_); rintro e w3 ⟨rfl, bz⟩; have hbel : Below w2.heap.size w2 w3 := (by exact bz); clear bz; have bw3 := Lib.hid (bel2 bw2.out hbel); have zw3 := Lib.hid hbel.size; have vw3f := Lib.hid (vw2f.out.below hbel vw2f.out.lt); clear hbel; have vf5 := (show Var w3 (w.heap.size) 24 [.int .i64 fk, .int .u32 (vl fa), .int .u32 (vl fb), .string F] from vw3f.out); have c6 := vf5.cell (j := 0) rfl; have c7 := vf5.cell (j := 1) rfl; have c8 := vf5.cell (j := 2) rfl; have c9 := vf5.cell (j := 3) rfl; clear vf5; have vf10 := (show Var w3 (w.heap.size) 24 [.int .i64 fk, .int .u32 (vl fa), .int .u32 (vl fb), .string F] from vw3f.out); have f11 := vf10.frozen 0; have f12 := vf10.frozen 1; have f13 := vf10.frozen 2; have f14 := vf10.frozen 3; clear vf10; have vf15 := (show Var ((((w3.setCell ⟨w.heap.size, 0, none⟩ (.int .i64 4)).setCell ⟨w.heap.size, 1, none⟩ (.int .u32 (vl ga))).setCell ⟨w.heap.size, 2, none⟩ (.int .u32 (vl gb))).setCell ⟨w.heap.size, 3, none⟩ (.string G)) (w.heap.size) 24 [.int .i64 4, .int .u32 (vl ga), .int .u32 (vl gb), .string G] from ((((vw3f.out.set 0 (.int .i64 4)).set 1 (.int .u32 (vl ga))).set 2 (.int .u32 (vl gb))).set 3 (.string G))); have c16 := vf15.cell (j := 0) rfl; have c17 := vf15.cell (j := 1) rfl; have c18 := vf15.cell (j := 2) rfl; have c19 := vf15.cell (j := 3) rfl; clear vf15))
    | (go_at_call 10; ((with_reducible refine (HO.out _).mono ?_); rintro e w5 ⟨rfl, bz⟩; obtain ⟨w4, hw4⟩ : ∃ wx, wx = ((((w3.setCell ⟨w.heap.size, 0, none⟩ (.int .i64 4)).setCell ⟨w.heap.size, 1, none⟩ (.int .u32 (vl ga))).setCell ⟨w.heap.size, 2, none⟩ (.int .u32 (vl gb))).setCell ⟨w.heap.size, 3, none⟩ (.string G)) := ⟨_, rfl⟩; have bw4 := Lib.hid (show Below w.heap.size w w4 by rw [hw4]; exact ((((bw3.out.setCell (p := ⟨w.heap.size, 0, none⟩) (by have := zw1.out; have := zw2.out; have := zw3.out; simp only; omega) _).setCell (p := ⟨w.heap.size, 1, none⟩) (by have := zw1.out; have := zw2.out; have := zw3.out; simp only; omega) _).setCell (p := ⟨w.heap.size, 2, none⟩) (by have := zw1.out; have := zw2.out; have := zw3.out; simp only; omega) _).setCell (p := ⟨w.heap.size, 3, none⟩) (by have := zw1.out; have := zw2.out; have := zw3.out; simp only; omega) _)); have zw4 := Lib.hid (show w3.heap.size + 0 ≤ w4.heap.size by rw [hw4]; simp); have vw4f := Lib.hid (show Var w4 (w.heap.size) 24 [.int .i64 4, .int .u32 (vl ga), .int .u32 (vl gb), .string G] by rw [hw4]; exact ((((vw3f.out.set 0 (.int .i64 4)).set 1 (.int .u32 (vl ga))).set 2 (.int .u32 (vl gb))).set 3 (.string G))); have hbel : Below w4.heap.size w4 w5 := (by rw [hw4]; exact bz); clear bz; have bw5 := Lib.hid (bel2 bw4.out hbel); have zw5 := Lib.hid hbel.size; have vw5f := Lib.hid (vw4f.out.below hbel vw4f.out.lt); clear hbel; clear c6 c7 c8 c9 f11 f12 f13 f14 c16 c17 c18 c19))
    | (go_at_call 11; ((with_reducible refine (HAL.out _).mono ?_); rintro e w6 ⟨rfl, bz⟩; have hbel : Below w5.heap.size w5 w6 := (by exact bz); clear bz; have bw6 := Lib.hid (bel2 bw5.out hbel); have zw6 := Lib.hid hbel.size; have vw6f := Lib.hid (vw5f.out.below hbel vw5f.out.lt); clear hbel))
    | (go_at_call 14; ((with_reducible refine (HPart.out _).mono ?_); rintro e w7 ⟨rfl, bz⟩; have hbel : Below w6.heap.size w6 w7 := (by exact bz); clear bz; have bw7 := Lib.hid (bel2 bw6.out hbel); have zw7 := Lib.hid hbel.size; have vw7f := Lib.hid (vw6f.out.below hbel vw6f.out.lt); clear hbel))
    | (go_at_call 15; ((with_reducible refine (HSeal.out _).mono ?_); rintro e w9 ⟨rfl, bz⟩; obtain ⟨w8, hw8⟩ : ∃ wx, wx = (w7.alloc (.cells #[.int .u32 0, .int .u32 0, .string ⟨#[]⟩] 39)) := ⟨_, rfl⟩; have bw8 := Lib.hid (show Below w.heap.size w w8 by rw [hw8]; exact (bel2 bw7.out (Geom.bel_alloc _ _))); have zw8 := Lib.hid (show w7.heap.size + 1 ≤ w8.heap.size by rw [hw8]; simp); have vw8f := Lib.hid (show Var w8 (w.heap.size) 24 [.int .i64 4, .int .u32 (vl ga), .int .u32 (vl gb), .string G] by rw [hw8]; exact (vw7f.out.alloc _)); have vw8Part := Lib.hid (show Var w8 (w7.heap.size) 39 [.int .u32 0, .int .u32 0, .string ⟨#[]⟩] by rw [hw8]; exact (Var.new w7 39 [.int .u32 0, .int .u32 0, .string ⟨#[]⟩])); have hbel : Below w8.heap.size w8 w9 := (by rw [hw8]; exact bz); clear bz; have bw9 := Lib.hid (bel2 bw8.out hbel); have zw9 := Lib.hid hbel.size; have vw9f := Lib.hid (vw8f.out.below hbel vw8f.out.lt); have vw9Part := Lib.hid (vw8Part.out.below hbel vw8Part.out.lt); clear hbel))
    | (go_at_call 16; ((with_reducible refine (HFloor.out _).mono ?_); rintro e w11 ⟨rfl, bz⟩; obtain ⟨w10, hw10⟩ : ∃ wx, wx = (w9.alloc (.cells #[.int .u32 0, .int .u32 0, .int .u32 0, .int .u32 0, .int .u32 0, .int .u32 0] 43)) := ⟨_, rfl⟩; have bw10 := Lib.hid (show Below w.heap.size w w10 by rw [hw10]; exact (bel2 bw9.out (Geom.bel_alloc _ _))); have zw10 := Lib.hid (show w9.heap.size + 1 ≤ w10.heap.size by rw [hw10]; simp); have vw10f := Lib.hid (show Var w10 (w.heap.size) 24 [.int .i64 4, .int .u32 (vl ga), .int .u32 (vl gb), .string G] by rw [hw10]; exact (vw9f.out.alloc _)); have vw10Part := Lib.hid (show Var w10 (w7.heap.size) 39 [.int .u32 0, .int .u32 0, .string ⟨#[]⟩] by rw [hw10]; exact (vw9Part.out.alloc _)); have vw10Seal := Lib.hid (show Var w10 (w9.heap.size) 43 [.int .u32 0, .int .u32 0, .int .u32 0, .int .u32 0, .int .u32 0, .int .u32 0] by rw [hw10]; exact (Var.new w9 43 [.int .u32 0, .int .u32 0, .int .u32 0, .int .u32 0, .int .u32 0, .int .u32 0])); have hbel : Below w10.heap.size w10 w11 := (by rw [hw10]; exact bz); clear bz; have bw11 := Lib.hid (bel2 bw10.out hbel); have zw11 := Lib.hid hbel.size; have vw11f := Lib.hid (vw10f.out.below hbel vw10f.out.lt); have vw11Part := Lib.hid (vw10Part.out.below hbel vw10Part.out.lt); have vw11Seal := Lib.hid (vw10Seal.out.below hbel vw10Seal.out.lt); clear hbel; have vf20 := (show Var (w11.alloc (.cells #[.int .u32 (vl ga), .int .u32 (vl gb), .int .u32 (vl v0)] 47)) (w.heap.size) 24 [.int .i64 4, .int .u32 (vl ga), .int .u32 (vl gb), .string G] from (vw11f.out.alloc _)); have c21 := vf20.cell (j := 0) rfl; have c22 := vf20.cell (j := 1) rfl; have c23 := vf20.cell (j := 2) rfl; have c24 := vf20.cell (j := 3) rfl; clear vf20; have vf25 := (show Var (w11.alloc (.cells #[.int .u32 (vl ga), .int .u32 (vl gb), .int .u32 (vl v0)] 47)) (w7.heap.size) 39 [.int .u32 0, .int .u32 0, .string ⟨#[]⟩] from (vw11Part.out.alloc _)); have c26 := vf25.cell (j := 0) rfl; have c27 := vf25.cell (j := 1) rfl; have c28 := vf25.cell (j := 2) rfl; clear vf25; have vf29 := (show Var (w11.alloc (.cells #[.int .u32 (vl ga), .int .u32 (vl gb), .int .u32 (vl v0)] 47)) (w9.heap.size) 43 [.int .u32 0, .int .u32 0, .int .u32 0, .int .u32 0, .int .u32 0, .int .u32 0] from (vw11Seal.out.alloc _)); have c30 := vf29.cell (j := 0) rfl; have c31 := vf29.cell (j := 1) rfl; have c32 := vf29.cell (j := 2) rfl; have c33 := vf29.cell (j := 3) rfl; have c34 := vf29.cell (j := 4) rfl; have c35 := vf29.cell (j := 5) rfl; clear vf29; have vf36 := (show Var (w11.alloc (.cells #[.int .u32 (vl ga), .int .u32 (vl gb), .int .u32 (vl v0)] 47)) (w11.heap.size) 47 [.int .u32 (vl ga), .int .u32 (vl gb), .int .u32 (vl v0)] from (Var.new w11 47 [.int .u32 (vl ga), .int .u32 (vl gb), .int .u32 (vl v0)])); have c37 := vf36.cell (j := 0) rfl; have c38 := vf36.cell (j := 1) rfl; have c39 := vf36.cell (j := 2) rfl; clear vf36)))
    obtain ⟨w12, hw12⟩ : ∃ wx, wx = (w11.alloc (.cells #[.int .u32 (vl ga), .int .u32 (vl gb), .int .u32 (vl v0)] 47)) := ⟨_, rfl⟩
    have bw12 := Lib.hid (show Below w.heap.size w w12 by rw [hw12]; exact (bel2 bw11.out (Geom.bel_alloc _ _)))
    have zw12 := Lib.hid (show w11.heap.size + 1 ≤ w12.heap.size by rw [hw12]; simp)
    have vw12f := Lib.hid (show Var w12 (w.heap.size) 24 [.int .i64 4, .int .u32 (vl ga), .int .u32 (vl gb), .string G] by rw [hw12]; exact (vw11f.out.alloc _))
    have vw12Part := Lib.hid (show Var w12 (w7.heap.size) 39 [.int .u32 0, .int .u32 0, .string ⟨#[]⟩] by rw [hw12]; exact (vw11Part.out.alloc _))
    have vw12Seal := Lib.hid (show Var w12 (w9.heap.size) 43 [.int .u32 0, .int .u32 0, .int .u32 0, .int .u32 0, .int .u32 0, .int .u32 0] by rw [hw12]; exact (vw11Seal.out.alloc _))
    have vw12Floor := Lib.hid (show Var w12 (w11.heap.size) 47 [.int .u32 (vl ga), .int .u32 (vl gb), .int .u32 (vl v0)] by rw [hw12]; exact (Var.new w11 47 [.int .u32 (vl ga), .int .u32 (vl gb), .int .u32 (vl v0)]))
    rw [← hw12]
    clear c21 c22 c23 c24 c26 c27 c28 c30 c31 c32 c33 c34 c35 c37 c38 c39 hw12
    have vf40 := (show Var w12 (w.heap.size) 24 [.int .i64 4, .int .u32 (vl ga), .int .u32 (vl gb), .string G] from vw12f.out)
    have c41 := vf40.cell (j := 0) rfl
    have c42 := vf40.cell (j := 1) rfl
    have c43 := vf40.cell (j := 2) rfl
    have c44 := vf40.cell (j := 3) rfl
    clear vf40
    have vf45 := (show Var w12 (w11.heap.size) 47 [.int .u32 (vl ga), .int .u32 (vl gb), .int .u32 (vl v0)] from vw12Floor.out)
    have c46 := vf45.cell (j := 0) rfl
    have c47 := vf45.cell (j := 1) rfl
    have c48 := vf45.cell (j := 2) rfl
    clear vf45
    go_quiet (first | (go_at_call 17; with_reducible exact HG0.out _ _))
    go_wp2
    go_ret
    exact ⟨rfl, below_draw bw12.out ⟨_, rfl⟩⟩
theorem fields_any (f0 : Fr) (hs : f0.body.length ≤ maxLen) (how : Int) (w : World) : Calls Try.prog 4 #[fV f0, .int .i64 how] w fun e w' => e = .returned (.bool true) ∧ Below w.heap.size w w' := by
  have HPK : Hid (∀ w, Calls Try.prog 9 #[.int .i64 how, .int .i64 3] w fun e w' => e = .returned (.int .i64 (how % 3)) ∧ w = w') := fun w => Book.pick_any how 3 (by decide) (by decide) w
  obtain ⟨g, hg, HS⟩ := shaped_any f0 hs (how % 3) (by omega) (by omega)
  have HO := Lib.hid (fun w => of_any g hg w)
  cases hr : pieceR g with
  | false =>
    rw [ofF_not hr] at HO
    exact fields_not f0.kind how (how % 3) f0.a f0.b (bs f0.body) g.a g.b (bs g.body) g.kind HO HS HPK w
  | true =>
    rw [ofF_ok hr] at HO
    have HA := Lib.hid (fun w => asPart_any (pcOf g) w)
    have HB := Lib.hid (fun w => asSeal_any (pcOf g) w)
    have HC := Lib.hid (fun w => asFloor_any (pcOf g) w)
    obtain ⟨-, hp⟩ := pieceR_parts hr
    obtain ⟨gk, ga, gb, gd⟩ := g
    simp only at hp hg
    rcases hp with ⟨rfl, rfl⟩ | ⟨rfl, hb⟩ | ⟨rfl, hb⟩ | ⟨rfl, hb⟩
    · exact fields_Head f0.kind how (how % 3) f0.a f0.b (bs f0.body) ga gb (bs []) (headV ga gb) HO HS HPK HA HB HC w
    · exact fields_Part f0.kind how (how % 3) f0.a f0.b (bs f0.body) ga gb (bs gd) (partV ga gb gd) HO HS HPK HA HB HC w
    · exact fields_Seal f0.kind how (how % 3) f0.a f0.b (bs f0.body) ga gb (bs gd) (sealV ga gb (wd (le4 gd 0)) (wd (le4 gd 4)) (wd (le4 gd 8)) (wd (le4 gd 12))) _ _ _ _ HO HS HPK HA HB HC (fun w k => by rw [wd_le4]; exact quietGet gd hg 0 (by omega) w k) (fun w k => by rw [wd_le4]; exact quietGet gd hg 4 (by omega) w k) (fun w k => by rw [wd_le4]; exact quietGet gd hg 8 (by omega) w k) (fun w k => by rw [wd_le4]; exact quietGet gd hg 12 (by omega) w k) w
    · exact fields_Floor f0.kind how (how % 3) f0.a f0.b (bs f0.body) ga gb (bs gd) (floorV ga gb (wd (le4 gd 0))) _ HO HS HPK HA HB HC (fun w k => by rw [wd_le4]; exact quietGet gd hg 0 (by omega) w k) w
end Go.Proofs.Ytdbfclngllhdlaa.Piece
