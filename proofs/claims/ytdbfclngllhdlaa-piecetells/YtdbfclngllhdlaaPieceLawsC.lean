/-
  The walks of the laws of chapter 9: PieceTells.
-/
import Derived.Test.YtdbfclngllhdlaaPieceLawsB
import Derived.Test.YtdbfclngllhdlaaGeomB
set_option linter.unusedVariables false
set_option linter.unusedSimpArgs false
namespace Go.Proofs.Ytdbfclngllhdlaa.Piece
open Go.RowKit
open CrcM (W)
open Crc (le4 sumOf vl wd putS)
open Flash (bs bs_size bs_list list_bs)
open Go.Proofs.Ytdbfclngllhdlaa.Frame (Fr zeroF fV bel2 below_drewN)
open Tup Bytes Own
open Go.Proofs.Ytdbfclngllhdlaa.Region (fill Then Deps Each wp_region_is wp_region_is_tail wp_region_each wp_region_tail)
set_option maxRecDepth 100000 in
set_option maxHeartbeats 8000000 in
theorem tells_plain_not (gk : Int) (ga gb : W) (G : ByteArray)
    (how : Int)
    (HO : Hid (∀ w, Calls Try.prog 10 #[.agg #[.int .i64 gk, .int .u32 (vl ga), .int .u32 (vl gb), .string G]] w fun e w' => e = .returned (.tuple #[.nilIface, .int .i64 2]) ∧ Below w.heap.size w w'))
    (HP : Hid (∀ w, Calls Try.prog 12 #[.agg #[.int .i64 gk, .int .u32 (vl ga), .int .u32 (vl gb), .string G]] w fun e w' => e = .returned (.bool false) ∧ Below w.heap.size w w')) (w : World) :
    Calls Try.prog 3 #[.agg #[.int .i64 gk, .int .u32 (vl ga), .int .u32 (vl gb), .string G], .int .i64 how, .bool false] w fun e w' => e = .returned (.bool true) ∧ Below w.heap.size w w' := by
  have HAL := Lib.hid (fun w => alive_any w)
  go_enter Try.func3, Try.ntmps3
  go_wp2_with (first
    | (go_at_call 10; ((with_reducible refine (HO.out _).mono ?_); rintro e w2 ⟨rfl, bz⟩; obtain ⟨w1, hw1⟩ : ∃ wx, wx = (w.alloc (.cells #[.int .i64 gk, .int .u32 (vl ga), .int .u32 (vl gb), .string G] 24)) := ⟨_, rfl⟩; have bw1 := Lib.hid (show Below w.heap.size w w1 by rw [hw1]; exact (Geom.bel_alloc _ _)); have zw1 := Lib.hid (show w.heap.size + 1 ≤ w1.heap.size by rw [hw1]; simp); have vw1f := Lib.hid (show Var w1 (w.heap.size) 24 [.int .i64 gk, .int .u32 (vl ga), .int .u32 (vl gb), .string G] by rw [hw1]; exact (Var.new w 24 [.int .i64 gk, .int .u32 (vl ga), .int .u32 (vl gb), .string G])); have hbel : Below w1.heap.size w1 w2 := (by rw [hw1]; exact bz); clear bz; have bw2 := Lib.hid (bel2 bw1.out hbel); have zw2 := Lib.hid hbel.size; have vw2f := Lib.hid (vw1f.out.below hbel vw1f.out.lt); clear hbel))
    | (go_at_call 11; ((with_reducible refine (HAL.out _).mono ?_); rintro e w3 ⟨rfl, bz⟩; have hbel : Below w2.heap.size w2 w3 := (by exact bz); clear bz; have bw3 := Lib.hid (bel2 bw2.out hbel); have zw3 := Lib.hid hbel.size; have vw3f := Lib.hid (vw2f.out.below hbel vw2f.out.lt); clear hbel; have vf1 := (show Var w3 (w.heap.size) 24 [.int .i64 gk, .int .u32 (vl ga), .int .u32 (vl gb), .string G] from vw3f.out); have c2 := vf1.cell (j := 0) rfl; have c3 := vf1.cell (j := 1) rfl; have c4 := vf1.cell (j := 2) rfl; have c5 := vf1.cell (j := 3) rfl; clear vf1))
    | (go_at_call 12; ((with_reducible refine (HP.out _).mono ?_); rintro e w4 ⟨rfl, bz⟩; have hbel : Below w3.heap.size w3 w4 := (by exact bz); clear bz; have bw4 := Lib.hid (bel2 bw3.out hbel); have zw4 := Lib.hid hbel.size; have vw4f := Lib.hid (vw3f.out.below hbel vw3f.out.lt); clear hbel; clear c2 c3 c4 c5; have vf6 := (show Var w4 (w.heap.size) 24 [.int .i64 gk, .int .u32 (vl ga), .int .u32 (vl gb), .string G] from vw4f.out); have c7 := vf6.cell (j := 0) rfl; have c8 := vf6.cell (j := 1) rfl; have c9 := vf6.cell (j := 2) rfl; have c10 := vf6.cell (j := 3) rfl; clear vf6)))
  go_ret
  exact ⟨rfl, bw4.out⟩
set_option maxRecDepth 100000 in
set_option maxHeartbeats 8000000 in
theorem tells_plain_Head (gk : Int) (ga gb : W) (G : ByteArray)
    (how : Int)
    (V : Value)
    (HO : Hid (∀ w, Calls Try.prog 10 #[.agg #[.int .i64 gk, .int .u32 (vl ga), .int .u32 (vl gb), .string G]] w fun e w' => e = .returned (.tuple #[(.iface 55 V), .int .i64 0]) ∧ Below w.heap.size w w'))
    (HP : Hid (∀ w, Calls Try.prog 12 #[.agg #[.int .i64 gk, .int .u32 (vl ga), .int .u32 (vl gb), .string G]] w fun e w' => e = .returned (.bool true) ∧ Below w.heap.size w w'))
    (HK : Hid (∀ w, Calls Try.prog 20 #[V] w fun e w' => e = .returned (.int .i64 gk) ∧ Below w.heap.size w w'))
    (HF : Hid (∀ w, Calls Try.prog 13 #[(.iface 55 V)] w fun e w' => e = .returned (.tuple #[.agg #[.int .i64 gk, .int .u32 (vl ga), .int .u32 (vl gb), .string G], .int .i64 0]) ∧ Below w.heap.size w w')) (w : World) :
    Calls Try.prog 3 #[.agg #[.int .i64 gk, .int .u32 (vl ga), .int .u32 (vl gb), .string G], .int .i64 how, .bool false] w fun e w' => e = .returned (.bool true) ∧ Below w.heap.size w w' := by
  have HAL := Lib.hid (fun w => alive_any w)
  go_enter Try.func3, Try.ntmps3
  go_wp2_with (first
    | (go_at_call 10; ((with_reducible refine (HO.out _).mono ?_); rintro e w2 ⟨rfl, bz⟩; obtain ⟨w1, hw1⟩ : ∃ wx, wx = (w.alloc (.cells #[.int .i64 gk, .int .u32 (vl ga), .int .u32 (vl gb), .string G] 24)) := ⟨_, rfl⟩; have bw1 := Lib.hid (show Below w.heap.size w w1 by rw [hw1]; exact (Geom.bel_alloc _ _)); have zw1 := Lib.hid (show w.heap.size + 1 ≤ w1.heap.size by rw [hw1]; simp); have vw1f := Lib.hid (show Var w1 (w.heap.size) 24 [.int .i64 gk, .int .u32 (vl ga), .int .u32 (vl gb), .string G] by rw [hw1]; exact (Var.new w 24 [.int .i64 gk, .int .u32 (vl ga), .int .u32 (vl gb), .string G])); have hbel : Below w1.heap.size w1 w2 := (by rw [hw1]; exact bz); clear bz; have bw2 := Lib.hid (bel2 bw1.out hbel); have zw2 := Lib.hid hbel.size; have vw2f := Lib.hid (vw1f.out.below hbel vw1f.out.lt); clear hbel))
    | (go_at_call 11; ((with_reducible refine (HAL.out _).mono ?_); rintro e w3 ⟨rfl, bz⟩; have hbel : Below w2.heap.size w2 w3 := (by exact bz); clear bz; have bw3 := Lib.hid (bel2 bw2.out hbel); have zw3 := Lib.hid hbel.size; have vw3f := Lib.hid (vw2f.out.below hbel vw2f.out.lt); clear hbel; have vf1 := (show Var w3 (w.heap.size) 24 [.int .i64 gk, .int .u32 (vl ga), .int .u32 (vl gb), .string G] from vw3f.out); have c2 := vf1.cell (j := 0) rfl; have c3 := vf1.cell (j := 1) rfl; have c4 := vf1.cell (j := 2) rfl; have c5 := vf1.cell (j := 3) rfl; clear vf1))
    | (go_at_call 12; ((with_reducible refine (HP.out _).mono ?_); rintro e w4 ⟨rfl, bz⟩; have hbel : Below w3.heap.size w3 w4 := (by exact bz); clear bz; have bw4 := Lib.hid (bel2 bw3.out hbel); have zw4 := Lib.hid hbel.size; have vw4f := Lib.hid (vw3f.out.below hbel vw3f.out.lt); clear hbel; clear c2 c3 c4 c5; have vf6 := (show Var w4 (w.heap.size) 24 [.int .i64 gk, .int .u32 (vl ga), .int .u32 (vl gb), .string G] from vw4f.out); have c7 := vf6.cell (j := 0) rfl; have c8 := vf6.cell (j := 1) rfl; have c9 := vf6.cell (j := 2) rfl; have c10 := vf6.cell (j := 3) rfl; clear vf6)))
  clear c7 c8 c9 c10
  refine wp_region_is [32, 33, 34, 35, 36, 37, 38, 39, 40, 41, 42, 43, 44] (fun w' => Below w4.heap.size w4 w')
    [.int .i64 0, .bool false, .bool false, (.iface 55 V), .bool false, .bool false, .bool false, (.iface 55 V), .int .i64 gk, .pointer (some ⟨w.heap.size, 0, none⟩), .int .i64 gk, .bool false, .bool false] (by kernel_rfl) (by kernel_rfl) rfl (by decide) (by simp) (Below.refl _ _).drew ?each ?done
  case each =>
    simp only [Each]
    repeat' (first | exact trivial | refine And.intro ?_ ?_)
    all_goals
      intro ys wx hBx hdeps
      simp only [Deps, Region.binds, List.getD_cons_zero, List.getD_cons_succ, forall_const, and_true] at hdeps
      have q11 := (vw4f.out.below hBx vw4f.out.lt).cell (j := 0) rfl
      simp only [hdeps, fill, List.foldl_cons, List.foldl_nil, Act.put, List.setIfInBounds_toArray, List.set_cons_succ, List.set_cons_zero]
      first
        | (go_wp2_with fail; exact ⟨_, rfl, rfl, hBx, Below.refl _ _⟩)
        | (go_wp2_with (go_at_call 20; (with_reducible refine (HK.out _).mono ?_); rintro e w3 ⟨rfl, hm⟩); exact ⟨_, rfl, rfl, hBx.trans (hm.mono hBx.size), hm⟩)
  case done =>
    intro ys wx hBx hV
    obtain ⟨w5, hw5⟩ : ∃ wy, wy = wx := ⟨_, rfl⟩
    rw [← hw5] at hBx ⊢
    have bw5 := Lib.hid (bel2 bw4.out hBx)
    have zw5 := Lib.hid hBx.size
    have vw5f := Lib.hid (vw4f.out.below hBx vw4f.out.lt)
    have h44 : ys 44 = .bool false := hV 12 (by decide)
    clear hBx hV hw5
    simp only [h44, fill, List.drop_succ_cons, List.drop_zero, List.foldl_cons, List.foldl_nil, Act.put, List.setIfInBounds_toArray, List.set_cons_succ, List.set_cons_zero]
    go_wp2_with (first
    | (go_at_call 13; ((with_reducible refine (HF.out _).mono ?_); rintro e w6 ⟨rfl, bz⟩; have hbel : Below w5.heap.size w5 w6 := (by exact bz); clear bz; have bw6 := Lib.hid (bel2 bw5.out hbel); have zw6 := Lib.hid hbel.size; have vw6f := Lib.hid (vw5f.out.below hbel vw5f.out.lt); clear hbel; have vf12 := (show Var (w6.alloc (.cells #[.int .i64 gk, .int .u32 (vl ga), .int .u32 (vl gb), .string G] 24)) (w.heap.size) 24 [.int .i64 gk, .int .u32 (vl ga), .int .u32 (vl gb), .string G] from (vw6f.out.alloc _)); have c13 := vf12.cell (j := 0) rfl; have c14 := vf12.cell (j := 1) rfl; have c15 := vf12.cell (j := 2) rfl; have c16 := vf12.cell (j := 3) rfl; clear vf12)))
    go_ret
    exact ⟨rfl, (bel2 bw6.out (Geom.bel_alloc _ _))⟩
set_option maxRecDepth 100000 in
set_option maxHeartbeats 8000000 in
theorem tells_plain_Part (gk : Int) (ga gb : W) (G : ByteArray)
    (how : Int)
    (V : Value)
    (HO : Hid (∀ w, Calls Try.prog 10 #[.agg #[.int .i64 gk, .int .u32 (vl ga), .int .u32 (vl gb), .string G]] w fun e w' => e = .returned (.tuple #[(.iface 39 V), .int .i64 0]) ∧ Below w.heap.size w w'))
    (HP : Hid (∀ w, Calls Try.prog 12 #[.agg #[.int .i64 gk, .int .u32 (vl ga), .int .u32 (vl gb), .string G]] w fun e w' => e = .returned (.bool true) ∧ Below w.heap.size w w'))
    (HK : Hid (∀ w, Calls Try.prog 21 #[V] w fun e w' => e = .returned (.int .i64 gk) ∧ Below w.heap.size w w'))
    (HF : Hid (∀ w, Calls Try.prog 13 #[(.iface 39 V)] w fun e w' => e = .returned (.tuple #[.agg #[.int .i64 gk, .int .u32 (vl ga), .int .u32 (vl gb), .string G], .int .i64 0]) ∧ Below w.heap.size w w')) (w : World) :
    Calls Try.prog 3 #[.agg #[.int .i64 gk, .int .u32 (vl ga), .int .u32 (vl gb), .string G], .int .i64 how, .bool false] w fun e w' => e = .returned (.bool true) ∧ Below w.heap.size w w' := by
  have HAL := Lib.hid (fun w => alive_any w)
  go_enter Try.func3, Try.ntmps3
  go_wp2_with (first
    | (go_at_call 10; ((with_reducible refine (HO.out _).mono ?_); rintro e w2 ⟨rfl, bz⟩; obtain ⟨w1, hw1⟩ : ∃ wx, wx = (w.alloc (.cells #[.int .i64 gk, .int .u32 (vl ga), .int .u32 (vl gb), .string G] 24)) := ⟨_, rfl⟩; have bw1 := Lib.hid (show Below w.heap.size w w1 by rw [hw1]; exact (Geom.bel_alloc _ _)); have zw1 := Lib.hid (show w.heap.size + 1 ≤ w1.heap.size by rw [hw1]; simp); have vw1f := Lib.hid (show Var w1 (w.heap.size) 24 [.int .i64 gk, .int .u32 (vl ga), .int .u32 (vl gb), .string G] by rw [hw1]; exact (Var.new w 24 [.int .i64 gk, .int .u32 (vl ga), .int .u32 (vl gb), .string G])); have hbel : Below w1.heap.size w1 w2 := (by rw [hw1]; exact bz); clear bz; have bw2 := Lib.hid (bel2 bw1.out hbel); have zw2 := Lib.hid hbel.size; have vw2f := Lib.hid (vw1f.out.below hbel vw1f.out.lt); clear hbel))
    | (go_at_call 11; ((with_reducible refine (HAL.out _).mono ?_); rintro e w3 ⟨rfl, bz⟩; have hbel : Below w2.heap.size w2 w3 := (by exact bz); clear bz; have bw3 := Lib.hid (bel2 bw2.out hbel); have zw3 := Lib.hid hbel.size; have vw3f := Lib.hid (vw2f.out.below hbel vw2f.out.lt); clear hbel; have vf1 := (show Var w3 (w.heap.size) 24 [.int .i64 gk, .int .u32 (vl ga), .int .u32 (vl gb), .string G] from vw3f.out); have c2 := vf1.cell (j := 0) rfl; have c3 := vf1.cell (j := 1) rfl; have c4 := vf1.cell (j := 2) rfl; have c5 := vf1.cell (j := 3) rfl; clear vf1))
    | (go_at_call 12; ((with_reducible refine (HP.out _).mono ?_); rintro e w4 ⟨rfl, bz⟩; have hbel : Below w3.heap.size w3 w4 := (by exact bz); clear bz; have bw4 := Lib.hid (bel2 bw3.out hbel); have zw4 := Lib.hid hbel.size; have vw4f := Lib.hid (vw3f.out.below hbel vw3f.out.lt); clear hbel; clear c2 c3 c4 c5; have vf6 := (show Var w4 (w.heap.size) 24 [.int .i64 gk, .int .u32 (vl ga), .int .u32 (vl gb), .string G] from vw4f.out); have c7 := vf6.cell (j := 0) rfl; have c8 := vf6.cell (j := 1) rfl; have c9 := vf6.cell (j := 2) rfl; have c10 := vf6.cell (j := 3) rfl; clear vf6)))
  clear c7 c8 c9 c10
  refine wp_region_is [32, 33, 34, 35, 36, 37, 38, 39, 40, 41, 42, 43, 44] (fun w' => Below w4.heap.size w4 w')
    [.int .i64 0, .bool false, .bool false, (.iface 39 V), .bool false, .bool false, .bool false, (.iface 39 V), .int .i64 gk, .pointer (some ⟨w.heap.size, 0, none⟩), .int .i64 gk, .bool false, .bool false] (by kernel_rfl) (by kernel_rfl) rfl (by decide) (by simp) (Below.refl _ _).drew ?each ?done
  case each =>
    simp only [Each]
    repeat' (first | exact trivial | refine And.intro ?_ ?_)
    all_goals
      intro ys wx hBx hdeps
      simp only [Deps, Region.binds, List.getD_cons_zero, List.getD_cons_succ, forall_const, and_true] at hdeps
      have q11 := (vw4f.out.below hBx vw4f.out.lt).cell (j := 0) rfl
      simp only [hdeps, fill, List.foldl_cons, List.foldl_nil, Act.put, List.setIfInBounds_toArray, List.set_cons_succ, List.set_cons_zero]
      first
        | (go_wp2_with fail; exact ⟨_, rfl, rfl, hBx, Below.refl _ _⟩)
        | (go_wp2_with (go_at_call 21; (with_reducible refine (HK.out _).mono ?_); rintro e w3 ⟨rfl, hm⟩); exact ⟨_, rfl, rfl, hBx.trans (hm.mono hBx.size), hm⟩)
  case done =>
    intro ys wx hBx hV
    obtain ⟨w5, hw5⟩ : ∃ wy, wy = wx := ⟨_, rfl⟩
    rw [← hw5] at hBx ⊢
    have bw5 := Lib.hid (bel2 bw4.out hBx)
    have zw5 := Lib.hid hBx.size
    have vw5f := Lib.hid (vw4f.out.below hBx vw4f.out.lt)
    have h44 : ys 44 = .bool false := hV 12 (by decide)
    clear hBx hV hw5
    simp only [h44, fill, List.drop_succ_cons, List.drop_zero, List.foldl_cons, List.foldl_nil, Act.put, List.setIfInBounds_toArray, List.set_cons_succ, List.set_cons_zero]
    go_wp2_with (first
    | (go_at_call 13; ((with_reducible refine (HF.out _).mono ?_); rintro e w6 ⟨rfl, bz⟩; have hbel : Below w5.heap.size w5 w6 := (by exact bz); clear bz; have bw6 := Lib.hid (bel2 bw5.out hbel); have zw6 := Lib.hid hbel.size; have vw6f := Lib.hid (vw5f.out.below hbel vw5f.out.lt); clear hbel; have vf12 := (show Var (w6.alloc (.cells #[.int .i64 gk, .int .u32 (vl ga), .int .u32 (vl gb), .string G] 24)) (w.heap.size) 24 [.int .i64 gk, .int .u32 (vl ga), .int .u32 (vl gb), .string G] from (vw6f.out.alloc _)); have c13 := vf12.cell (j := 0) rfl; have c14 := vf12.cell (j := 1) rfl; have c15 := vf12.cell (j := 2) rfl; have c16 := vf12.cell (j := 3) rfl; clear vf12)))
    go_ret
    exact ⟨rfl, (bel2 bw6.out (Geom.bel_alloc _ _))⟩
set_option maxRecDepth 100000 in
set_option maxHeartbeats 8000000 in
theorem tells_plain_Seal (gk : Int) (ga gb : W) (G : ByteArray)
    (how : Int)
    (V : Value)
    (HO : Hid (∀ w, Calls Try.prog 10 #[.agg #[.int .i64 gk, .int .u32 (vl ga), .int .u32 (vl gb), .string G]] w fun e w' => e = .returned (.tuple #[(.iface 43 V), .int .i64 0]) ∧ Below w.heap.size w w'))
    (HP : Hid (∀ w, Calls Try.prog 12 #[.agg #[.int .i64 gk, .int .u32 (vl ga), .int .u32 (vl gb), .string G]] w fun e w' => e = .returned (.bool true) ∧ Below w.heap.size w w'))
    (HK : Hid (∀ w, Calls Try.prog 22 #[V] w fun e w' => e = .returned (.int .i64 gk) ∧ Below w.heap.size w w'))
    (HF : Hid (∀ w, Calls Try.prog 13 #[(.iface 43 V)] w fun e w' => e = .returned (.tuple #[.agg #[.int .i64 gk, .int .u32 (vl ga), .int .u32 (vl gb), .string G], .int .i64 0]) ∧ Below w.heap.size w w')) (w : World) :
    Calls Try.prog 3 #[.agg #[.int .i64 gk, .int .u32 (vl ga), .int .u32 (vl gb), .string G], .int .i64 how, .bool false] w fun e w' => e = .returned (.bool true) ∧ Below w.heap.size w w' := by
  have HAL := Lib.hid (fun w => alive_any w)
  go_enter Try.func3, Try.ntmps3
  go_wp2_with (first
    | (go_at_call 10; ((with_reducible refine (HO.out _).mono ?_); rintro e w2 ⟨rfl, bz⟩; obtain ⟨w1, hw1⟩ : ∃ wx, wx = (w.alloc (.cells #[.int .i64 gk, .int .u32 (vl ga), .int .u32 (vl gb), .string G] 24)) := ⟨_, rfl⟩; have bw1 := Lib.hid (show Below w.heap.size w w1 by rw [hw1]; exact (Geom.bel_alloc _ _)); have zw1 := Lib.hid (show w.heap.size + 1 ≤ w1.heap.size by rw [hw1]; simp); have vw1f := Lib.hid (show Var w1 (w.heap.size) 24 [.int .i64 gk, .int .u32 (vl ga), .int .u32 (vl gb), .string G] by rw [hw1]; exact (Var.new w 24 [.int .i64 gk, .int .u32 (vl ga), .int .u32 (vl gb), .string G])); have hbel : Below w1.heap.size w1 w2 := (by rw [hw1]; exact bz); clear bz; have bw2 := Lib.hid (bel2 bw1.out hbel); have zw2 := Lib.hid hbel.size; have vw2f := Lib.hid (vw1f.out.below hbel vw1f.out.lt); clear hbel))
    | (go_at_call 11; ((with_reducible refine (HAL.out _).mono ?_); rintro e w3 ⟨rfl, bz⟩; have hbel : Below w2.heap.size w2 w3 := (by exact bz); clear bz; have bw3 := Lib.hid (bel2 bw2.out hbel); have zw3 := Lib.hid hbel.size; have vw3f := Lib.hid (vw2f.out.below hbel vw2f.out.lt); clear hbel; have vf1 := (show Var w3 (w.heap.size) 24 [.int .i64 gk, .int .u32 (vl ga), .int .u32 (vl gb), .string G] from vw3f.out); have c2 := vf1.cell (j := 0) rfl; have c3 := vf1.cell (j := 1) rfl; have c4 := vf1.cell (j := 2) rfl; have c5 := vf1.cell (j := 3) rfl; clear vf1))
    | (go_at_call 12; ((with_reducible refine (HP.out _).mono ?_); rintro e w4 ⟨rfl, bz⟩; have hbel : Below w3.heap.size w3 w4 := (by exact bz); clear bz; have bw4 := Lib.hid (bel2 bw3.out hbel); have zw4 := Lib.hid hbel.size; have vw4f := Lib.hid (vw3f.out.below hbel vw3f.out.lt); clear hbel; clear c2 c3 c4 c5; have vf6 := (show Var w4 (w.heap.size) 24 [.int .i64 gk, .int .u32 (vl ga), .int .u32 (vl gb), .string G] from vw4f.out); have c7 := vf6.cell (j := 0) rfl; have c8 := vf6.cell (j := 1) rfl; have c9 := vf6.cell (j := 2) rfl; have c10 := vf6.cell (j := 3) rfl; clear vf6)))
  clear c7 c8 c9 c10
  refine wp_region_is [32, 33, 34, 35, 36, 37, 38, 39, 40, 41, 42, 43, 44] (fun w' => Below w4.heap.size w4 w')
    [.int .i64 0, .bool false, .bool false, (.iface 43 V), .bool false, .bool false, .bool false, (.iface 43 V), .int .i64 gk, .pointer (some ⟨w.heap.size, 0, none⟩), .int .i64 gk, .bool false, .bool false] (by kernel_rfl) (by kernel_rfl) rfl (by decide) (by simp) (Below.refl _ _).drew ?each ?done
  case each =>
    simp only [Each]
    repeat' (first | exact trivial | refine And.intro ?_ ?_)
    all_goals
      intro ys wx hBx hdeps
      simp only [Deps, Region.binds, List.getD_cons_zero, List.getD_cons_succ, forall_const, and_true] at hdeps
      have q11 := (vw4f.out.below hBx vw4f.out.lt).cell (j := 0) rfl
      simp only [hdeps, fill, List.foldl_cons, List.foldl_nil, Act.put, List.setIfInBounds_toArray, List.set_cons_succ, List.set_cons_zero]
      first
        | (go_wp2_with fail; exact ⟨_, rfl, rfl, hBx, Below.refl _ _⟩)
        | (go_wp2_with (go_at_call 22; (with_reducible refine (HK.out _).mono ?_); rintro e w3 ⟨rfl, hm⟩); exact ⟨_, rfl, rfl, hBx.trans (hm.mono hBx.size), hm⟩)
  case done =>
    intro ys wx hBx hV
    obtain ⟨w5, hw5⟩ : ∃ wy, wy = wx := ⟨_, rfl⟩
    rw [← hw5] at hBx ⊢
    have bw5 := Lib.hid (bel2 bw4.out hBx)
    have zw5 := Lib.hid hBx.size
    have vw5f := Lib.hid (vw4f.out.below hBx vw4f.out.lt)
    have h44 : ys 44 = .bool false := hV 12 (by decide)
    clear hBx hV hw5
    simp only [h44, fill, List.drop_succ_cons, List.drop_zero, List.foldl_cons, List.foldl_nil, Act.put, List.setIfInBounds_toArray, List.set_cons_succ, List.set_cons_zero]
    go_wp2_with (first
    | (go_at_call 13; ((with_reducible refine (HF.out _).mono ?_); rintro e w6 ⟨rfl, bz⟩; have hbel : Below w5.heap.size w5 w6 := (by exact bz); clear bz; have bw6 := Lib.hid (bel2 bw5.out hbel); have zw6 := Lib.hid hbel.size; have vw6f := Lib.hid (vw5f.out.below hbel vw5f.out.lt); clear hbel; have vf12 := (show Var (w6.alloc (.cells #[.int .i64 gk, .int .u32 (vl ga), .int .u32 (vl gb), .string G] 24)) (w.heap.size) 24 [.int .i64 gk, .int .u32 (vl ga), .int .u32 (vl gb), .string G] from (vw6f.out.alloc _)); have c13 := vf12.cell (j := 0) rfl; have c14 := vf12.cell (j := 1) rfl; have c15 := vf12.cell (j := 2) rfl; have c16 := vf12.cell (j := 3) rfl; clear vf12)))
    go_ret
    exact ⟨rfl, (bel2 bw6.out (Geom.bel_alloc _ _))⟩
set_option maxRecDepth 100000 in
set_option maxHeartbeats 8000000 in
theorem tells_plain_Floor (gk : Int) (ga gb : W) (G : ByteArray)
    (how : Int)
    (V : Value)
    (HO : Hid (∀ w, Calls Try.prog 10 #[.agg #[.int .i64 gk, .int .u32 (vl ga), .int .u32 (vl gb), .string G]] w fun e w' => e = .returned (.tuple #[(.iface 47 V), .int .i64 0]) ∧ Below w.heap.size w w'))
    (HP : Hid (∀ w, Calls Try.prog 12 #[.agg #[.int .i64 gk, .int .u32 (vl ga), .int .u32 (vl gb), .string G]] w fun e w' => e = .returned (.bool true) ∧ Below w.heap.size w w'))
    (HK : Hid (∀ w, Calls Try.prog 23 #[V] w fun e w' => e = .returned (.int .i64 gk) ∧ Below w.heap.size w w'))
    (HF : Hid (∀ w, Calls Try.prog 13 #[(.iface 47 V)] w fun e w' => e = .returned (.tuple #[.agg #[.int .i64 gk, .int .u32 (vl ga), .int .u32 (vl gb), .string G], .int .i64 0]) ∧ Below w.heap.size w w')) (w : World) :
    Calls Try.prog 3 #[.agg #[.int .i64 gk, .int .u32 (vl ga), .int .u32 (vl gb), .string G], .int .i64 how, .bool false] w fun e w' => e = .returned (.bool true) ∧ Below w.heap.size w w' := by
  have HAL := Lib.hid (fun w => alive_any w)
  go_enter Try.func3, Try.ntmps3
  go_wp2_with (first
    | (go_at_call 10; ((with_reducible refine (HO.out _).mono ?_); rintro e w2 ⟨rfl, bz⟩; obtain ⟨w1, hw1⟩ : ∃ wx, wx = (w.alloc (.cells #[.int .i64 gk, .int .u32 (vl ga), .int .u32 (vl gb), .string G] 24)) := ⟨_, rfl⟩; have bw1 := Lib.hid (show Below w.heap.size w w1 by rw [hw1]; exact (Geom.bel_alloc _ _)); have zw1 := Lib.hid (show w.heap.size + 1 ≤ w1.heap.size by rw [hw1]; simp); have vw1f := Lib.hid (show Var w1 (w.heap.size) 24 [.int .i64 gk, .int .u32 (vl ga), .int .u32 (vl gb), .string G] by rw [hw1]; exact (Var.new w 24 [.int .i64 gk, .int .u32 (vl ga), .int .u32 (vl gb), .string G])); have hbel : Below w1.heap.size w1 w2 := (by rw [hw1]; exact bz); clear bz; have bw2 := Lib.hid (bel2 bw1.out hbel); have zw2 := Lib.hid hbel.size; have vw2f := Lib.hid (vw1f.out.below hbel vw1f.out.lt); clear hbel))
    | (go_at_call 11; ((with_reducible refine (HAL.out _).mono ?_); rintro e w3 ⟨rfl, bz⟩; have hbel : Below w2.heap.size w2 w3 := (by exact bz); clear bz; have bw3 := Lib.hid (bel2 bw2.out hbel); have zw3 := Lib.hid hbel.size; have vw3f := Lib.hid (vw2f.out.below hbel vw2f.out.lt); clear hbel; have vf1 := (show Var w3 (w.heap.size) 24 [.int .i64 gk, .int .u32 (vl ga), .int .u32 (vl gb), .string G] from vw3f.out); have c2 := vf1.cell (j := 0) rfl; have c3 := vf1.cell (j := 1) rfl; have c4 := vf1.cell (j := 2) rfl; have c5 := vf1.cell (j := 3) rfl; clear vf1))
    | (go_at_call 12; ((with_reducible refine (HP.out _).mono ?_); rintro e w4 ⟨rfl, bz⟩; have hbel : Below w3.heap.size w3 w4 := (by exact bz); clear bz; have bw4 := Lib.hid (bel2 bw3.out hbel); have zw4 := Lib.hid hbel.size; have vw4f := Lib.hid (vw3f.out.below hbel vw3f.out.lt); clear hbel; clear c2 c3 c4 c5; have vf6 := (show Var w4 (w.heap.size) 24 [.int .i64 gk, .int .u32 (vl ga), .int .u32 (vl gb), .string G] from vw4f.out); have c7 := vf6.cell (j := 0) rfl; have c8 := vf6.cell (j := 1) rfl; have c9 := vf6.cell (j := 2) rfl; have c10 := vf6.cell (j := 3) rfl; clear vf6)))
  clear c7 c8 c9 c10
  refine wp_region_is [32, 33, 34, 35, 36, 37, 38, 39, 40, 41, 42, 43, 44] (fun w' => Below w4.heap.size w4 w')
    [.int .i64 0, .bool false, .bool false, (.iface 47 V), .bool false, .bool false, .bool false, (.iface 47 V), .int .i64 gk, .pointer (some ⟨w.heap.size, 0, none⟩), .int .i64 gk, .bool false, .bool false] (by kernel_rfl) (by kernel_rfl) rfl (by decide) (by simp) (Below.refl _ _).drew ?each ?done
  case each =>
    simp only [Each]
    repeat' (first | exact trivial | refine And.intro ?_ ?_)
    all_goals
      intro ys wx hBx hdeps
      simp only [Deps, Region.binds, List.getD_cons_zero, List.getD_cons_succ, forall_const, and_true] at hdeps
      have q11 := (vw4f.out.below hBx vw4f.out.lt).cell (j := 0) rfl
      simp only [hdeps, fill, List.foldl_cons, List.foldl_nil, Act.put, List.setIfInBounds_toArray, List.set_cons_succ, List.set_cons_zero]
      first
        | (go_wp2_with fail; exact ⟨_, rfl, rfl, hBx, Below.refl _ _⟩)
        | (go_wp2_with (go_at_call 23; (with_reducible refine (HK.out _).mono ?_); rintro e w3 ⟨rfl, hm⟩); exact ⟨_, rfl, rfl, hBx.trans (hm.mono hBx.size), hm⟩)
  case done =>
    intro ys wx hBx hV
    obtain ⟨w5, hw5⟩ : ∃ wy, wy = wx := ⟨_, rfl⟩
    rw [← hw5] at hBx ⊢
    have bw5 := Lib.hid (bel2 bw4.out hBx)
    have zw5 := Lib.hid hBx.size
    have vw5f := Lib.hid (vw4f.out.below hBx vw4f.out.lt)
    have h44 : ys 44 = .bool false := hV 12 (by decide)
    clear hBx hV hw5
    simp only [h44, fill, List.drop_succ_cons, List.drop_zero, List.foldl_cons, List.foldl_nil, Act.put, List.setIfInBounds_toArray, List.set_cons_succ, List.set_cons_zero]
    go_wp2_with (first
    | (go_at_call 13; ((with_reducible refine (HF.out _).mono ?_); rintro e w6 ⟨rfl, bz⟩; have hbel : Below w5.heap.size w5 w6 := (by exact bz); clear bz; have bw6 := Lib.hid (bel2 bw5.out hbel); have zw6 := Lib.hid hbel.size; have vw6f := Lib.hid (vw5f.out.below hbel vw5f.out.lt); clear hbel; have vf12 := (show Var (w6.alloc (.cells #[.int .i64 gk, .int .u32 (vl ga), .int .u32 (vl gb), .string G] 24)) (w.heap.size) 24 [.int .i64 gk, .int .u32 (vl ga), .int .u32 (vl gb), .string G] from (vw6f.out.alloc _)); have c13 := vf12.cell (j := 0) rfl; have c14 := vf12.cell (j := 1) rfl; have c15 := vf12.cell (j := 2) rfl; have c16 := vf12.cell (j := 3) rfl; clear vf12)))
    go_ret
    exact ⟨rfl, (bel2 bw6.out (Geom.bel_alloc _ _))⟩
set_option maxRecDepth 100000 in
set_option maxHeartbeats 8000000 in
theorem tells_near_not (gk : Int) (ga gb : W) (G : ByteArray)
    (fk how hw : Int) (fa fb : W) (F : ByteArray)
    (HO : Hid (∀ w, Calls Try.prog 10 #[.agg #[.int .i64 gk, .int .u32 (vl ga), .int .u32 (vl gb), .string G]] w fun e w' => e = .returned (.tuple #[.nilIface, .int .i64 2]) ∧ Below w.heap.size w w'))
    (HP : Hid (∀ w, Calls Try.prog 12 #[.agg #[.int .i64 gk, .int .u32 (vl ga), .int .u32 (vl gb), .string G]] w fun e w' => e = .returned (.bool false) ∧ Below w.heap.size w w'))
    (HS : Hid (∀ w, Calls Try.prog 8 #[.agg #[.int .i64 fk, .int .u32 (vl fa), .int .u32 (vl fb), .string F], .int .i64 hw] w fun e w' => e = .returned (.agg #[.int .i64 gk, .int .u32 (vl ga), .int .u32 (vl gb), .string G]) ∧ Below w.heap.size w w'))
    (HPK : Hid (∀ w, Calls Try.prog 9 #[.int .i64 how, .int .i64 3] w fun e w' => e = .returned (.int .i64 hw) ∧ w = w')) (w : World) :
    Calls Try.prog 3 #[.agg #[.int .i64 fk, .int .u32 (vl fa), .int .u32 (vl fb), .string F], .int .i64 how, .bool true] w fun e w' => e = .returned (.bool true) ∧ Below w.heap.size w w' := by
  have HAL := Lib.hid (fun w => alive_any w)
  go_enter Try.func3, Try.ntmps3
  go_wp2
  obtain ⟨w1, hw1⟩ : ∃ wx, wx = (w.alloc (.cells #[.int .i64 fk, .int .u32 (vl fa), .int .u32 (vl fb), .string F] 24)) := ⟨_, rfl⟩
  have bw1 := Lib.hid (show Below w.heap.size w w1 by rw [hw1]; exact (Geom.bel_alloc _ _))
  have zw1 := Lib.hid (show w.heap.size + 1 ≤ w1.heap.size by rw [hw1]; simp)
  have vw1f := Lib.hid (show Var w1 (w.heap.size) 24 [.int .i64 fk, .int .u32 (vl fa), .int .u32 (vl fb), .string F] by rw [hw1]; exact (Var.new w 24 [.int .i64 fk, .int .u32 (vl fa), .int .u32 (vl fb), .string F]))
  rw [← hw1]
  refine wp_region_is_tail 3 [12, 13, 14] (fun w' => Below w1.heap.size w1 w')
    [.agg #[.int .i64 fk, .int .u32 (vl fa), .int .u32 (vl fb), .string F], .int .i64 how, .int .i64 hw] (by kernel_rfl) (by kernel_rfl) (by kernel_rfl) (by decide) rfl (by decide) (by simp) (Below.refl _ _).drew ?each ?done
  case each =>
    simp only [List.take_succ_cons, List.take_zero, Each]
    repeat' (first | exact trivial | refine And.intro ?_ ?_)
    all_goals
      intro ys wx hBx hdeps
      simp only [Deps, Region.binds, List.getD_cons_zero, List.getD_cons_succ, forall_const, and_true] at hdeps
      have q1 := (vw1f.out.below hBx vw1f.out.lt).cell (j := 0) rfl
      have q2 := (vw1f.out.below hBx vw1f.out.lt).cell (j := 1) rfl
      have q3 := (vw1f.out.below hBx vw1f.out.lt).cell (j := 2) rfl
      have q4 := (vw1f.out.below hBx vw1f.out.lt).cell (j := 3) rfl
      simp only [hdeps, fill, List.foldl_cons, List.foldl_nil, Act.put, List.setIfInBounds_toArray, List.set_cons_succ, List.set_cons_zero]
      first
        | (go_wp2_with fail; exact ⟨_, rfl, rfl, hBx, Below.refl _ _⟩)
        | (go_wp2_with (go_at_call 9; (with_reducible refine (HPK.out _).mono ?_); rintro e w3 ⟨rfl, rfl⟩); exact ⟨_, rfl, rfl, hBx, Below.refl _ _⟩)
  case done =>
    intro ys wx hBx hV
    obtain ⟨w2, hw2⟩ : ∃ wy, wy = wx := ⟨_, rfl⟩
    rw [← hw2] at hBx ⊢
    have bw2 := Lib.hid (bel2 bw1.out hBx)
    have zw2 := Lib.hid hBx.size
    have vw2f := Lib.hid (vw1f.out.below hBx vw1f.out.lt)
    have h12 : ys 12 = .agg #[.int .i64 fk, .int .u32 (vl fa), .int .u32 (vl fb), .string F] := hV 0 (by decide)
    have h14 : ys 14 = .int .i64 hw := hV 2 (by decide)
    clear hBx hV hw2
    simp only [h12, h14, fill, List.drop_succ_cons, List.drop_zero, List.foldl_cons, List.foldl_nil, Act.put, List.setIfInBounds_toArray, List.set_cons_succ, List.set_cons_zero]
    go_wp2_with (first
    | (go_at_call 8; ((with_reducible refine (HS.out _).mono ?_); rintro e w3 ⟨rfl, bz⟩; have hbel : Below w2.heap.size w2 w3 := (by exact bz); clear bz; have bw3 := Lib.hid (bel2 bw2.out hbel); have zw3 := Lib.hid hbel.size; have vw3f := Lib.hid (vw2f.out.below hbel vw2f.out.lt); clear hbel; have vf5 := (show Var w3 (w.heap.size) 24 [.int .i64 fk, .int .u32 (vl fa), .int .u32 (vl fb), .string F] from vw3f.out); have c6 := vf5.cell (j := 0) rfl; have c7 := vf5.cell (j := 1) rfl; have c8 := vf5.cell (j := 2) rfl; have c9 := vf5.cell (j := 3) rfl; clear vf5; have vf10 := (show Var w3 (w.heap.size) 24 [.int .i64 fk, .int .u32 (vl fa), .int .u32 (vl fb), .string F] from vw3f.out); have f11 := vf10.frozen 0; have f12 := vf10.frozen 1; have f13 := vf10.frozen 2; have f14 := vf10.frozen 3; clear vf10; have vf15 := (show Var ((((w3.setCell ⟨w.heap.size, 0, none⟩ (.int .i64 gk)).setCell ⟨w.heap.size, 1, none⟩ (.int .u32 (vl ga))).setCell ⟨w.heap.size, 2, none⟩ (.int .u32 (vl gb))).setCell ⟨w.heap.size, 3, none⟩ (.string G)) (w.heap.size) 24 [.int .i64 gk, .int .u32 (vl ga), .int .u32 (vl gb), .string G] from ((((vw3f.out.set 0 (.int .i64 gk)).set 1 (.int .u32 (vl ga))).set 2 (.int .u32 (vl gb))).set 3 (.string G))); have c16 := vf15.cell (j := 0) rfl; have c17 := vf15.cell (j := 1) rfl; have c18 := vf15.cell (j := 2) rfl; have c19 := vf15.cell (j := 3) rfl; clear vf15))
    | (go_at_call 10; ((with_reducible refine (HO.out _).mono ?_); rintro e w5 ⟨rfl, bz⟩; obtain ⟨w4, hw4⟩ : ∃ wx, wx = ((((w3.setCell ⟨w.heap.size, 0, none⟩ (.int .i64 gk)).setCell ⟨w.heap.size, 1, none⟩ (.int .u32 (vl ga))).setCell ⟨w.heap.size, 2, none⟩ (.int .u32 (vl gb))).setCell ⟨w.heap.size, 3, none⟩ (.string G)) := ⟨_, rfl⟩; have bw4 := Lib.hid (show Below w.heap.size w w4 by rw [hw4]; exact ((((bw3.out.setCell (p := ⟨w.heap.size, 0, none⟩) (by have := zw1.out; have := zw2.out; have := zw3.out; simp only; omega) _).setCell (p := ⟨w.heap.size, 1, none⟩) (by have := zw1.out; have := zw2.out; have := zw3.out; simp only; omega) _).setCell (p := ⟨w.heap.size, 2, none⟩) (by have := zw1.out; have := zw2.out; have := zw3.out; simp only; omega) _).setCell (p := ⟨w.heap.size, 3, none⟩) (by have := zw1.out; have := zw2.out; have := zw3.out; simp only; omega) _)); have zw4 := Lib.hid (show w3.heap.size + 0 ≤ w4.heap.size by rw [hw4]; simp); have vw4f := Lib.hid (show Var w4 (w.heap.size) 24 [.int .i64 gk, .int .u32 (vl ga), .int .u32 (vl gb), .string G] by rw [hw4]; exact ((((vw3f.out.set 0 (.int .i64 gk)).set 1 (.int .u32 (vl ga))).set 2 (.int .u32 (vl gb))).set 3 (.string G))); have hbel : Below w4.heap.size w4 w5 := (by rw [hw4]; exact bz); clear bz; have bw5 := Lib.hid (bel2 bw4.out hbel); have zw5 := Lib.hid hbel.size; have vw5f := Lib.hid (vw4f.out.below hbel vw4f.out.lt); clear hbel; clear c6 c7 c8 c9 f11 f12 f13 f14 c16 c17 c18 c19))
    | (go_at_call 11; ((with_reducible refine (HAL.out _).mono ?_); rintro e w6 ⟨rfl, bz⟩; have hbel : Below w5.heap.size w5 w6 := (by exact bz); clear bz; have bw6 := Lib.hid (bel2 bw5.out hbel); have zw6 := Lib.hid hbel.size; have vw6f := Lib.hid (vw5f.out.below hbel vw5f.out.lt); clear hbel; have vf20 := (show Var w6 (w.heap.size) 24 [.int .i64 gk, .int .u32 (vl ga), .int .u32 (vl gb), .string G] from vw6f.out); have c21 := vf20.cell (j := 0) rfl; have c22 := vf20.cell (j := 1) rfl; have c23 := vf20.cell (j := 2) rfl; have c24 := vf20.cell (j := 3) rfl; clear vf20))
    | (go_at_call 12; ((with_reducible refine (HP.out _).mono ?_); rintro e w7 ⟨rfl, bz⟩; have hbel : Below w6.heap.size w6 w7 := (by exact bz); clear bz; have bw7 := Lib.hid (bel2 bw6.out hbel); have zw7 := Lib.hid hbel.size; have vw7f := Lib.hid (vw6f.out.below hbel vw6f.out.lt); clear hbel; clear c21 c22 c23 c24; have vf25 := (show Var w7 (w.heap.size) 24 [.int .i64 gk, .int .u32 (vl ga), .int .u32 (vl gb), .string G] from vw7f.out); have c26 := vf25.cell (j := 0) rfl; have c27 := vf25.cell (j := 1) rfl; have c28 := vf25.cell (j := 2) rfl; have c29 := vf25.cell (j := 3) rfl; clear vf25)))
    go_ret
    exact ⟨rfl, bw7.out⟩
set_option maxRecDepth 100000 in
set_option maxHeartbeats 8000000 in
theorem tells_near_Head (gk : Int) (ga gb : W) (G : ByteArray)
    (fk how hw : Int) (fa fb : W) (F : ByteArray)
    (V : Value)
    (HO : Hid (∀ w, Calls Try.prog 10 #[.agg #[.int .i64 gk, .int .u32 (vl ga), .int .u32 (vl gb), .string G]] w fun e w' => e = .returned (.tuple #[(.iface 55 V), .int .i64 0]) ∧ Below w.heap.size w w'))
    (HP : Hid (∀ w, Calls Try.prog 12 #[.agg #[.int .i64 gk, .int .u32 (vl ga), .int .u32 (vl gb), .string G]] w fun e w' => e = .returned (.bool true) ∧ Below w.heap.size w w'))
    (HK : Hid (∀ w, Calls Try.prog 20 #[V] w fun e w' => e = .returned (.int .i64 gk) ∧ Below w.heap.size w w'))
    (HF : Hid (∀ w, Calls Try.prog 13 #[(.iface 55 V)] w fun e w' => e = .returned (.tuple #[.agg #[.int .i64 gk, .int .u32 (vl ga), .int .u32 (vl gb), .string G], .int .i64 0]) ∧ Below w.heap.size w w'))
    (HS : Hid (∀ w, Calls Try.prog 8 #[.agg #[.int .i64 fk, .int .u32 (vl fa), .int .u32 (vl fb), .string F], .int .i64 hw] w fun e w' => e = .returned (.agg #[.int .i64 gk, .int .u32 (vl ga), .int .u32 (vl gb), .string G]) ∧ Below w.heap.size w w'))
    (HPK : Hid (∀ w, Calls Try.prog 9 #[.int .i64 how, .int .i64 3] w fun e w' => e = .returned (.int .i64 hw) ∧ w = w')) (w : World) :
    Calls Try.prog 3 #[.agg #[.int .i64 fk, .int .u32 (vl fa), .int .u32 (vl fb), .string F], .int .i64 how, .bool true] w fun e w' => e = .returned (.bool true) ∧ Below w.heap.size w w' := by
  have HAL := Lib.hid (fun w => alive_any w)
  go_enter Try.func3, Try.ntmps3
  go_wp2
  obtain ⟨w1, hw1⟩ : ∃ wx, wx = (w.alloc (.cells #[.int .i64 fk, .int .u32 (vl fa), .int .u32 (vl fb), .string F] 24)) := ⟨_, rfl⟩
  have bw1 := Lib.hid (show Below w.heap.size w w1 by rw [hw1]; exact (Geom.bel_alloc _ _))
  have zw1 := Lib.hid (show w.heap.size + 1 ≤ w1.heap.size by rw [hw1]; simp)
  have vw1f := Lib.hid (show Var w1 (w.heap.size) 24 [.int .i64 fk, .int .u32 (vl fa), .int .u32 (vl fb), .string F] by rw [hw1]; exact (Var.new w 24 [.int .i64 fk, .int .u32 (vl fa), .int .u32 (vl fb), .string F]))
  rw [← hw1]
  refine wp_region_is_tail 3 [12, 13, 14] (fun w' => Below w1.heap.size w1 w')
    [.agg #[.int .i64 fk, .int .u32 (vl fa), .int .u32 (vl fb), .string F], .int .i64 how, .int .i64 hw] (by kernel_rfl) (by kernel_rfl) (by kernel_rfl) (by decide) rfl (by decide) (by simp) (Below.refl _ _).drew ?each ?done
  case each =>
    simp only [List.take_succ_cons, List.take_zero, Each]
    repeat' (first | exact trivial | refine And.intro ?_ ?_)
    all_goals
      intro ys wx hBx hdeps
      simp only [Deps, Region.binds, List.getD_cons_zero, List.getD_cons_succ, forall_const, and_true] at hdeps
      have q1 := (vw1f.out.below hBx vw1f.out.lt).cell (j := 0) rfl
      have q2 := (vw1f.out.below hBx vw1f.out.lt).cell (j := 1) rfl
      have q3 := (vw1f.out.below hBx vw1f.out.lt).cell (j := 2) rfl
      have q4 := (vw1f.out.below hBx vw1f.out.lt).cell (j := 3) rfl
      simp only [hdeps, fill, List.foldl_cons, List.foldl_nil, Act.put, List.setIfInBounds_toArray, List.set_cons_succ, List.set_cons_zero]
      first
        | (go_wp2_with fail; exact ⟨_, rfl, rfl, hBx, Below.refl _ _⟩)
        | (go_wp2_with (go_at_call 9; (with_reducible refine (HPK.out _).mono ?_); rintro e w3 ⟨rfl, rfl⟩); exact ⟨_, rfl, rfl, hBx, Below.refl _ _⟩)
  case done =>
    intro ys wx hBx hV
    obtain ⟨w2, hw2⟩ : ∃ wy, wy = wx := ⟨_, rfl⟩
    rw [← hw2] at hBx ⊢
    have bw2 := Lib.hid (bel2 bw1.out hBx)
    have zw2 := Lib.hid hBx.size
    have vw2f := Lib.hid (vw1f.out.below hBx vw1f.out.lt)
    have h12 : ys 12 = .agg #[.int .i64 fk, .int .u32 (vl fa), .int .u32 (vl fb), .string F] := hV 0 (by decide)
    have h14 : ys 14 = .int .i64 hw := hV 2 (by decide)
    clear hBx hV hw2
    simp only [h12, h14, fill, List.drop_succ_cons, List.drop_zero, List.foldl_cons, List.foldl_nil, Act.put, List.setIfInBounds_toArray, List.set_cons_succ, List.set_cons_zero]
    go_wp2_with (first
    | (go_at_call 8; ((with_reducible refine (HS.out _).mono ?_); rintro e w3 ⟨rfl, bz⟩; have hbel : Below w2.heap.size w2 w3 := (by exact bz); clear bz; have bw3 := Lib.hid (bel2 bw2.out hbel); have zw3 := Lib.hid hbel.size; have vw3f := Lib.hid (vw2f.out.below hbel vw2f.out.lt); clear hbel; have vf5 := (show Var w3 (w.heap.size) 24 [.int .i64 fk, .int .u32 (vl fa), .int .u32 (vl fb), .string F] from vw3f.out); have c6 := vf5.cell (j := 0) rfl; have c7 := vf5.cell (j := 1) rfl; have c8 := vf5.cell (j := 2) rfl; have c9 := vf5.cell (j := 3) rfl; clear vf5; have vf10 := (show Var w3 (w.heap.size) 24 [.int .i64 fk, .int .u32 (vl fa), .int .u32 (vl fb), .string F] from vw3f.out); have f11 := vf10.frozen 0; have f12 := vf10.frozen 1; have f13 := vf10.frozen 2; have f14 := vf10.frozen 3; clear vf10; have vf15 := (show Var ((((w3.setCell ⟨w.heap.size, 0, none⟩ (.int .i64 gk)).setCell ⟨w.heap.size, 1, none⟩ (.int .u32 (vl ga))).setCell ⟨w.heap.size, 2, none⟩ (.int .u32 (vl gb))).setCell ⟨w.heap.size, 3, none⟩ (.string G)) (w.heap.size) 24 [.int .i64 gk, .int .u32 (vl ga), .int .u32 (vl gb), .string G] from ((((vw3f.out.set 0 (.int .i64 gk)).set 1 (.int .u32 (vl ga))).set 2 (.int .u32 (vl gb))).set 3 (.string G))); have c16 := vf15.cell (j := 0) rfl; have c17 := vf15.cell (j := 1) rfl; have c18 := vf15.cell (j := 2) rfl; have c19 := vf15.cell (j := 3) rfl; clear vf15))
    | (go_at_call 10; ((with_reducible refine (HO.out _).mono ?_); rintro e w5 ⟨rfl, bz⟩; obtain ⟨w4, hw4⟩ : ∃ wx, wx = ((((w3.setCell ⟨w.heap.size, 0, none⟩ (.int .i64 gk)).setCell ⟨w.heap.size, 1, none⟩ (.int .u32 (vl ga))).setCell ⟨w.heap.size, 2, none⟩ (.int .u32 (vl gb))).setCell ⟨w.heap.size, 3, none⟩ (.string G)) := ⟨_, rfl⟩; have bw4 := Lib.hid (show Below w.heap.size w w4 by rw [hw4]; exact ((((bw3.out.setCell (p := ⟨w.heap.size, 0, none⟩) (by have := zw1.out; have := zw2.out; have := zw3.out; simp only; omega) _).setCell (p := ⟨w.heap.size, 1, none⟩) (by have := zw1.out; have := zw2.out; have := zw3.out; simp only; omega) _).setCell (p := ⟨w.heap.size, 2, none⟩) (by have := zw1.out; have := zw2.out; have := zw3.out; simp only; omega) _).setCell (p := ⟨w.heap.size, 3, none⟩) (by have := zw1.out; have := zw2.out; have := zw3.out; simp only; omega) _)); have zw4 := Lib.hid (show w3.heap.size + 0 ≤ w4.heap.size by rw [hw4]; simp); have vw4f := Lib.hid (show Var w4 (w.heap.size) 24 [.int .i64 gk, .int .u32 (vl ga), .int .u32 (vl gb), .string G] by rw [hw4]; exact ((((vw3f.out.set 0 (.int .i64 gk)).set 1 (.int .u32 (vl ga))).set 2 (.int .u32 (vl gb))).set 3 (.string G))); have hbel : Below w4.heap.size w4 w5 := (by rw [hw4]; exact bz); clear bz; have bw5 := Lib.hid (bel2 bw4.out hbel); have zw5 := Lib.hid hbel.size; have vw5f := Lib.hid (vw4f.out.below hbel vw4f.out.lt); clear hbel; clear c6 c7 c8 c9 f11 f12 f13 f14 c16 c17 c18 c19))
    | (go_at_call 11; ((with_reducible refine (HAL.out _).mono ?_); rintro e w6 ⟨rfl, bz⟩; have hbel : Below w5.heap.size w5 w6 := (by exact bz); clear bz; have bw6 := Lib.hid (bel2 bw5.out hbel); have zw6 := Lib.hid hbel.size; have vw6f := Lib.hid (vw5f.out.below hbel vw5f.out.lt); clear hbel; have vf20 := (show Var w6 (w.heap.size) 24 [.int .i64 gk, .int .u32 (vl ga), .int .u32 (vl gb), .string G] from vw6f.out); have c21 := vf20.cell (j := 0) rfl; have c22 := vf20.cell (j := 1) rfl; have c23 := vf20.cell (j := 2) rfl; have c24 := vf20.cell (j := 3) rfl; clear vf20))
    | (go_at_call 12; ((with_reducible refine (HP.out _).mono ?_); rintro e w7 ⟨rfl, bz⟩; have hbel : Below w6.heap.size w6 w7 := (by exact bz); clear bz; have bw7 := Lib.hid (bel2 bw6.out hbel); have zw7 := Lib.hid hbel.size; have vw7f := Lib.hid (vw6f.out.below hbel vw6f.out.lt); clear hbel; clear c21 c22 c23 c24; have vf25 := (show Var w7 (w.heap.size) 24 [.int .i64 gk, .int .u32 (vl ga), .int .u32 (vl gb), .string G] from vw7f.out); have c26 := vf25.cell (j := 0) rfl; have c27 := vf25.cell (j := 1) rfl; have c28 := vf25.cell (j := 2) rfl; have c29 := vf25.cell (j := 3) rfl; clear vf25)))
    clear c26 c27 c28 c29
    refine wp_region_is [32, 33, 34, 35, 36, 37, 38, 39, 40, 41, 42, 43, 44] (fun w' => Below w7.heap.size w7 w')
      [.int .i64 0, .bool false, .bool false, (.iface 55 V), .bool false, .bool false, .bool false, (.iface 55 V), .int .i64 gk, .pointer (some ⟨w.heap.size, 0, none⟩), .int .i64 gk, .bool false, .bool false] (by kernel_rfl) (by kernel_rfl) rfl (by decide) (by simp) (Below.refl _ _).drew ?each ?done
    case each =>
      simp only [Each]
      repeat' (first | exact trivial | refine And.intro ?_ ?_)
      all_goals
        intro ys wx hBx hdeps
        simp only [Deps, Region.binds, List.getD_cons_zero, List.getD_cons_succ, forall_const, and_true] at hdeps
        have q30 := (vw7f.out.below hBx vw7f.out.lt).cell (j := 0) rfl
        simp only [hdeps, fill, List.foldl_cons, List.foldl_nil, Act.put, List.setIfInBounds_toArray, List.set_cons_succ, List.set_cons_zero]
        first
          | (go_wp2_with fail; exact ⟨_, rfl, rfl, hBx, Below.refl _ _⟩)
          | (go_wp2_with (go_at_call 20; (with_reducible refine (HK.out _).mono ?_); rintro e w3 ⟨rfl, hm⟩); exact ⟨_, rfl, rfl, hBx.trans (hm.mono hBx.size), hm⟩)
    case done =>
      intro ys wx hBx hV
      obtain ⟨w8, hw8⟩ : ∃ wy, wy = wx := ⟨_, rfl⟩
      rw [← hw8] at hBx ⊢
      have bw8 := Lib.hid (bel2 bw7.out hBx)
      have zw8 := Lib.hid hBx.size
      have vw8f := Lib.hid (vw7f.out.below hBx vw7f.out.lt)
      have h44 : ys 44 = .bool false := hV 12 (by decide)
      clear hBx hV hw8
      simp only [h44, fill, List.drop_succ_cons, List.drop_zero, List.foldl_cons, List.foldl_nil, Act.put, List.setIfInBounds_toArray, List.set_cons_succ, List.set_cons_zero]
      go_wp2_with (first
    | (go_at_call 13; ((with_reducible refine (HF.out _).mono ?_); rintro e w9 ⟨rfl, bz⟩; have hbel : Below w8.heap.size w8 w9 := (by exact bz); clear bz; have bw9 := Lib.hid (bel2 bw8.out hbel); have zw9 := Lib.hid hbel.size; have vw9f := Lib.hid (vw8f.out.below hbel vw8f.out.lt); clear hbel; have vf31 := (show Var (w9.alloc (.cells #[.int .i64 gk, .int .u32 (vl ga), .int .u32 (vl gb), .string G] 24)) (w.heap.size) 24 [.int .i64 gk, .int .u32 (vl ga), .int .u32 (vl gb), .string G] from (vw9f.out.alloc _)); have c32 := vf31.cell (j := 0) rfl; have c33 := vf31.cell (j := 1) rfl; have c34 := vf31.cell (j := 2) rfl; have c35 := vf31.cell (j := 3) rfl; clear vf31)))
      go_ret
      exact ⟨rfl, (bel2 bw9.out (Geom.bel_alloc _ _))⟩
set_option maxRecDepth 100000 in
set_option maxHeartbeats 8000000 in
theorem tells_near_Part (gk : Int) (ga gb : W) (G : ByteArray)
    (fk how hw : Int) (fa fb : W) (F : ByteArray)
    (V : Value)
    (HO : Hid (∀ w, Calls Try.prog 10 #[.agg #[.int .i64 gk, .int .u32 (vl ga), .int .u32 (vl gb), .string G]] w fun e w' => e = .returned (.tuple #[(.iface 39 V), .int .i64 0]) ∧ Below w.heap.size w w'))
    (HP : Hid (∀ w, Calls Try.prog 12 #[.agg #[.int .i64 gk, .int .u32 (vl ga), .int .u32 (vl gb), .string G]] w fun e w' => e = .returned (.bool true) ∧ Below w.heap.size w w'))
    (HK : Hid (∀ w, Calls Try.prog 21 #[V] w fun e w' => e = .returned (.int .i64 gk) ∧ Below w.heap.size w w'))
    (HF : Hid (∀ w, Calls Try.prog 13 #[(.iface 39 V)] w fun e w' => e = .returned (.tuple #[.agg #[.int .i64 gk, .int .u32 (vl ga), .int .u32 (vl gb), .string G], .int .i64 0]) ∧ Below w.heap.size w w'))
    (HS : Hid (∀ w, Calls Try.prog 8 #[.agg #[.int .i64 fk, .int .u32 (vl fa), .int .u32 (vl fb), .string F], .int .i64 hw] w fun e w' => e = .returned (.agg #[.int .i64 gk, .int .u32 (vl ga), .int .u32 (vl gb), .string G]) ∧ Below w.heap.size w w'))
    (HPK : Hid (∀ w, Calls Try.prog 9 #[.int .i64 how, .int .i64 3] w fun e w' => e = .returned (.int .i64 hw) ∧ w = w')) (w : World) :
    Calls Try.prog 3 #[.agg #[.int .i64 fk, .int .u32 (vl fa), .int .u32 (vl fb), .string F], .int .i64 how, .bool true] w fun e w' => e = .returned (.bool true) ∧ Below w.heap.size w w' := by
  have HAL := Lib.hid (fun w => alive_any w)
  go_enter Try.func3, Try.ntmps3
  go_wp2
  obtain ⟨w1, hw1⟩ : ∃ wx, wx = (w.alloc (.cells #[.int .i64 fk, .int .u32 (vl fa), .int .u32 (vl fb), .string F] 24)) := ⟨_, rfl⟩
  have bw1 := Lib.hid (show Below w.heap.size w w1 by rw [hw1]; exact (Geom.bel_alloc _ _))
  have zw1 := Lib.hid (show w.heap.size + 1 ≤ w1.heap.size by rw [hw1]; simp)
  have vw1f := Lib.hid (show Var w1 (w.heap.size) 24 [.int .i64 fk, .int .u32 (vl fa), .int .u32 (vl fb), .string F] by rw [hw1]; exact (Var.new w 24 [.int .i64 fk, .int .u32 (vl fa), .int .u32 (vl fb), .string F]))
  rw [← hw1]
  refine wp_region_is_tail 3 [12, 13, 14] (fun w' => Below w1.heap.size w1 w')
    [.agg #[.int .i64 fk, .int .u32 (vl fa), .int .u32 (vl fb), .string F], .int .i64 how, .int .i64 hw] (by kernel_rfl) (by kernel_rfl) (by kernel_rfl) (by decide) rfl (by decide) (by simp) (Below.refl _ _).drew ?each ?done
  case each =>
    simp only [List.take_succ_cons, List.take_zero, Each]
    repeat' (first | exact trivial | refine And.intro ?_ ?_)
    all_goals
      intro ys wx hBx hdeps
      simp only [Deps, Region.binds, List.getD_cons_zero, List.getD_cons_succ, forall_const, and_true] at hdeps
      have q1 := (vw1f.out.below hBx vw1f.out.lt).cell (j := 0) rfl
      have q2 := (vw1f.out.below hBx vw1f.out.lt).cell (j := 1) rfl
      have q3 := (vw1f.out.below hBx vw1f.out.lt).cell (j := 2) rfl
      have q4 := (vw1f.out.below hBx vw1f.out.lt).cell (j := 3) rfl
      simp only [hdeps, fill, List.foldl_cons, List.foldl_nil, Act.put, List.setIfInBounds_toArray, List.set_cons_succ, List.set_cons_zero]
      first
        | (go_wp2_with fail; exact ⟨_, rfl, rfl, hBx, Below.refl _ _⟩)
        | (go_wp2_with (go_at_call 9; (with_reducible refine (HPK.out _).mono ?_); rintro e w3 ⟨rfl, rfl⟩); exact ⟨_, rfl, rfl, hBx, Below.refl _ _⟩)
  case done =>
    intro ys wx hBx hV
    obtain ⟨w2, hw2⟩ : ∃ wy, wy = wx := ⟨_, rfl⟩
    rw [← hw2] at hBx ⊢
    have bw2 := Lib.hid (bel2 bw1.out hBx)
    have zw2 := Lib.hid hBx.size
    have vw2f := Lib.hid (vw1f.out.below hBx vw1f.out.lt)
    have h12 : ys 12 = .agg #[.int .i64 fk, .int .u32 (vl fa), .int .u32 (vl fb), .string F] := hV 0 (by decide)
    have h14 : ys 14 = .int .i64 hw := hV 2 (by decide)
    clear hBx hV hw2
    simp only [h12, h14, fill, List.drop_succ_cons, List.drop_zero, List.foldl_cons, List.foldl_nil, Act.put, List.setIfInBounds_toArray, List.set_cons_succ, List.set_cons_zero]
    go_wp2_with (first
    | (go_at_call 8; ((with_reducible refine (HS.out _).mono ?_); rintro e w3 ⟨rfl, bz⟩; have hbel : Below w2.heap.size w2 w3 := (by exact bz); clear bz; have bw3 := Lib.hid (bel2 bw2.out hbel); have zw3 := Lib.hid hbel.size; have vw3f := Lib.hid (vw2f.out.below hbel vw2f.out.lt); clear hbel; have vf5 := (show Var w3 (w.heap.size) 24 [.int .i64 fk, .int .u32 (vl fa), .int .u32 (vl fb), .string F] from vw3f.out); have c6 := vf5.cell (j := 0) rfl; have c7 := vf5.cell (j := 1) rfl; have c8 := vf5.cell (j := 2) rfl; have c9 := vf5.cell (j := 3) rfl; clear vf5; have vf10 := (show Var w3 (w.heap.size) 24 [.int .i64 fk, .int .u32 (vl fa), .int .u32 (vl fb), .string F] from vw3f.out); have f11 := vf10.frozen 0; have f12 := vf10.frozen 1; have f13 := vf10.frozen 2; have f14 := vf10.frozen 3; clear vf10; have vf15 := (show Var ((((w3.setCell ⟨w.heap.size, 0, none⟩ (.int .i64 gk)).setCell ⟨w.heap.size, 1, none⟩ (.int .u32 (vl ga))).setCell ⟨w.heap.size, 2, none⟩ (.int .u32 (vl gb))).setCell ⟨w.heap.size, 3, none⟩ (.string G)) (w.heap.size) 24 [.int .i64 gk, .int .u32 (vl ga), .int .u32 (vl gb), .string G] from ((((vw3f.out.set 0 (.int .i64 gk)).set 1 (.int .u32 (vl ga))).set 2 (.int .u32 (vl gb))).set 3 (.string G))); have c16 := vf15.cell (j := 0) rfl; have c17 := vf15.cell (j := 1) rfl; have c18 := vf15.cell (j := 2) rfl; have c19 := vf15.cell (j := 3) rfl; clear vf15))
    | (go_at_call 10; ((with_reducible refine (HO.out _).mono ?_); rintro e w5 ⟨rfl, bz⟩; obtain ⟨w4, hw4⟩ : ∃ wx, wx = ((((w3.setCell ⟨w.heap.size, 0, none⟩ (.int .i64 gk)).setCell ⟨w.heap.size, 1, none⟩ (.int .u32 (vl ga))).setCell ⟨w.heap.size, 2, none⟩ (.int .u32 (vl gb))).setCell ⟨w.heap.size, 3, none⟩ (.string G)) := ⟨_, rfl⟩; have bw4 := Lib.hid (show Below w.heap.size w w4 by rw [hw4]; exact ((((bw3.out.setCell (p := ⟨w.heap.size, 0, none⟩) (by have := zw1.out; have := zw2.out; have := zw3.out; simp only; omega) _).setCell (p := ⟨w.heap.size, 1, none⟩) (by have := zw1.out; have := zw2.out; have := zw3.out; simp only; omega) _).setCell (p := ⟨w.heap.size, 2, none⟩) (by have := zw1.out; have := zw2.out; have := zw3.out; simp only; omega) _).setCell (p := ⟨w.heap.size, 3, none⟩) (by have := zw1.out; have := zw2.out; have := zw3.out; simp only; omega) _)); have zw4 := Lib.hid (show w3.heap.size + 0 ≤ w4.heap.size by rw [hw4]; simp); have vw4f := Lib.hid (show Var w4 (w.heap.size) 24 [.int .i64 gk, .int .u32 (vl ga), .int .u32 (vl gb), .string G] by rw [hw4]; exact ((((vw3f.out.set 0 (.int .i64 gk)).set 1 (.int .u32 (vl ga))).set 2 (.int .u32 (vl gb))).set 3 (.string G))); have hbel : Below w4.heap.size w4 w5 := (by rw [hw4]; exact bz); clear bz; have bw5 := Lib.hid (bel2 bw4.out hbel); have zw5 := Lib.hid hbel.size; have vw5f := Lib.hid (vw4f.out.below hbel vw4f.out.lt); clear hbel; clear c6 c7 c8 c9 f11 f12 f13 f14 c16 c17 c18 c19))
    | (go_at_call 11; ((with_reducible refine (HAL.out _).mono ?_); rintro e w6 ⟨rfl, bz⟩; have hbel : Below w5.heap.size w5 w6 := (by exact bz); clear bz; have bw6 := Lib.hid (bel2 bw5.out hbel); have zw6 := Lib.hid hbel.size; have vw6f := Lib.hid (vw5f.out.below hbel vw5f.out.lt); clear hbel; have vf20 := (show Var w6 (w.heap.size) 24 [.int .i64 gk, .int .u32 (vl ga), .int .u32 (vl gb), .string G] from vw6f.out); have c21 := vf20.cell (j := 0) rfl; have c22 := vf20.cell (j := 1) rfl; have c23 := vf20.cell (j := 2) rfl; have c24 := vf20.cell (j := 3) rfl; clear vf20))
    | (go_at_call 12; ((with_reducible refine (HP.out _).mono ?_); rintro e w7 ⟨rfl, bz⟩; have hbel : Below w6.heap.size w6 w7 := (by exact bz); clear bz; have bw7 := Lib.hid (bel2 bw6.out hbel); have zw7 := Lib.hid hbel.size; have vw7f := Lib.hid (vw6f.out.below hbel vw6f.out.lt); clear hbel; clear c21 c22 c23 c24; have vf25 := (show Var w7 (w.heap.size) 24 [.int .i64 gk, .int .u32 (vl ga), .int .u32 (vl gb), .string G] from vw7f.out); have c26 := vf25.cell (j := 0) rfl; have c27 := vf25.cell (j := 1) rfl; have c28 := vf25.cell (j := 2) rfl; have c29 := vf25.cell (j := 3) rfl; clear vf25)))
    clear c26 c27 c28 c29
    refine wp_region_is [32, 33, 34, 35, 36, 37, 38, 39, 40, 41, 42, 43, 44] (fun w' => Below w7.heap.size w7 w')
      [.int .i64 0, .bool false, .bool false, (.iface 39 V), .bool false, .bool false, .bool false, (.iface 39 V), .int .i64 gk, .pointer (some ⟨w.heap.size, 0, none⟩), .int .i64 gk, .bool false, .bool false] (by kernel_rfl) (by kernel_rfl) rfl (by decide) (by simp) (Below.refl _ _).drew ?each ?done
    case each =>
      simp only [Each]
      repeat' (first | exact trivial | refine And.intro ?_ ?_)
      all_goals
        intro ys wx hBx hdeps
        simp only [Deps, Region.binds, List.getD_cons_zero, List.getD_cons_succ, forall_const, and_true] at hdeps
        have q30 := (vw7f.out.below hBx vw7f.out.lt).cell (j := 0) rfl
        simp only [hdeps, fill, List.foldl_cons, List.foldl_nil, Act.put, List.setIfInBounds_toArray, List.set_cons_succ, List.set_cons_zero]
        first
          | (go_wp2_with fail; exact ⟨_, rfl, rfl, hBx, Below.refl _ _⟩)
          | (go_wp2_with (go_at_call 21; (with_reducible refine (HK.out _).mono ?_); rintro e w3 ⟨rfl, hm⟩); exact ⟨_, rfl, rfl, hBx.trans (hm.mono hBx.size), hm⟩)
    case done =>
      intro ys wx hBx hV
      obtain ⟨w8, hw8⟩ : ∃ wy, wy = wx := ⟨_, rfl⟩
      rw [← hw8] at hBx ⊢
      have bw8 := Lib.hid (bel2 bw7.out hBx)
      have zw8 := Lib.hid hBx.size
      have vw8f := Lib.hid (vw7f.out.below hBx vw7f.out.lt)
      have h44 : ys 44 = .bool false := hV 12 (by decide)
      clear hBx hV hw8
      simp only [h44, fill, List.drop_succ_cons, List.drop_zero, List.foldl_cons, List.foldl_nil, Act.put, List.setIfInBounds_toArray, List.set_cons_succ, List.set_cons_zero]
      go_wp2_with (first
    | (go_at_call 13; ((with_reducible refine (HF.out _).mono ?_); rintro e w9 ⟨rfl, bz⟩; have hbel : Below w8.heap.size w8 w9 := (by exact bz); clear bz; have bw9 := Lib.hid (bel2 bw8.out hbel); have zw9 := Lib.hid hbel.size; have vw9f := Lib.hid (vw8f.out.below hbel vw8f.out.lt); clear hbel; have vf31 := (show Var (w9.alloc (.cells #[.int .i64 gk, .int .u32 (vl ga), .int .u32 (vl gb), .string G] 24)) (w.heap.size) 24 [.int .i64 gk, .int .u32 (vl ga), .int .u32 (vl gb), .string G] from (vw9f.out.alloc _)); have c32 := vf31.cell (j := 0) rfl; have c33 := vf31.cell (j := 1) rfl; have c34 := vf31.cell (j := 2) rfl; have c35 := vf31.cell (j := 3) rfl; clear vf31)))
      go_ret
      exact ⟨rfl, (bel2 bw9.out (Geom.bel_alloc _ _))⟩
set_option maxRecDepth 100000 in
set_option maxHeartbeats 8000000 in
theorem tells_near_Seal (gk : Int) (ga gb : W) (G : ByteArray)
    (fk how hw : Int) (fa fb : W) (F : ByteArray)
    (V : Value)
    (HO : Hid (∀ w, Calls Try.prog 10 #[.agg #[.int .i64 gk, .int .u32 (vl ga), .int .u32 (vl gb), .string G]] w fun e w' => e = .returned (.tuple #[(.iface 43 V), .int .i64 0]) ∧ Below w.heap.size w w'))
    (HP : Hid (∀ w, Calls Try.prog 12 #[.agg #[.int .i64 gk, .int .u32 (vl ga), .int .u32 (vl gb), .string G]] w fun e w' => e = .returned (.bool true) ∧ Below w.heap.size w w'))
    (HK : Hid (∀ w, Calls Try.prog 22 #[V] w fun e w' => e = .returned (.int .i64 gk) ∧ Below w.heap.size w w'))
    (HF : Hid (∀ w, Calls Try.prog 13 #[(.iface 43 V)] w fun e w' => e = .returned (.tuple #[.agg #[.int .i64 gk, .int .u32 (vl ga), .int .u32 (vl gb), .string G], .int .i64 0]) ∧ Below w.heap.size w w'))
    (HS : Hid (∀ w, Calls Try.prog 8 #[.agg #[.int .i64 fk, .int .u32 (vl fa), .int .u32 (vl fb), .string F], .int .i64 hw] w fun e w' => e = .returned (.agg #[.int .i64 gk, .int .u32 (vl ga), .int .u32 (vl gb), .string G]) ∧ Below w.heap.size w w'))
    (HPK : Hid (∀ w, Calls Try.prog 9 #[.int .i64 how, .int .i64 3] w fun e w' => e = .returned (.int .i64 hw) ∧ w = w')) (w : World) :
    Calls Try.prog 3 #[.agg #[.int .i64 fk, .int .u32 (vl fa), .int .u32 (vl fb), .string F], .int .i64 how, .bool true] w fun e w' => e = .returned (.bool true) ∧ Below w.heap.size w w' := by
  have HAL := Lib.hid (fun w => alive_any w)
  go_enter Try.func3, Try.ntmps3
  go_wp2
  obtain ⟨w1, hw1⟩ : ∃ wx, wx = (w.alloc (.cells #[.int .i64 fk, .int .u32 (vl fa), .int .u32 (vl fb), .string F] 24)) := ⟨_, rfl⟩
  have bw1 := Lib.hid (show Below w.heap.size w w1 by rw [hw1]; exact (Geom.bel_alloc _ _))
  have zw1 := Lib.hid (show w.heap.size + 1 ≤ w1.heap.size by rw [hw1]; simp)
  have vw1f := Lib.hid (show Var w1 (w.heap.size) 24 [.int .i64 fk, .int .u32 (vl fa), .int .u32 (vl fb), .string F] by rw [hw1]; exact (Var.new w 24 [.int .i64 fk, .int .u32 (vl fa), .int .u32 (vl fb), .string F]))
  rw [← hw1]
  refine wp_region_is_tail 3 [12, 13, 14] (fun w' => Below w1.heap.size w1 w')
    [.agg #[.int .i64 fk, .int .u32 (vl fa), .int .u32 (vl fb), .string F], .int .i64 how, .int .i64 hw] (by kernel_rfl) (by kernel_rfl) (by kernel_rfl) (by decide) rfl (by decide) (by simp) (Below.refl _ _).drew ?each ?done
  case each =>
    simp only [List.take_succ_cons, List.take_zero, Each]
    repeat' (first | exact trivial | refine And.intro ?_ ?_)
    all_goals
      intro ys wx hBx hdeps
      simp only [Deps, Region.binds, List.getD_cons_zero, List.getD_cons_succ, forall_const, and_true] at hdeps
      have q1 := (vw1f.out.below hBx vw1f.out.lt).cell (j := 0) rfl
      have q2 := (vw1f.out.below hBx vw1f.out.lt).cell (j := 1) rfl
      have q3 := (vw1f.out.below hBx vw1f.out.lt).cell (j := 2) rfl
      have q4 := (vw1f.out.below hBx vw1f.out.lt).cell (j := 3) rfl
      simp only [hdeps, fill, List.foldl_cons, List.foldl_nil, Act.put, List.setIfInBounds_toArray, List.set_cons_succ, List.set_cons_zero]
      first
        | (go_wp2_with fail; exact ⟨_, rfl, rfl, hBx, Below.refl _ _⟩)
        | (go_wp2_with (go_at_call 9; (with_reducible refine (HPK.out _).mono ?_); rintro e w3 ⟨rfl, rfl⟩); exact ⟨_, rfl, rfl, hBx, Below.refl _ _⟩)
  case done =>
    intro ys wx hBx hV
    obtain ⟨w2, hw2⟩ : ∃ wy, wy = wx := ⟨_, rfl⟩
    rw [← hw2] at hBx ⊢
    have bw2 := Lib.hid (bel2 bw1.out hBx)
    have zw2 := Lib.hid hBx.size
    have vw2f := Lib.hid (vw1f.out.below hBx vw1f.out.lt)
    have h12 : ys 12 = .agg #[.int .i64 fk, .int .u32 (vl fa), .int .u32 (vl fb), .string F] := hV 0 (by decide)
    have h14 : ys 14 = .int .i64 hw := hV 2 (by decide)
    clear hBx hV hw2
    simp only [h12, h14, fill, List.drop_succ_cons, List.drop_zero, List.foldl_cons, List.foldl_nil, Act.put, List.setIfInBounds_toArray, List.set_cons_succ, List.set_cons_zero]
    go_wp2_with (first
    | (go_at_call 8; ((with_reducible refine (HS.out _).mono ?_); rintro e w3 ⟨rfl, bz⟩; have hbel : Below w2.heap.size w2 w3 := (by exact bz); clear bz; have bw3 := Lib.hid (bel2 bw2.out hbel); have zw3 := Lib.hid hbel.size; have vw3f := Lib.hid (vw2f.out.below hbel vw2f.out.lt); clear hbel; have vf5 := (show Var w3 (w.heap.size) 24 [.int .i64 fk, .int .u32 (vl fa), .int .u32 (vl fb), .string F] from vw3f.out); have c6 := vf5.cell (j := 0) rfl; have c7 := vf5.cell (j := 1) rfl; have c8 := vf5.cell (j := 2) rfl; have c9 := vf5.cell (j := 3) rfl; clear vf5; have vf10 := (show Var w3 (w.heap.size) 24 [.int .i64 fk, .int .u32 (vl fa), .int .u32 (vl fb), .string F] from vw3f.out); have f11 := vf10.frozen 0; have f12 := vf10.frozen 1; have f13 := vf10.frozen 2; have f14 := vf10.frozen 3; clear vf10; have vf15 := (show Var ((((w3.setCell ⟨w.heap.size, 0, none⟩ (.int .i64 gk)).setCell ⟨w.heap.size, 1, none⟩ (.int .u32 (vl ga))).setCell ⟨w.heap.size, 2, none⟩ (.int .u32 (vl gb))).setCell ⟨w.heap.size, 3, none⟩ (.string G)) (w.heap.size) 24 [.int .i64 gk, .int .u32 (vl ga), .int .u32 (vl gb), .string G] from ((((vw3f.out.set 0 (.int .i64 gk)).set 1 (.int .u32 (vl ga))).set 2 (.int .u32 (vl gb))).set 3 (.string G))); have c16 := vf15.cell (j := 0) rfl; have c17 := vf15.cell (j := 1) rfl; have c18 := vf15.cell (j := 2) rfl; have c19 := vf15.cell (j := 3) rfl; clear vf15))
    | (go_at_call 10; ((with_reducible refine (HO.out _).mono ?_); rintro e w5 ⟨rfl, bz⟩; obtain ⟨w4, hw4⟩ : ∃ wx, wx = ((((w3.setCell ⟨w.heap.size, 0, none⟩ (.int .i64 gk)).setCell ⟨w.heap.size, 1, none⟩ (.int .u32 (vl ga))).setCell ⟨w.heap.size, 2, none⟩ (.int .u32 (vl gb))).setCell ⟨w.heap.size, 3, none⟩ (.string G)) := ⟨_, rfl⟩; have bw4 := Lib.hid (show Below w.heap.size w w4 by rw [hw4]; exact ((((bw3.out.setCell (p := ⟨w.heap.size, 0, none⟩) (by have := zw1.out; have := zw2.out; have := zw3.out; simp only; omega) _).setCell (p := ⟨w.heap.size, 1, none⟩) (by have := zw1.out; have := zw2.out; have := zw3.out; simp only; omega) _).setCell (p := ⟨w.heap.size, 2, none⟩) (by have := zw1.out; have := zw2.out; have := zw3.out; simp only; omega) _).setCell (p := ⟨w.heap.size, 3, none⟩) (by have := zw1.out; have := zw2.out; have := zw3.out; simp only; omega) _)); have zw4 := Lib.hid (show w3.heap.size + 0 ≤ w4.heap.size by rw [hw4]; simp); have vw4f := Lib.hid (show Var w4 (w.heap.size) 24 [.int .i64 gk, .int .u32 (vl ga), .int .u32 (vl gb), .string G] by rw [hw4]; exact ((((vw3f.out.set 0 (.int .i64 gk)).set 1 (.int .u32 (vl ga))).set 2 (.int .u32 (vl gb))).set 3 (.string G))); have hbel : Below w4.heap.size w4 w5 := (by rw [hw4]; exact bz); clear bz; have bw5 := Lib.hid (bel2 bw4.out hbel); have zw5 := Lib.hid hbel.size; have vw5f := Lib.hid (vw4f.out.below hbel vw4f.out.lt); clear hbel; clear c6 c7 c8 c9 f11 f12 f13 f14 c16 c17 c18 c19))
    | (go_at_call 11; ((with_reducible refine (HAL.out _).mono ?_); rintro e w6 ⟨rfl, bz⟩; have hbel : Below w5.heap.size w5 w6 := (by exact bz); clear bz; have bw6 := Lib.hid (bel2 bw5.out hbel); have zw6 := Lib.hid hbel.size; have vw6f := Lib.hid (vw5f.out.below hbel vw5f.out.lt); clear hbel; have vf20 := (show Var w6 (w.heap.size) 24 [.int .i64 gk, .int .u32 (vl ga), .int .u32 (vl gb), .string G] from vw6f.out); have c21 := vf20.cell (j := 0) rfl; have c22 := vf20.cell (j := 1) rfl; have c23 := vf20.cell (j := 2) rfl; have c24 := vf20.cell (j := 3) rfl; clear vf20))
    | (go_at_call 12; ((with_reducible refine (HP.out _).mono ?_); rintro e w7 ⟨rfl, bz⟩; have hbel : Below w6.heap.size w6 w7 := (by exact bz); clear bz; have bw7 := Lib.hid (bel2 bw6.out hbel); have zw7 := Lib.hid hbel.size; have vw7f := Lib.hid (vw6f.out.below hbel vw6f.out.lt); clear hbel; clear c21 c22 c23 c24; have vf25 := (show Var w7 (w.heap.size) 24 [.int .i64 gk, .int .u32 (vl ga), .int .u32 (vl gb), .string G] from vw7f.out); have c26 := vf25.cell (j := 0) rfl; have c27 := vf25.cell (j := 1) rfl; have c28 := vf25.cell (j := 2) rfl; have c29 := vf25.cell (j := 3) rfl; clear vf25)))
    clear c26 c27 c28 c29
    refine wp_region_is [32, 33, 34, 35, 36, 37, 38, 39, 40, 41, 42, 43, 44] (fun w' => Below w7.heap.size w7 w')
      [.int .i64 0, .bool false, .bool false, (.iface 43 V), .bool false, .bool false, .bool false, (.iface 43 V), .int .i64 gk, .pointer (some ⟨w.heap.size, 0, none⟩), .int .i64 gk, .bool false, .bool false] (by kernel_rfl) (by kernel_rfl) rfl (by decide) (by simp) (Below.refl _ _).drew ?each ?done
    case each =>
      simp only [Each]
      repeat' (first | exact trivial | refine And.intro ?_ ?_)
      all_goals
        intro ys wx hBx hdeps
        simp only [Deps, Region.binds, List.getD_cons_zero, List.getD_cons_succ, forall_const, and_true] at hdeps
        have q30 := (vw7f.out.below hBx vw7f.out.lt).cell (j := 0) rfl
        simp only [hdeps, fill, List.foldl_cons, List.foldl_nil, Act.put, List.setIfInBounds_toArray, List.set_cons_succ, List.set_cons_zero]
        first
          | (go_wp2_with fail; exact ⟨_, rfl, rfl, hBx, Below.refl _ _⟩)
          | (go_wp2_with (go_at_call 22; (with_reducible refine (HK.out _).mono ?_); rintro e w3 ⟨rfl, hm⟩); exact ⟨_, rfl, rfl, hBx.trans (hm.mono hBx.size), hm⟩)
    case done =>
      intro ys wx hBx hV
      obtain ⟨w8, hw8⟩ : ∃ wy, wy = wx := ⟨_, rfl⟩
      rw [← hw8] at hBx ⊢
      have bw8 := Lib.hid (bel2 bw7.out hBx)
      have zw8 := Lib.hid hBx.size
      have vw8f := Lib.hid (vw7f.out.below hBx vw7f.out.lt)
      have h44 : ys 44 = .bool false := hV 12 (by decide)
      clear hBx hV hw8
      simp only [h44, fill, List.drop_succ_cons, List.drop_zero, List.foldl_cons, List.foldl_nil, Act.put, List.setIfInBounds_toArray, List.set_cons_succ, List.set_cons_zero]
      go_wp2_with (first
    | (go_at_call 13; ((with_reducible refine (HF.out _).mono ?_); rintro e w9 ⟨rfl, bz⟩; have hbel : Below w8.heap.size w8 w9 := (by exact bz); clear bz; have bw9 := Lib.hid (bel2 bw8.out hbel); have zw9 := Lib.hid hbel.size; have vw9f := Lib.hid (vw8f.out.below hbel vw8f.out.lt); clear hbel; have vf31 := (show Var (w9.alloc (.cells #[.int .i64 gk, .int .u32 (vl ga), .int .u32 (vl gb), .string G] 24)) (w.heap.size) 24 [.int .i64 gk, .int .u32 (vl ga), .int .u32 (vl gb), .string G] from (vw9f.out.alloc _)); have c32 := vf31.cell (j := 0) rfl; have c33 := vf31.cell (j := 1) rfl; have c34 := vf31.cell (j := 2) rfl; have c35 := vf31.cell (j := 3) rfl; clear vf31)))
      go_ret
      exact ⟨rfl, (bel2 bw9.out (Geom.bel_alloc _ _))⟩
set_option maxRecDepth 100000 in
set_option maxHeartbeats 8000000 in
theorem tells_near_Floor (gk : Int) (ga gb : W) (G : ByteArray)
    (fk how hw : Int) (fa fb : W) (F : ByteArray)
    (V : Value)
    (HO : Hid (∀ w, Calls Try.prog 10 #[.agg #[.int .i64 gk, .int .u32 (vl ga), .int .u32 (vl gb), .string G]] w fun e w' => e = .returned (.tuple #[(.iface 47 V), .int .i64 0]) ∧ Below w.heap.size w w'))
    (HP : Hid (∀ w, Calls Try.prog 12 #[.agg #[.int .i64 gk, .int .u32 (vl ga), .int .u32 (vl gb), .string G]] w fun e w' => e = .returned (.bool true) ∧ Below w.heap.size w w'))
    (HK : Hid (∀ w, Calls Try.prog 23 #[V] w fun e w' => e = .returned (.int .i64 gk) ∧ Below w.heap.size w w'))
    (HF : Hid (∀ w, Calls Try.prog 13 #[(.iface 47 V)] w fun e w' => e = .returned (.tuple #[.agg #[.int .i64 gk, .int .u32 (vl ga), .int .u32 (vl gb), .string G], .int .i64 0]) ∧ Below w.heap.size w w'))
    (HS : Hid (∀ w, Calls Try.prog 8 #[.agg #[.int .i64 fk, .int .u32 (vl fa), .int .u32 (vl fb), .string F], .int .i64 hw] w fun e w' => e = .returned (.agg #[.int .i64 gk, .int .u32 (vl ga), .int .u32 (vl gb), .string G]) ∧ Below w.heap.size w w'))
    (HPK : Hid (∀ w, Calls Try.prog 9 #[.int .i64 how, .int .i64 3] w fun e w' => e = .returned (.int .i64 hw) ∧ w = w')) (w : World) :
    Calls Try.prog 3 #[.agg #[.int .i64 fk, .int .u32 (vl fa), .int .u32 (vl fb), .string F], .int .i64 how, .bool true] w fun e w' => e = .returned (.bool true) ∧ Below w.heap.size w w' := by
  have HAL := Lib.hid (fun w => alive_any w)
  go_enter Try.func3, Try.ntmps3
  go_wp2
  obtain ⟨w1, hw1⟩ : ∃ wx, wx = (w.alloc (.cells #[.int .i64 fk, .int .u32 (vl fa), .int .u32 (vl fb), .string F] 24)) := ⟨_, rfl⟩
  have bw1 := Lib.hid (show Below w.heap.size w w1 by rw [hw1]; exact (Geom.bel_alloc _ _))
  have zw1 := Lib.hid (show w.heap.size + 1 ≤ w1.heap.size by rw [hw1]; simp)
  have vw1f := Lib.hid (show Var w1 (w.heap.size) 24 [.int .i64 fk, .int .u32 (vl fa), .int .u32 (vl fb), .string F] by rw [hw1]; exact (Var.new w 24 [.int .i64 fk, .int .u32 (vl fa), .int .u32 (vl fb), .string F]))
  rw [← hw1]
  refine wp_region_is_tail 3 [12, 13, 14] (fun w' => Below w1.heap.size w1 w')
    [.agg #[.int .i64 fk, .int .u32 (vl fa), .int .u32 (vl fb), .string F], .int .i64 how, .int .i64 hw] (by kernel_rfl) (by kernel_rfl) (by kernel_rfl) (by decide) rfl (by decide) (by simp) (Below.refl _ _).drew ?each ?done
  case each =>
    simp only [List.take_succ_cons, List.take_zero, Each]
    repeat' (first | exact trivial | refine And.intro ?_ ?_)
    all_goals
      intro ys wx hBx hdeps
      simp only [Deps, Region.binds, List.getD_cons_zero, List.getD_cons_succ, forall_const, and_true] at hdeps
      have q1 := (vw1f.out.below hBx vw1f.out.lt).cell (j := 0) rfl
      have q2 := (vw1f.out.below hBx vw1f.out.lt).cell (j := 1) rfl
      have q3 := (vw1f.out.below hBx vw1f.out.lt).cell (j := 2) rfl
      have q4 := (vw1f.out.below hBx vw1f.out.lt).cell (j := 3) rfl
      simp only [hdeps, fill, List.foldl_cons, List.foldl_nil, Act.put, List.setIfInBounds_toArray, List.set_cons_succ, List.set_cons_zero]
      first
        | (go_wp2_with fail; exact ⟨_, rfl, rfl, hBx, Below.refl _ _⟩)
        | (go_wp2_with (go_at_call 9; (with_reducible refine (HPK.out _).mono ?_); rintro e w3 ⟨rfl, rfl⟩); exact ⟨_, rfl, rfl, hBx, Below.refl _ _⟩)
  case done =>
    intro ys wx hBx hV
    obtain ⟨w2, hw2⟩ : ∃ wy, wy = wx := ⟨_, rfl⟩
    rw [← hw2] at hBx ⊢
    have bw2 := Lib.hid (bel2 bw1.out hBx)
    have zw2 := Lib.hid hBx.size
    have vw2f := Lib.hid (vw1f.out.below hBx vw1f.out.lt)
    have h12 : ys 12 = .agg #[.int .i64 fk, .int .u32 (vl fa), .int .u32 (vl fb), .string F] := hV 0 (by decide)
    have h14 : ys 14 = .int .i64 hw := hV 2 (by decide)
    clear hBx hV hw2
    simp only [h12, h14, fill, List.drop_succ_cons, List.drop_zero, List.foldl_cons, List.foldl_nil, Act.put, List.setIfInBounds_toArray, List.set_cons_succ, List.set_cons_zero]
    go_wp2_with (first
    | (go_at_call 8; ((with_reducible refine (HS.out _).mono ?_); rintro e w3 ⟨rfl, bz⟩; have hbel : Below w2.heap.size w2 w3 := (by exact bz); clear bz; have bw3 := Lib.hid (bel2 bw2.out hbel); have zw3 := Lib.hid hbel.size; have vw3f := Lib.hid (vw2f.out.below hbel vw2f.out.lt); clear hbel; have vf5 := (show Var w3 (w.heap.size) 24 [.int .i64 fk, .int .u32 (vl fa), .int .u32 (vl fb), .string F] from vw3f.out); have c6 := vf5.cell (j := 0) rfl; have c7 := vf5.cell (j := 1) rfl; have c8 := vf5.cell (j := 2) rfl; have c9 := vf5.cell (j := 3) rfl; clear vf5; have vf10 := (show Var w3 (w.heap.size) 24 [.int .i64 fk, .int .u32 (vl fa), .int .u32 (vl fb), .string F] from vw3f.out); have f11 := vf10.frozen 0; have f12 := vf10.frozen 1; have f13 := vf10.frozen 2; have f14 := vf10.frozen 3; clear vf10; have vf15 := (show Var ((((w3.setCell ⟨w.heap.size, 0, none⟩ (.int .i64 gk)).setCell ⟨w.heap.size, 1, none⟩ (.int .u32 (vl ga))).setCell ⟨w.heap.size, 2, none⟩ (.int .u32 (vl gb))).setCell ⟨w.heap.size, 3, none⟩ (.string G)) (w.heap.size) 24 [.int .i64 gk, .int .u32 (vl ga), .int .u32 (vl gb), .string G] from ((((vw3f.out.set 0 (.int .i64 gk)).set 1 (.int .u32 (vl ga))).set 2 (.int .u32 (vl gb))).set 3 (.string G))); have c16 := vf15.cell (j := 0) rfl; have c17 := vf15.cell (j := 1) rfl; have c18 := vf15.cell (j := 2) rfl; have c19 := vf15.cell (j := 3) rfl; clear vf15))
    | (go_at_call 10; ((with_reducible refine (HO.out _).mono ?_); rintro e w5 ⟨rfl, bz⟩; obtain ⟨w4, hw4⟩ : ∃ wx, wx = ((((w3.setCell ⟨w.heap.size, 0, none⟩ (.int .i64 gk)).setCell ⟨w.heap.size, 1, none⟩ (.int .u32 (vl ga))).setCell ⟨w.heap.size, 2, none⟩ (.int .u32 (vl gb))).setCell ⟨w.heap.size, 3, none⟩ (.string G)) := ⟨_, rfl⟩; have bw4 := Lib.hid (show Below w.heap.size w w4 by rw [hw4]; exact ((((bw3.out.setCell (p := ⟨w.heap.size, 0, none⟩) (by have := zw1.out; have := zw2.out; have := zw3.out; simp only; omega) _).setCell (p := ⟨w.heap.size, 1, none⟩) (by have := zw1.out; have := zw2.out; have := zw3.out; simp only; omega) _).setCell (p := ⟨w.heap.size, 2, none⟩) (by have := zw1.out; have := zw2.out; have := zw3.out; simp only; omega) _).setCell (p := ⟨w.heap.size, 3, none⟩) (by have := zw1.out; have := zw2.out; have := zw3.out; simp only; omega) _)); have zw4 := Lib.hid (show w3.heap.size + 0 ≤ w4.heap.size by rw [hw4]; simp); have vw4f := Lib.hid (show Var w4 (w.heap.size) 24 [.int .i64 gk, .int .u32 (vl ga), .int .u32 (vl gb), .string G] by rw [hw4]; exact ((((vw3f.out.set 0 (.int .i64 gk)).set 1 (.int .u32 (vl ga))).set 2 (.int .u32 (vl gb))).set 3 (.string G))); have hbel : Below w4.heap.size w4 w5 := (by rw [hw4]; exact bz); clear bz; have bw5 := Lib.hid (bel2 bw4.out hbel); have zw5 := Lib.hid hbel.size; have vw5f := Lib.hid (vw4f.out.below hbel vw4f.out.lt); clear hbel; clear c6 c7 c8 c9 f11 f12 f13 f14 c16 c17 c18 c19))
    | (go_at_call 11; ((with_reducible refine (HAL.out _).mono ?_); rintro e w6 ⟨rfl, bz⟩; have hbel : Below w5.heap.size w5 w6 := (by exact bz); clear bz; have bw6 := Lib.hid (bel2 bw5.out hbel); have zw6 := Lib.hid hbel.size; have vw6f := Lib.hid (vw5f.out.below hbel vw5f.out.lt); clear hbel; have vf20 := (show Var w6 (w.heap.size) 24 [.int .i64 gk, .int .u32 (vl ga), .int .u32 (vl gb), .string G] from vw6f.out); have c21 := vf20.cell (j := 0) rfl; have c22 := vf20.cell (j := 1) rfl; have c23 := vf20.cell (j := 2) rfl; have c24 := vf20.cell (j := 3) rfl; clear vf20))
    | (go_at_call 12; ((with_reducible refine (HP.out _).mono ?_); rintro e w7 ⟨rfl, bz⟩; have hbel : Below w6.heap.size w6 w7 := (by exact bz); clear bz; have bw7 := Lib.hid (bel2 bw6.out hbel); have zw7 := Lib.hid hbel.size; have vw7f := Lib.hid (vw6f.out.below hbel vw6f.out.lt); clear hbel; clear c21 c22 c23 c24; have vf25 := (show Var w7 (w.heap.size) 24 [.int .i64 gk, .int .u32 (vl ga), .int .u32 (vl gb), .string G] from vw7f.out); have c26 := vf25.cell (j := 0) rfl; have c27 := vf25.cell (j := 1) rfl; have c28 := vf25.cell (j := 2) rfl; have c29 := vf25.cell (j := 3) rfl; clear vf25)))
    clear c26 c27 c28 c29
    refine wp_region_is [32, 33, 34, 35, 36, 37, 38, 39, 40, 41, 42, 43, 44] (fun w' => Below w7.heap.size w7 w')
      [.int .i64 0, .bool false, .bool false, (.iface 47 V), .bool false, .bool false, .bool false, (.iface 47 V), .int .i64 gk, .pointer (some ⟨w.heap.size, 0, none⟩), .int .i64 gk, .bool false, .bool false] (by kernel_rfl) (by kernel_rfl) rfl (by decide) (by simp) (Below.refl _ _).drew ?each ?done
    case each =>
      simp only [Each]
      repeat' (first | exact trivial | refine And.intro ?_ ?_)
      all_goals
        intro ys wx hBx hdeps
        simp only [Deps, Region.binds, List.getD_cons_zero, List.getD_cons_succ, forall_const, and_true] at hdeps
        have q30 := (vw7f.out.below hBx vw7f.out.lt).cell (j := 0) rfl
        simp only [hdeps, fill, List.foldl_cons, List.foldl_nil, Act.put, List.setIfInBounds_toArray, List.set_cons_succ, List.set_cons_zero]
        first
          | (go_wp2_with fail; exact ⟨_, rfl, rfl, hBx, Below.refl _ _⟩)
          | (go_wp2_with (go_at_call 23; (with_reducible refine (HK.out _).mono ?_); rintro e w3 ⟨rfl, hm⟩); exact ⟨_, rfl, rfl, hBx.trans (hm.mono hBx.size), hm⟩)
    case done =>
      intro ys wx hBx hV
      obtain ⟨w8, hw8⟩ : ∃ wy, wy = wx := ⟨_, rfl⟩
      rw [← hw8] at hBx ⊢
      have bw8 := Lib.hid (bel2 bw7.out hBx)
      have zw8 := Lib.hid hBx.size
      have vw8f := Lib.hid (vw7f.out.below hBx vw7f.out.lt)
      have h44 : ys 44 = .bool false := hV 12 (by decide)
      clear hBx hV hw8
      simp only [h44, fill, List.drop_succ_cons, List.drop_zero, List.foldl_cons, List.foldl_nil, Act.put, List.setIfInBounds_toArray, List.set_cons_succ, List.set_cons_zero]
      go_wp2_with (first
    | (go_at_call 13; ((with_reducible refine (HF.out _).mono ?_); rintro e w9 ⟨rfl, bz⟩; have hbel : Below w8.heap.size w8 w9 := (by exact bz); clear bz; have bw9 := Lib.hid (bel2 bw8.out hbel); have zw9 := Lib.hid hbel.size; have vw9f := Lib.hid (vw8f.out.below hbel vw8f.out.lt); clear hbel; have vf31 := (show Var (w9.alloc (.cells #[.int .i64 gk, .int .u32 (vl ga), .int .u32 (vl gb), .string G] 24)) (w.heap.size) 24 [.int .i64 gk, .int .u32 (vl ga), .int .u32 (vl gb), .string G] from (vw9f.out.alloc _)); have c32 := vf31.cell (j := 0) rfl; have c33 := vf31.cell (j := 1) rfl; have c34 := vf31.cell (j := 2) rfl; have c35 := vf31.cell (j := 3) rfl; clear vf31)))
      go_ret
      exact ⟨rfl, (bel2 bw9.out (Geom.bel_alloc _ _))⟩
theorem tells_f (g : Fr) (hg : g.body.length ≤ maxLen) (how : Int) (w : World) : Calls Try.prog 3 #[fV g, .int .i64 how, .bool false] w fun e w' => e = .returned (.bool true) ∧ Below w.heap.size w w' := by
  have HO := Lib.hid (fun w => of_any g hg w)
  have HP := Lib.hid (fun w => refPiece_any g hg w)
  cases hr : pieceR g with
  | false =>
    rw [ofF_not hr] at HO
    rw [hr] at HP
    exact tells_plain_not g.kind g.a g.b (bs g.body) how HO HP w
  | true =>
    have HF := Lib.hid (fun w => frame_any (pcOf g) w)
    rw [frame_of hr] at HF
    rw [ofF_ok hr] at HO
    rw [hr] at HP
    have hk := kind_of hr
    generalize pcOf g = p at *
    rcases p with _ | ⟨e, r⟩ | ⟨s, a, t⟩ | ⟨s, p, v, f, u, z⟩ | ⟨s, g', f⟩
    · exfalso; have := (pieceR_parts hr).2; simp only [kindP] at hk; omega
    · exact tells_plain_Head g.kind g.a g.b (bs g.body) how (headV e r) HO HP (fun w => by rw [← hk]; exact headKind_any e r w) HF w
    · exact tells_plain_Part g.kind g.a g.b (bs g.body) how (partV s a t) HO HP (fun w => by rw [← hk]; exact partKind_any s a t w) HF w
    · exact tells_plain_Seal g.kind g.a g.b (bs g.body) how (sealV s p v f u z) HO HP (fun w => by rw [← hk]; exact sealKind_any s p v f u z w) HF w
    · exact tells_plain_Floor g.kind g.a g.b (bs g.body) how (floorV s g' f) HO HP (fun w => by rw [← hk]; exact floorKind_any s g' f w) HF w
theorem tells_t (f0 : Fr) (hs : f0.body.length ≤ maxLen) (how : Int) (w : World) : Calls Try.prog 3 #[fV f0, .int .i64 how, .bool true] w fun e w' => e = .returned (.bool true) ∧ Below w.heap.size w w' := by
  have HPK : Hid (∀ w, Calls Try.prog 9 #[.int .i64 how, .int .i64 3] w fun e w' => e = .returned (.int .i64 (how % 3)) ∧ w = w') := fun w => Book.pick_any how 3 (by decide) (by decide) w
  obtain ⟨g, hg, HS⟩ := shaped_any f0 hs (how % 3) (by omega) (by omega)
  have HO := Lib.hid (fun w => of_any g hg w)
  have HP := Lib.hid (fun w => refPiece_any g hg w)
  cases hr : pieceR g with
  | false =>
    rw [ofF_not hr] at HO
    rw [hr] at HP
    exact tells_near_not g.kind g.a g.b (bs g.body) f0.kind how (how % 3) f0.a f0.b (bs f0.body) HO HP HS HPK w
  | true =>
    have HF := Lib.hid (fun w => frame_any (pcOf g) w)
    rw [frame_of hr] at HF
    rw [ofF_ok hr] at HO
    rw [hr] at HP
    have hk := kind_of hr
    generalize pcOf g = p at *
    rcases p with _ | ⟨e, r⟩ | ⟨s, a, t⟩ | ⟨s, p, v, f, u, z⟩ | ⟨s, g', f⟩
    · exfalso; have := (pieceR_parts hr).2; simp only [kindP] at hk; omega
    · exact tells_near_Head g.kind g.a g.b (bs g.body) f0.kind how (how % 3) f0.a f0.b (bs f0.body) (headV e r) HO HP (fun w => by rw [← hk]; exact headKind_any e r w) HF HS HPK w
    · exact tells_near_Part g.kind g.a g.b (bs g.body) f0.kind how (how % 3) f0.a f0.b (bs f0.body) (partV s a t) HO HP (fun w => by rw [← hk]; exact partKind_any s a t w) HF HS HPK w
    · exact tells_near_Seal g.kind g.a g.b (bs g.body) f0.kind how (how % 3) f0.a f0.b (bs f0.body) (sealV s p v f u z) HO HP (fun w => by rw [← hk]; exact sealKind_any s p v f u z w) HF HS HPK w
    · exact tells_near_Floor g.kind g.a g.b (bs g.body) f0.kind how (how % 3) f0.a f0.b (bs f0.body) (floorV s g' f) HO HP (fun w => by rw [← hk]; exact floorKind_any s g' f w) HF HS HPK w
end Go.Proofs.Ytdbfclngllhdlaa.Piece
