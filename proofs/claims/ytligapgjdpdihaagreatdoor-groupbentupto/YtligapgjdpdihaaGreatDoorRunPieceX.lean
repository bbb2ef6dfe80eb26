/-
  Joined texts: PieceX, GroupXa.
-/
import Derived.Test.YtligapgjdpdihaaGreatDoorRunPieceXb
/-
  What package piece's Frame answers.
-/
set_option linter.unusedVariables false
set_option linter.unusedSimpArgs false
namespace Go.Proofs.YtligapgjdpdihaaGreatDoor.Piece
open Go.RowKit
open CrcM (W)
open Crc (le4 sumOf vl wd putS)
open Flash (bs bs_size bs_list list_bs)
open Go.Proofs.YtligapgjdpdihaaGreatDoor.Frame (Fr zeroF fV bel2 below_drewN)
open Tup Bytes Own
open Go.Proofs.YtligapgjdpdihaaGreatDoor.Region (fill Then Deps Each wp_region_is wp_region_is_tail wp_region_each wp_region_tail)
theorem frameR_head (e r : W) : pieceR (pcFrame (.head e r)) = isSeqB e := by show (isSeqB e && true) = _; rw [Bool.and_true]
theorem frameR_part (s a : W) (t : List UInt8) : pieceR (pcFrame (.part s a t)) = partR s t := rfl
theorem getZ_put (x : W) (l : List UInt8) : getZ (CrcM.put x.toNat ++ l) 0 = x := by
  unfold getZ
  rw [if_pos (by simp [CrcM.put])]
  have h : le4 (CrcM.put x.toNat ++ l) 0 = vl x := by
    have hx := x.isLt
    unfold le4 CrcM.put vl
    simp only [List.cons_append, List.nil_append, List.getD_cons_zero, List.getD_cons_succ, Nat.zero_add]
    simp
    omega
  rw [h, Crc.wd_vl]
theorem getZ_skip (x : W) (l : List UInt8) (k : Nat) : getZ (CrcM.put x.toNat ++ l) (k + 4) = getZ l k := by
  unfold getZ
  have h : (k + 4 + 4 ≤ (CrcM.put x.toNat ++ l).length) = (k + 4 ≤ l.length) := by
    simp [CrcM.put]
  simp only [h]
  rfl
theorem frameR_fin (s p v f u z : W) : pieceR (pcFrame (.fin s p v f u z)) = sealPR s p v f z := by
  show pieceR ⟨3, s, p, four v f u z⟩ = _
  rw [rightS (by rfl)]
  unfold four
  have e0 : getZ (CrcM.put v.toNat ++ (CrcM.put f.toNat ++ (CrcM.put u.toNat ++ CrcM.put z.toNat))) 0 = v := getZ_put _ _
  have e4 : getZ (CrcM.put v.toNat ++ (CrcM.put f.toNat ++ (CrcM.put u.toNat ++ CrcM.put z.toNat))) 4 = f := by rw [show (4 : Nat) = 0 + 4 from rfl, getZ_skip, getZ_put]
  have e12 : getZ (CrcM.put v.toNat ++ (CrcM.put f.toNat ++ (CrcM.put u.toNat ++ CrcM.put z.toNat))) 12 = z := by
    rw [show (12 : Nat) = 8 + 4 from rfl, getZ_skip, show (8 : Nat) = 4 + 4 from rfl, getZ_skip, show (4 : Nat) = 0 + 4 from rfl, getZ_skip]
    have := getZ_put z []
    rwa [List.append_nil] at this
  rw [e0, e4, e12]
theorem frameR_floor (s g f : W) : pieceR (pcFrame (.floor s g f)) = floorPR s f := by
  show pieceR ⟨4, s, g, CrcM.put f.toNat⟩ = _
  rw [rightF (by rfl)]
  have := getZ_put f []
  rw [List.append_nil] at this
  rw [this]
set_option maxRecDepth 100000 in
set_option maxHeartbeats 8000000 in
theorem frame_head (e r : W) (w : World) : Calls Tryz.prog 35 #[pcV (.head e r)] w fun e' w' => e' = .returned (.tuple #[fV (frameP (.head e r)).1, .int .i64 ((frameP (.head e r)).2 : Int)]) ∧ Below w.heap.size w w' := by
  have HR := Lib.hid (fun w => headRight_any e r w)
  have HK := Lib.hid (fun w => headKind_any e r w)
  have HC := Lib.hid (fun w => checked_any (isSeqB e) ⟨1, e, r, []⟩ w)
  have HE := Lib.hid (show frameP (.head e r) = checkedF (isSeqB e) ⟨1, e, r, []⟩ by
    unfold frameP checkedF
    rw [frameR_head]; rfl)
  rw [HE.out]
  generalize (checkedF (isSeqB e) ⟨1, e, r, []⟩).2 = cd at *
  obtain ⟨fk, fa, fb, fd, hf⟩ : ∃ fk fa fb fd, (checkedF (isSeqB e) ⟨1, e, r, []⟩).1 = ⟨fk, fa, fb, fd⟩ := ⟨_, _, _, _, rfl⟩
  rw [hf] at HC ⊢
  clear hf
  generalize isSeqB e = q at *
  have HA0 := Lib.hid (taHead_Head (.agg #[.int .u32 (vl e), .int .u32 (vl r)]))
  unfold headV at HR HK
  unfold fV at HC ⊢
  simp only at HC ⊢
  rw [show pcV (.head e r) = .iface 108 (.agg #[.int .u32 (vl e), .int .u32 (vl r)]) from rfl]
  obtain ⟨FB, hFB⟩ : ∃ FB, FB = bs fd := ⟨_, rfl⟩
  rw [← hFB] at HC ⊢
  rw [show bs [] = ⟨#[]⟩ from rfl] at HC
  have ta0 := HA0.out
  have hsz1 : (w.alloc (.cells #[.int .i64 0, .int .u32 0, .int .u32 0, .string ⟨#[]⟩] 29)).heap.size = w.heap.size + 1 := by simp
  obtain ⟨w1, hw1⟩ : ∃ w1, w1 = (w.alloc (.cells #[.int .i64 0, .int .u32 0, .int .u32 0, .string ⟨#[]⟩] 29)).alloc (.cells #[.int .u32 (vl e), .int .u32 (vl r)] 108) := ⟨_, rfl⟩
  have HB1 := Lib.hid (show Below w.heap.size w w1 by rw [hw1]; exact bel2 (Geom.bel_alloc _ _) (Geom.bel_alloc _ _))
  have HF1 := Lib.hid (show Var w1 w.heap.size 29 [.int .i64 0, .int .u32 0, .int .u32 0, .string ⟨#[]⟩] by rw [hw1]; exact (Var.new w _ _).alloc _)
  have HP1 := Lib.hid (show Var w1 (w.heap.size + 1) 108 [.int .u32 (vl e), .int .u32 (vl r)] by
    have := Var.new (w.alloc (.cells #[.int .i64 0, .int .u32 0, .int .u32 0, .string ⟨#[]⟩] 29)) 108 [.int .u32 (vl e), .int .u32 (vl r)]
    rw [hsz1] at this
    rw [hw1]; exact this)
  clear hFB
  go_enter Tryz.func35, Tryz.ntmps35
  go_wp2
  rw [← hw1]
  clear hw1 HA0
  refine wp_region_is_tail 12 [12, 13, 14, 15, 16, 17, 18, 19, 20, 21, 22, 23] (fun w' => Below w1.heap.size w1 w')
    [.agg #[.int .u32 (vl e), .int .u32 (vl r)], .bool q, .agg #[.int .u32 (vl e), .int .u32 (vl r)], .int .i64 1, .pointer (some ⟨w.heap.size + 1, 0, none⟩), .int .u32 (vl e), .pointer (some ⟨w.heap.size + 1, 1, none⟩), .int .u32 (vl r), .agg #[.int .i64 1, .int .u32 (vl e), .int .u32 (vl r), .string ⟨#[]⟩], .tuple #[.agg #[.int .i64 fk, .int .u32 (vl fa), .int .u32 (vl fb), .string FB], .int .i64 (cd : Int)], .agg #[.int .i64 fk, .int .u32 (vl fa), .int .u32 (vl fb), .string FB], .int .i64 (cd : Int)] (by kernel_rfl) (by kernel_rfl) (by kernel_rfl) (by decide) rfl (by decide) (by simp) (Below.refl _ _).drew ?each ?done
  case each =>
    simp only [List.take_succ_cons, List.take_zero, Each]
    repeat' (first | exact trivial | refine And.intro ?_ ?_)
    all_goals
      intro ys wx hBx hdeps
      simp only [Deps, Region.binds, List.getD_cons_zero, List.getD_cons_succ, forall_const, and_true] at hdeps
      have q0 := (HP1.out.below hBx HP1.out.lt).cell (j := 0) rfl
      have q1 := (HP1.out.below hBx HP1.out.lt).cell (j := 1) rfl
      simp only [hdeps, fill, List.foldl_cons, List.foldl_nil, Act.put, List.setIfInBounds_toArray, List.set_cons_succ, List.set_cons_zero]
      first
        | (go_wp2_with fail; exact ⟨_, rfl, rfl, hBx, Below.refl _ _⟩)
        | (go_wp2_with (go_at_call 63; (with_reducible refine (HR.out _).mono ?_); rintro e w3 ⟨rfl, hm⟩); exact ⟨_, rfl, rfl, hBx.trans (hm.mono hBx.size), hm⟩)
        | (go_wp2_with (go_at_call 64; (with_reducible refine (HK.out _).mono ?_); rintro e w3 ⟨rfl, hm⟩); exact ⟨_, rfl, rfl, hBx.trans (hm.mono hBx.size), hm⟩)
        | (go_wp2_with (go_at_call 62; (with_reducible refine (HC.out _).mono ?_); rintro e w3 ⟨rfl, hm⟩); exact ⟨_, rfl, rfl, hBx.trans (hm.mono hBx.size), hm⟩)
  case done =>
    intro ys wx hBx hV
    have h22 : ys 22 = .agg #[.int .i64 fk, .int .u32 (vl fa), .int .u32 (vl fb), .string FB] := hV 10 (by decide)
    have h23 : ys 23 = .int .i64 (cd : Int) := hV 11 (by decide)
    have vf := HF1.out.below hBx HF1.out.lt
    have k0 := vf.cell (j := 0) rfl
    have k1 := vf.cell (j := 1) rfl
    have k2 := vf.cell (j := 2) rfl
    have k3 := vf.cell (j := 3) rfl
    have f0 := vf.frozen 0
    have f1 := vf.frozen 1
    have f2 := vf.frozen 2
    have f3 := vf.frozen 3
    have vr := (((vf.set 0 (.int .i64 fk)).set 1 (.int .u32 (vl fa))).set 2 (.int .u32 (vl fb))).set 3 (.string FB)
    clear hV
    simp only [h22, h23, fill, List.drop_succ_cons, List.drop_zero, List.foldl_cons, List.foldl_nil, Act.put, List.setIfInBounds_toArray, List.set_cons_succ, List.set_cons_zero]
    go_wp2
    have z0 := vr.cell (j := 0) rfl
    have z1 := vr.cell (j := 1) rfl
    have z2 := vr.cell (j := 2) rfl
    have z3 := vr.cell (j := 3) rfl
    clear vr vf k0 k1 k2 k3 f0 f1 f2 f3
    refine bodyPost_ret (v := .tuple #[.agg #[.int .i64 fk, .int .u32 (vl fa), .int .u32 (vl fb), .string FB], .int .i64 (cd : Int)]) (by rw [results_cell_tmp rfl]; simp [go_sem, z0, z1, z2, z3]) rfl ?_
    exact ⟨rfl, ((((bel2 HB1.out hBx).setCell (p := ⟨w.heap.size, 0, none⟩) (Nat.le_refl _) _).setCell (p := ⟨w.heap.size, 1, none⟩) (Nat.le_refl _) _).setCell (p := ⟨w.heap.size, 2, none⟩) (Nat.le_refl _) _).setCell (p := ⟨w.heap.size, 3, none⟩) (Nat.le_refl _) _⟩
set_option maxRecDepth 100000 in
set_option maxHeartbeats 8000000 in
theorem frame_part (s a : W) (t : List UInt8) (w : World) : Calls Tryz.prog 35 #[pcV (.part s a t)] w fun e' w' => e' = .returned (.tuple #[fV (frameP (.part s a t)).1, .int .i64 ((frameP (.part s a t)).2 : Int)]) ∧ Below w.heap.size w w' := by
  have HR := Lib.hid (fun w => partRight_any s a t w)
  have HK := Lib.hid (fun w => partKind_any s a t w)
  have HC := Lib.hid (fun w => checked_any (partR s t) ⟨2, s, a, t⟩ w)
  have HE := Lib.hid (show frameP (.part s a t) = checkedF (partR s t) ⟨2, s, a, t⟩ by
    unfold frameP checkedF
    rw [frameR_part]; rfl)
  rw [HE.out]
  generalize (checkedF (partR s t) ⟨2, s, a, t⟩).2 = cd at *
  obtain ⟨fk, fa, fb, fd, hf⟩ : ∃ fk fa fb fd, (checkedF (partR s t) ⟨2, s, a, t⟩).1 = ⟨fk, fa, fb, fd⟩ := ⟨_, _, _, _, rfl⟩
  rw [hf] at HC ⊢
  clear hf
  generalize partR s t = q at *
  have HA0 := Lib.hid (taHead_Part (.agg #[.int .u32 (vl s), .int .u32 (vl a), .string (bs t)]))
  have HA1 := Lib.hid (taPart_Part (.agg #[.int .u32 (vl s), .int .u32 (vl a), .string (bs t)]))
  unfold partV at HR HK
  unfold fV at HC ⊢
  simp only at HC ⊢
  rw [show pcV (.part s a t) = .iface 81 (.agg #[.int .u32 (vl s), .int .u32 (vl a), .string (bs t)]) from rfl]
  obtain ⟨FB, hFB⟩ : ∃ FB, FB = bs fd := ⟨_, rfl⟩
  rw [← hFB] at HC ⊢
  obtain ⟨T, hT⟩ : ∃ T, T = bs t := ⟨_, rfl⟩
  rw [← hT] at HR HK HC ⊢
  rw [← hT] at HA0
  rw [← hT] at HA1
  clear hT
  have ta0 := HA0.out
  have ta1 := HA1.out
  have hsz1 : (w.alloc (.cells #[.int .i64 0, .int .u32 0, .int .u32 0, .string ⟨#[]⟩] 29)).heap.size = w.heap.size + 1 := by simp
  obtain ⟨w1, hw1⟩ : ∃ w1, w1 = (w.alloc (.cells #[.int .i64 0, .int .u32 0, .int .u32 0, .string ⟨#[]⟩] 29)).alloc (.cells #[.int .u32 (vl s), .int .u32 (vl a), .string T] 81) := ⟨_, rfl⟩
  have HB1 := Lib.hid (show Below w.heap.size w w1 by rw [hw1]; exact bel2 (Geom.bel_alloc _ _) (Geom.bel_alloc _ _))
  have HF1 := Lib.hid (show Var w1 w.heap.size 29 [.int .i64 0, .int .u32 0, .int .u32 0, .string ⟨#[]⟩] by rw [hw1]; exact (Var.new w _ _).alloc _)
  have HP1 := Lib.hid (show Var w1 (w.heap.size + 1) 81 [.int .u32 (vl s), .int .u32 (vl a), .string T] by
    have := Var.new (w.alloc (.cells #[.int .i64 0, .int .u32 0, .int .u32 0, .string ⟨#[]⟩] 29)) 81 [.int .u32 (vl s), .int .u32 (vl a), .string T]
    rw [hsz1] at this
    rw [hw1]; exact this)
  clear hFB
  go_enter Tryz.func35, Tryz.ntmps35
  go_wp2
  rw [← hw1]
  clear hw1 HA0
  refine wp_region_is_tail 14 [27, 28, 29, 30, 31, 32, 33, 34, 35, 36, 37, 38, 39, 40] (fun w' => Below w1.heap.size w1 w')
    [.agg #[.int .u32 (vl s), .int .u32 (vl a), .string T], .bool q, .agg #[.int .u32 (vl s), .int .u32 (vl a), .string T], .int .i64 2, .pointer (some ⟨w.heap.size + 1, 0, none⟩), .int .u32 (vl s), .pointer (some ⟨w.heap.size + 1, 1, none⟩), .int .u32 (vl a), .pointer (some ⟨w.heap.size + 1, 2, none⟩), .string T, .agg #[.int .i64 2, .int .u32 (vl s), .int .u32 (vl a), .string T], .tuple #[.agg #[.int .i64 fk, .int .u32 (vl fa), .int .u32 (vl fb), .string FB], .int .i64 (cd : Int)], .agg #[.int .i64 fk, .int .u32 (vl fa), .int .u32 (vl fb), .string FB], .int .i64 (cd : Int)] (by kernel_rfl) (by kernel_rfl) (by kernel_rfl) (by decide) rfl (by decide) (by simp) (Below.refl _ _).drew ?each ?done
  case each =>
    simp only [List.take_succ_cons, List.take_zero, Each]
    repeat' (first | exact trivial | refine And.intro ?_ ?_)
    all_goals
      intro ys wx hBx hdeps
      simp only [Deps, Region.binds, List.getD_cons_zero, List.getD_cons_succ, forall_const, and_true] at hdeps
      have q0 := (HP1.out.below hBx HP1.out.lt).cell (j := 0) rfl
      have q1 := (HP1.out.below hBx HP1.out.lt).cell (j := 1) rfl
      have q2 := (HP1.out.below hBx HP1.out.lt).cell (j := 2) rfl
      simp only [hdeps, fill, List.foldl_cons, List.foldl_nil, Act.put, List.setIfInBounds_toArray, List.set_cons_succ, List.set_cons_zero]
      first
        | (go_wp2_with fail; exact ⟨_, rfl, rfl, hBx, Below.refl _ _⟩)
        | (go_wp2_with (go_at_call 65; (with_reducible refine (HR.out _).mono ?_); rintro e w3 ⟨rfl, hm⟩); exact ⟨_, rfl, rfl, hBx.trans (hm.mono hBx.size), hm⟩)
        | (go_wp2_with (go_at_call 66; (with_reducible refine (HK.out _).mono ?_); rintro e w3 ⟨rfl, hm⟩); exact ⟨_, rfl, rfl, hBx.trans (hm.mono hBx.size), hm⟩)
        | (go_wp2_with (go_at_call 62; (with_reducible refine (HC.out _).mono ?_); rintro e w3 ⟨rfl, hm⟩); exact ⟨_, rfl, rfl, hBx.trans (hm.mono hBx.size), hm⟩)
  case done =>
    intro ys wx hBx hV
    have h39 : ys 39 = .agg #[.int .i64 fk, .int .u32 (vl fa), .int .u32 (vl fb), .string FB] := hV 12 (by decide)
    have h40 : ys 40 = .int .i64 (cd : Int) := hV 13 (by decide)
    have vf := HF1.out.below hBx HF1.out.lt
    have k0 := vf.cell (j := 0) rfl
    have k1 := vf.cell (j := 1) rfl
    have k2 := vf.cell (j := 2) rfl
    have k3 := vf.cell (j := 3) rfl
    have f0 := vf.frozen 0
    have f1 := vf.frozen 1
    have f2 := vf.frozen 2
    have f3 := vf.frozen 3
    have vr := (((vf.set 0 (.int .i64 fk)).set 1 (.int .u32 (vl fa))).set 2 (.int .u32 (vl fb))).set 3 (.string FB)
    clear hV
    simp only [h39, h40, fill, List.drop_succ_cons, List.drop_zero, List.foldl_cons, List.foldl_nil, Act.put, List.setIfInBounds_toArray, List.set_cons_succ, List.set_cons_zero]
    go_wp2
    have z0 := vr.cell (j := 0) rfl
    have z1 := vr.cell (j := 1) rfl
    have z2 := vr.cell (j := 2) rfl
    have z3 := vr.cell (j := 3) rfl
    clear vr vf k0 k1 k2 k3 f0 f1 f2 f3
    refine bodyPost_ret (v := .tuple #[.agg #[.int .i64 fk, .int .u32 (vl fa), .int .u32 (vl fb), .string FB], .int .i64 (cd : Int)]) (by rw [results_cell_tmp rfl]; simp [go_sem, z0, z1, z2, z3]) rfl ?_
    exact ⟨rfl, ((((bel2 HB1.out hBx).setCell (p := ⟨w.heap.size, 0, none⟩) (Nat.le_refl _) _).setCell (p := ⟨w.heap.size, 1, none⟩) (Nat.le_refl _) _).setCell (p := ⟨w.heap.size, 2, none⟩) (Nat.le_refl _) _).setCell (p := ⟨w.heap.size, 3, none⟩) (Nat.le_refl _) _⟩
set_option maxRecDepth 100000 in
set_option maxHeartbeats 8000000 in
theorem frame_fin (s p v f u z : W) (w : World) : Calls Tryz.prog 35 #[pcV (.fin s p v f u z)] w fun e' w' => e' = .returned (.tuple #[fV (frameP (.fin s p v f u z)).1, .int .i64 ((frameP (.fin s p v f u z)).2 : Int)]) ∧ Below w.heap.size w w' := by
  have HR := Lib.hid (fun w => sealRight_any s p v f u z w)
  have HK := Lib.hid (fun w => sealKind_any s p v f u z w)
  have HC := Lib.hid (fun w => checked_any (sealPR s p v f z) ⟨3, s, p, four v f u z⟩ w)
  have HB4 := Lib.hid (fun w => sealBody_any s p v f u z w)
  have HE := Lib.hid (show frameP (.fin s p v f u z) = checkedF (sealPR s p v f z) ⟨3, s, p, four v f u z⟩ by
    unfold frameP checkedF
    rw [frameR_fin]; rfl)
  rw [HE.out]
  generalize (checkedF (sealPR s p v f z) ⟨3, s, p, four v f u z⟩).2 = cd at *
  obtain ⟨fk, fa, fb, fd, hf⟩ : ∃ fk fa fb fd, (checkedF (sealPR s p v f z) ⟨3, s, p, four v f u z⟩).1 = ⟨fk, fa, fb, fd⟩ := ⟨_, _, _, _, rfl⟩
  rw [hf] at HC ⊢
  clear hf
  generalize sealPR s p v f z = q at *
  have HA0 := Lib.hid (taHead_Seal (.agg #[.int .u32 (vl s), .int .u32 (vl p), .int .u32 (vl v), .int .u32 (vl f), .int .u32 (vl u), .int .u32 (vl z)]))
  have HA1 := Lib.hid (taPart_Seal (.agg #[.int .u32 (vl s), .int .u32 (vl p), .int .u32 (vl v), .int .u32 (vl f), .int .u32 (vl u), .int .u32 (vl z)]))
  have HA2 := Lib.hid (taSeal_Seal (.agg #[.int .u32 (vl s), .int .u32 (vl p), .int .u32 (vl v), .int .u32 (vl f), .int .u32 (vl u), .int .u32 (vl z)]))
  unfold sealV at HR HK HB4
  unfold fV at HC ⊢
  simp only at HC ⊢
  rw [show pcV (.fin s p v f u z) = .iface 46 (.agg #[.int .u32 (vl s), .int .u32 (vl p), .int .u32 (vl v), .int .u32 (vl f), .int .u32 (vl u), .int .u32 (vl z)]) from rfl]
  obtain ⟨FB, hFB⟩ : ∃ FB, FB = bs fd := ⟨_, rfl⟩
  rw [← hFB] at HC ⊢
  obtain ⟨T4, hT4⟩ : ∃ T, T = bs (four v f u z) := ⟨_, rfl⟩
  rw [← hT4] at HB4 HC
  clear hT4
  have ta0 := HA0.out
  have ta1 := HA1.out
  have ta2 := HA2.out
  have hsz1 : (w.alloc (.cells #[.int .i64 0, .int .u32 0, .int .u32 0, .string ⟨#[]⟩] 29)).heap.size = w.heap.size + 1 := by simp
  obtain ⟨w1, hw1⟩ : ∃ w1, w1 = (w.alloc (.cells #[.int .i64 0, .int .u32 0, .int .u32 0, .string ⟨#[]⟩] 29)).alloc (.cells #[.int .u32 (vl s), .int .u32 (vl p), .int .u32 (vl v), .int .u32 (vl f), .int .u32 (vl u), .int .u32 (vl z)] 46) := ⟨_, rfl⟩
  have HB1 := Lib.hid (show Below w.heap.size w w1 by rw [hw1]; exact bel2 (Geom.bel_alloc _ _) (Geom.bel_alloc _ _))
  have HF1 := Lib.hid (show Var w1 w.heap.size 29 [.int .i64 0, .int .u32 0, .int .u32 0, .string ⟨#[]⟩] by rw [hw1]; exact (Var.new w _ _).alloc _)
  have HP1 := Lib.hid (show Var w1 (w.heap.size + 1) 46 [.int .u32 (vl s), .int .u32 (vl p), .int .u32 (vl v), .int .u32 (vl f), .int .u32 (vl u), .int .u32 (vl z)] by
    have := Var.new (w.alloc (.cells #[.int .i64 0, .int .u32 0, .int .u32 0, .string ⟨#[]⟩] 29)) 46 [.int .u32 (vl s), .int .u32 (vl p), .int .u32 (vl v), .int .u32 (vl f), .int .u32 (vl u), .int .u32 (vl z)]
    rw [hsz1] at this
    rw [hw1]; exact this)
  clear hFB
  go_enter Tryz.func35, Tryz.ntmps35
  go_wp2
  rw [← hw1]
  clear hw1 HA0
  refine wp_region_is_tail 14 [44, 45, 46, 47, 48, 49, 50, 51, 52, 53, 54, 55, 56, 57] (fun w' => Below w1.heap.size w1 w')
    [.agg #[.int .u32 (vl s), .int .u32 (vl p), .int .u32 (vl v), .int .u32 (vl f), .int .u32 (vl u), .int .u32 (vl z)], .bool q, .agg #[.int .u32 (vl s), .int .u32 (vl p), .int .u32 (vl v), .int .u32 (vl f), .int .u32 (vl u), .int .u32 (vl z)], .int .i64 3, .pointer (some ⟨w.heap.size + 1, 0, none⟩), .int .u32 (vl s), .pointer (some ⟨w.heap.size + 1, 1, none⟩), .int .u32 (vl p), .agg #[.int .u32 (vl s), .int .u32 (vl p), .int .u32 (vl v), .int .u32 (vl f), .int .u32 (vl u), .int .u32 (vl z)], .string T4, .agg #[.int .i64 3, .int .u32 (vl s), .int .u32 (vl p), .string T4], .tuple #[.agg #[.int .i64 fk, .int .u32 (vl fa), .int .u32 (vl fb), .string FB], .int .i64 (cd : Int)], .agg #[.int .i64 fk, .int .u32 (vl fa), .int .u32 (vl fb), .string FB], .int .i64 (cd : Int)] (by kernel_rfl) (by kernel_rfl) (by kernel_rfl) (by decide) rfl (by decide) (by simp) (Below.refl _ _).drew ?each ?done
  case each =>
    simp only [List.take_succ_cons, List.take_zero, Each]
    repeat' (first | exact trivial | refine And.intro ?_ ?_)
    all_goals
      intro ys wx hBx hdeps
      simp only [Deps, Region.binds, List.getD_cons_zero, List.getD_cons_succ, forall_const, and_true] at hdeps
      have q0 := (HP1.out.below hBx HP1.out.lt).cell (j := 0) rfl
      have q1 := (HP1.out.below hBx HP1.out.lt).cell (j := 1) rfl
      have q2 := (HP1.out.below hBx HP1.out.lt).cell (j := 2) rfl
      have q3 := (HP1.out.below hBx HP1.out.lt).cell (j := 3) rfl
      have q4 := (HP1.out.below hBx HP1.out.lt).cell (j := 4) rfl
      have q5 := (HP1.out.below hBx HP1.out.lt).cell (j := 5) rfl
      simp only [hdeps, fill, List.foldl_cons, List.foldl_nil, Act.put, List.setIfInBounds_toArray, List.set_cons_succ, List.set_cons_zero]
      first
        | (go_wp2_with fail; exact ⟨_, rfl, rfl, hBx, Below.refl _ _⟩)
        | (go_wp2_with (go_at_call 67; (with_reducible refine (HR.out _).mono ?_); rintro e w3 ⟨rfl, hm⟩); exact ⟨_, rfl, rfl, hBx.trans (hm.mono hBx.size), hm⟩)
        | (go_wp2_with (go_at_call 68; (with_reducible refine (HK.out _).mono ?_); rintro e w3 ⟨rfl, hm⟩); exact ⟨_, rfl, rfl, hBx.trans (hm.mono hBx.size), hm⟩)
        | (go_wp2_with (go_at_call 62; (with_reducible refine (HC.out _).mono ?_); rintro e w3 ⟨rfl, hm⟩); exact ⟨_, rfl, rfl, hBx.trans (hm.mono hBx.size), hm⟩)
        | (go_wp2_with (go_at_call 69; (with_reducible refine (HB4.out _).mono ?_); rintro e w3 ⟨rfl, hm⟩); exact ⟨_, rfl, rfl, hBx.trans (hm.mono hBx.size), hm⟩)
  case done =>
    intro ys wx hBx hV
    have h56 : ys 56 = .agg #[.int .i64 fk, .int .u32 (vl fa), .int .u32 (vl fb), .string FB] := hV 12 (by decide)
    have h57 : ys 57 = .int .i64 (cd : Int) := hV 13 (by decide)
    have vf := HF1.out.below hBx HF1.out.lt
    have k0 := vf.cell (j := 0) rfl
    have k1 := vf.cell (j := 1) rfl
    have k2 := vf.cell (j := 2) rfl
    have k3 := vf.cell (j := 3) rfl
    have f0 := vf.frozen 0
    have f1 := vf.frozen 1
    have f2 := vf.frozen 2
    have f3 := vf.frozen 3
    have vr := (((vf.set 0 (.int .i64 fk)).set 1 (.int .u32 (vl fa))).set 2 (.int .u32 (vl fb))).set 3 (.string FB)
    clear hV
    simp only [h56, h57, fill, List.drop_succ_cons, List.drop_zero, List.foldl_cons, List.foldl_nil, Act.put, List.setIfInBounds_toArray, List.set_cons_succ, List.set_cons_zero]
    go_wp2
    have z0 := vr.cell (j := 0) rfl
    have z1 := vr.cell (j := 1) rfl
    have z2 := vr.cell (j := 2) rfl
    have z3 := vr.cell (j := 3) rfl
    clear vr vf k0 k1 k2 k3 f0 f1 f2 f3
    refine bodyPost_ret (v := .tuple #[.agg #[.int .i64 fk, .int .u32 (vl fa), .int .u32 (vl fb), .string FB], .int .i64 (cd : Int)]) (by rw [results_cell_tmp rfl]; simp [go_sem, z0, z1, z2, z3]) rfl ?_
    exact ⟨rfl, ((((bel2 HB1.out hBx).setCell (p := ⟨w.heap.size, 0, none⟩) (Nat.le_refl _) _).setCell (p := ⟨w.heap.size, 1, none⟩) (Nat.le_refl _) _).setCell (p := ⟨w.heap.size, 2, none⟩) (Nat.le_refl _) _).setCell (p := ⟨w.heap.size, 3, none⟩) (Nat.le_refl _) _⟩
set_option maxRecDepth 100000 in
set_option maxHeartbeats 8000000 in
theorem frame_floor (s g f : W) (w : World) : Calls Tryz.prog 35 #[pcV (.floor s g f)] w fun e' w' => e' = .returned (.tuple #[fV (frameP (.floor s g f)).1, .int .i64 ((frameP (.floor s g f)).2 : Int)]) ∧ Below w.heap.size w w' := by
  have HR := Lib.hid (fun w => floorRight_any s g f w)
  have HK := Lib.hid (fun w => floorKind_any s g f w)
  have HC := Lib.hid (fun w => checked_any (floorPR s f) ⟨4, s, g, CrcM.put f.toNat⟩ w)
  have HB4 : Hid (∀ w, Calls Tryz.prog 72 #[.int .u32 (vl f)] w fun e' w' => e' = .returned (.string (bs (CrcM.put f.toNat))) ∧ Below w.heap.size w w') := fun w => Crc.put_any f w
  have HE := Lib.hid (show frameP (.floor s g f) = checkedF (floorPR s f) ⟨4, s, g, CrcM.put f.toNat⟩ by
    unfold frameP checkedF
    rw [frameR_floor]; rfl)
  rw [HE.out]
  generalize (checkedF (floorPR s f) ⟨4, s, g, CrcM.put f.toNat⟩).2 = cd at *
  obtain ⟨fk, fa, fb, fd, hf⟩ : ∃ fk fa fb fd, (checkedF (floorPR s f) ⟨4, s, g, CrcM.put f.toNat⟩).1 = ⟨fk, fa, fb, fd⟩ := ⟨_, _, _, _, rfl⟩
  rw [hf] at HC ⊢
  clear hf
  generalize floorPR s f = q at *
  have HA0 := Lib.hid (taHead_Floor (.agg #[.int .u32 (vl s), .int .u32 (vl g), .int .u32 (vl f)]))
  have HA1 := Lib.hid (taPart_Floor (.agg #[.int .u32 (vl s), .int .u32 (vl g), .int .u32 (vl f)]))
  have HA2 := Lib.hid (taSeal_Floor (.agg #[.int .u32 (vl s), .int .u32 (vl g), .int .u32 (vl f)]))
  have HA3 := Lib.hid (taFloor_Floor (.agg #[.int .u32 (vl s), .int .u32 (vl g), .int .u32 (vl f)]))
  unfold floorV at HR HK
  unfold fV at HC ⊢
  simp only at HC ⊢
  rw [show pcV (.floor s g f) = .iface 112 (.agg #[.int .u32 (vl s), .int .u32 (vl g), .int .u32 (vl f)]) from rfl]
  obtain ⟨FB, hFB⟩ : ∃ FB, FB = bs fd := ⟨_, rfl⟩
  rw [← hFB] at HC ⊢
  obtain ⟨T4, hT4⟩ : ∃ T, T = bs (CrcM.put f.toNat) := ⟨_, rfl⟩
  rw [← hT4] at HB4 HC
  clear hT4
  have ta0 := HA0.out
  have ta1 := HA1.out
  have ta2 := HA2.out
  have ta3 := HA3.out
  have hsz1 : (w.alloc (.cells #[.int .i64 0, .int .u32 0, .int .u32 0, .string ⟨#[]⟩] 29)).heap.size = w.heap.size + 1 := by simp
  obtain ⟨w1, hw1⟩ : ∃ w1, w1 = (w.alloc (.cells #[.int .i64 0, .int .u32 0, .int .u32 0, .string ⟨#[]⟩] 29)).alloc (.cells #[.int .u32 (vl s), .int .u32 (vl g), .int .u32 (vl f)] 112) := ⟨_, rfl⟩
  have HB1 := Lib.hid (show Below w.heap.size w w1 by rw [hw1]; exact bel2 (Geom.bel_alloc _ _) (Geom.bel_alloc _ _))
  have HF1 := Lib.hid (show Var w1 w.heap.size 29 [.int .i64 0, .int .u32 0, .int .u32 0, .string ⟨#[]⟩] by rw [hw1]; exact (Var.new w _ _).alloc _)
  have HP1 := Lib.hid (show Var w1 (w.heap.size + 1) 112 [.int .u32 (vl s), .int .u32 (vl g), .int .u32 (vl f)] by
    have := Var.new (w.alloc (.cells #[.int .i64 0, .int .u32 0, .int .u32 0, .string ⟨#[]⟩] 29)) 112 [.int .u32 (vl s), .int .u32 (vl g), .int .u32 (vl f)]
    rw [hsz1] at this
    rw [hw1]; exact this)
  clear hFB
  go_enter Tryz.func35, Tryz.ntmps35
  go_wp2
  rw [← hw1]
  clear hw1 HA0
  refine wp_region_is_tail 15 [61, 62, 63, 64, 65, 66, 67, 68, 69, 70, 71, 72, 73, 74, 75] (fun w' => Below w1.heap.size w1 w')
    [.agg #[.int .u32 (vl s), .int .u32 (vl g), .int .u32 (vl f)], .bool q, .agg #[.int .u32 (vl s), .int .u32 (vl g), .int .u32 (vl f)], .int .i64 4, .pointer (some ⟨w.heap.size + 1, 0, none⟩), .int .u32 (vl s), .pointer (some ⟨w.heap.size + 1, 1, none⟩), .int .u32 (vl g), .pointer (some ⟨w.heap.size + 1, 2, none⟩), .int .u32 (vl f), .string T4, .agg #[.int .i64 4, .int .u32 (vl s), .int .u32 (vl g), .string T4], .tuple #[.agg #[.int .i64 fk, .int .u32 (vl fa), .int .u32 (vl fb), .string FB], .int .i64 (cd : Int)], .agg #[.int .i64 fk, .int .u32 (vl fa), .int .u32 (vl fb), .string FB], .int .i64 (cd : Int)] (by kernel_rfl) (by kernel_rfl) (by kernel_rfl) (by decide) rfl (by decide) (by simp) (Below.refl _ _).drew ?each ?done
  case each =>
    simp only [List.take_succ_cons, List.take_zero, Each]
    repeat' (first | exact trivial | refine And.intro ?_ ?_)
    all_goals
      intro ys wx hBx hdeps
      simp only [Deps, Region.binds, List.getD_cons_zero, List.getD_cons_succ, forall_const, and_true] at hdeps
      have q0 := (HP1.out.below hBx HP1.out.lt).cell (j := 0) rfl
      have q1 := (HP1.out.below hBx HP1.out.lt).cell (j := 1) rfl
      have q2 := (HP1.out.below hBx HP1.out.lt).cell (j := 2) rfl
      simp only [hdeps, fill, List.foldl_cons, List.foldl_nil, Act.put, List.setIfInBounds_toArray, List.set_cons_succ, List.set_cons_zero]
      first
        | (go_wp2_with fail; exact ⟨_, rfl, rfl, hBx, Below.refl _ _⟩)
        | (go_wp2_with (go_at_call 70; (with_reducible refine (HR.out _).mono ?_); rintro e w3 ⟨rfl, hm⟩); exact ⟨_, rfl, rfl, hBx.trans (hm.mono hBx.size), hm⟩)
        | (go_wp2_with (go_at_call 71; (with_reducible refine (HK.out _).mono ?_); rintro e w3 ⟨rfl, hm⟩); exact ⟨_, rfl, rfl, hBx.trans (hm.mono hBx.size), hm⟩)
        | (go_wp2_with (go_at_call 62; (with_reducible refine (HC.out _).mono ?_); rintro e w3 ⟨rfl, hm⟩); exact ⟨_, rfl, rfl, hBx.trans (hm.mono hBx.size), hm⟩)
        | (go_wp2_with (go_at_call 72; (with_reducible refine (HB4.out _).mono ?_); rintro e w3 ⟨rfl, hm⟩); exact ⟨_, rfl, rfl, hBx.trans (hm.mono hBx.size), hm⟩)
  case done =>
    intro ys wx hBx hV
    have h74 : ys 74 = .agg #[.int .i64 fk, .int .u32 (vl fa), .int .u32 (vl fb), .string FB] := hV 13 (by decide)
    have h75 : ys 75 = .int .i64 (cd : Int) := hV 14 (by decide)
    have vf := HF1.out.below hBx HF1.out.lt
    have k0 := vf.cell (j := 0) rfl
    have k1 := vf.cell (j := 1) rfl
    have k2 := vf.cell (j := 2) rfl
    have k3 := vf.cell (j := 3) rfl
    have f0 := vf.frozen 0
    have f1 := vf.frozen 1
    have f2 := vf.frozen 2
    have f3 := vf.frozen 3
    have vr := (((vf.set 0 (.int .i64 fk)).set 1 (.int .u32 (vl fa))).set 2 (.int .u32 (vl fb))).set 3 (.string FB)
    clear hV
    simp only [h74, h75, fill, List.drop_succ_cons, List.drop_zero, List.foldl_cons, List.foldl_nil, Act.put, List.setIfInBounds_toArray, List.set_cons_succ, List.set_cons_zero]
    go_wp2
    have z0 := vr.cell (j := 0) rfl
    have z1 := vr.cell (j := 1) rfl
    have z2 := vr.cell (j := 2) rfl
    have z3 := vr.cell (j := 3) rfl
    clear vr vf k0 k1 k2 k3 f0 f1 f2 f3
    refine bodyPost_ret (v := .tuple #[.agg #[.int .i64 fk, .int .u32 (vl fa), .int .u32 (vl fb), .string FB], .int .i64 (cd : Int)]) (by rw [results_cell_tmp rfl]; simp [go_sem, z0, z1, z2, z3]) rfl ?_
    exact ⟨rfl, ((((bel2 HB1.out hBx).setCell (p := ⟨w.heap.size, 0, none⟩) (Nat.le_refl _) _).setCell (p := ⟨w.heap.size, 1, none⟩) (Nat.le_refl _) _).setCell (p := ⟨w.heap.size, 2, none⟩) (Nat.le_refl _) _).setCell (p := ⟨w.heap.size, 3, none⟩) (Nat.le_refl _) _⟩
set_option maxRecDepth 100000 in
set_option maxHeartbeats 8000000 in
theorem frame_none (w : World) : Calls Tryz.prog 35 #[pcV .none] w fun e' w' => e' = .returned (.tuple #[fV (frameP .none).1, .int .i64 ((frameP .none).2 : Int)]) ∧ Below w.heap.size w w' := by
  rw [frameP_none]
  unfold fV zeroF
  rw [show pcV .none = .nilIface from rfl]
  have ta0 := taHead_nil
  have ta1 := taPart_nil
  have ta2 := taSeal_nil
  have ta3 := taFloor_nil
  show Calls Tryz.prog _ _ _ fun e' w' => e' = .returned (.tuple #[.agg #[.int .i64 0, .int .u32 0, .int .u32 0, .string ⟨#[]⟩], .int .i64 2]) ∧ Below w.heap.size w w'
  go_enter Tryz.func35, Tryz.ntmps35
  go_wp2
  refine bodyPost_ret (v := .tuple #[.agg #[.int .i64 0, .int .u32 0, .int .u32 0, .string ⟨#[]⟩], .int .i64 2]) (by rw [results_cell_tmp rfl]; simp [go_sem]) rfl ?_
  exact ⟨rfl, Geom.bel_alloc _ _⟩
theorem frame_any (p : Pc) (w : World) : Calls Tryz.prog 35 #[pcV p] w fun e' w' => e' = .returned (.tuple #[fV (frameP p).1, .int .i64 ((frameP p).2 : Int)]) ∧ Below w.heap.size w w' := by
  rcases p with _ | ⟨e, r⟩ | ⟨s, a, t⟩ | ⟨s, p, v, f, u, z⟩ | ⟨s, g, f⟩
  · exact frame_none w
  · exact frame_head e r w
  · exact frame_part s a t w
  · exact frame_fin s p v f u z w
  · exact frame_floor s g f w
end Go.Proofs.YtligapgjdpdihaaGreatDoor.Piece
/-
  What package group's isCount, sealOf and partOf answer.
-/
set_option linter.unusedVariables false
set_option linter.unusedSimpArgs false
namespace Go.Proofs.YtligapgjdpdihaaGreatDoor.Group
open Go.RowKit
open CrcM (W)
open Crc (le4 sumOf vl wd putS)
open Flash (bs bs_size bs_list list_bs cut)
open Go.Proofs.YtligapgjdpdihaaGreatDoor.Frame (Fr zeroF fV fC bel2 below_drewN)
open Piece (pieceR isSeqB ofF ofF_ok ofF_not pcOf pcV Pc of_any asPart_any asSeal_any asPartV asSealV isPartP isSealP sealV partV)
open Tup Bytes Own
open Go.Proofs.YtligapgjdpdihaaGreatDoor.Region (fill Then Deps Each wp_region_is wp_region_is_tail wp_region_each wp_region_tail)
set_option maxRecDepth 100000 in
theorem isCount_any (n : W) (c : Nat) (hc : c ≤ 1000000000000) (w : World) : Calls Tryz.prog 16 #[.int .u32 (vl n), .int .i64 (c : Int)] w fun e w' => e = .returned (.bool (decide (vl n = (c : Int)))) ∧ w = w' := by
  have hn := Crc.vl_range n
  have h1 : vl n % 18446744073709551616 = vl n := by omega
  have h2 : (c : Int) % 18446744073709551616 = (c : Int) := by omega
  have HE := Lib.hid (Piece.eqI (vl n) (c : Int))
  go_enter Tryz.func16, Tryz.ntmps16
  go_wp2
  go_ret
  exact ⟨by rw [← HE.out]; rfl, rfl⟩
set_option maxRecDepth 100000 in
set_option maxHeartbeats 8000000 in
theorem sealOf_core (kd : Int) (a b : W) (B : ByteArray) (pv : Value) (c : Int) (z0 z1 z2 z3 z4 z5 : Int) (ok : Bool)
    (HO : Hid (∀ w, Calls Tryz.prog 40 #[.agg #[.int .i64 kd, .int .u32 (vl a), .int .u32 (vl b), .string B]] w fun e w' => e = .returned (.tuple #[pv, .int .i64 c]) ∧ Below w.heap.size w w'))
    (HA : Hid (∀ w, Calls Tryz.prog 41 #[pv] w fun e w' => e = .returned (.tuple #[.agg #[.int .u32 z0, .int .u32 z1, .int .u32 z2, .int .u32 z3, .int .u32 z4, .int .u32 z5], .bool ok]) ∧ Below w.heap.size w w')) (w : World) :
    Calls Tryz.prog 14 #[.agg #[.int .i64 kd, .int .u32 (vl a), .int .u32 (vl b), .string B]] w fun e w' => e = .returned (.tuple #[.agg #[.int .u32 z0, .int .u32 z1, .int .u32 z2, .int .u32 z3, .int .u32 z4, .int .u32 z5], .bool ok]) ∧ Below w.heap.size w w' := by
  go_enter Tryz.func14, Tryz.ntmps14
  go_wp2_with (first
    | (go_at_call 40; ((with_reducible refine (HO.out _).mono ?_); rintro e w2 ⟨rfl, bz⟩; obtain ⟨w1, hw1⟩ : ∃ wx, wx = ((w.alloc (.cells #[.int .i64 kd, .int .u32 (vl a), .int .u32 (vl b), .string B] 29)).alloc (.cells #[.int .u32 0, .int .u32 0, .int .u32 0, .int .u32 0, .int .u32 0, .int .u32 0] 46)) := ⟨_, rfl⟩; have bw1 := Lib.hid (show Below w.heap.size w w1 by rw [hw1]; exact (bel2 (Geom.bel_alloc _ _) (Geom.bel_alloc _ _))); have zw1 := Lib.hid (show w.heap.size + 2 ≤ w1.heap.size by rw [hw1]; simp); have vw1f := Lib.hid (show Var w1 (w.heap.size) 29 [.int .i64 kd, .int .u32 (vl a), .int .u32 (vl b), .string B] by rw [hw1]; exact ((Var.new w 29 [.int .i64 kd, .int .u32 (vl a), .int .u32 (vl b), .string B]).alloc _)); have vw1r := Lib.hid (show Var w1 (w.heap.size + 1) 46 [.int .u32 0, .int .u32 0, .int .u32 0, .int .u32 0, .int .u32 0, .int .u32 0] by rw [hw1]; exact (show Var ((w.alloc (.cells #[.int .i64 kd, .int .u32 (vl a), .int .u32 (vl b), .string B] 29)).alloc (.cells #[.int .u32 0, .int .u32 0, .int .u32 0, .int .u32 0, .int .u32 0, .int .u32 0] 46)) (w.heap.size + 1) 46 [.int .u32 0, .int .u32 0, .int .u32 0, .int .u32 0, .int .u32 0, .int .u32 0] from by have h := Var.new (w.alloc (.cells #[.int .i64 kd, .int .u32 (vl a), .int .u32 (vl b), .string B] 29)) 46 [.int .u32 0, .int .u32 0, .int .u32 0, .int .u32 0, .int .u32 0, .int .u32 0]; rw [show (w.alloc (.cells #[.int .i64 kd, .int .u32 (vl a), .int .u32 (vl b), .string B] 29)).heap.size = w.heap.size + 1 by simp] at h; exact h)); have hbel : Below w1.heap.size w1 w2 := (by rw [hw1]; exact bz); clear bz; have bw2 := Lib.hid (bel2 bw1.out hbel); have zw2 := Lib.hid hbel.size; have vw2f := Lib.hid (vw1f.out.below hbel vw1f.out.lt); have vw2r := Lib.hid (vw1r.out.below hbel vw1r.out.lt); clear hbel))
    | (go_at_call 41; ((with_reducible refine (HA.out _).mono ?_); rintro e w3 ⟨rfl, bz⟩; have hbel : Below w2.heap.size w2 w3 := (by exact bz); clear bz; have bw3 := Lib.hid (bel2 bw2.out hbel); have zw3 := Lib.hid hbel.size; have vw3f := Lib.hid (vw2f.out.below hbel vw2f.out.lt); have vw3r := Lib.hid (vw2r.out.below hbel vw2r.out.lt); clear hbel; have vf1 := (show Var w3 (w.heap.size + 1) 46 [.int .u32 0, .int .u32 0, .int .u32 0, .int .u32 0, .int .u32 0, .int .u32 0] from vw3r.out); have c2 := vf1.cell (j := 0) rfl; have c3 := vf1.cell (j := 1) rfl; have c4 := vf1.cell (j := 2) rfl; have c5 := vf1.cell (j := 3) rfl; have c6 := vf1.cell (j := 4) rfl; have c7 := vf1.cell (j := 5) rfl; clear vf1; have vf8 := (show Var w3 (w.heap.size + 1) 46 [.int .u32 0, .int .u32 0, .int .u32 0, .int .u32 0, .int .u32 0, .int .u32 0] from vw3r.out); have f9 := vf8.frozen 0; have f10 := vf8.frozen 1; have f11 := vf8.frozen 2; have f12 := vf8.frozen 3; have f13 := vf8.frozen 4; have f14 := vf8.frozen 5; clear vf8)))
  have vf15 := (show Var ((((((w3.setCell ⟨w.heap.size + 1, 0, none⟩ (.int .u32 z0)).setCell ⟨w.heap.size + 1, 1, none⟩ (.int .u32 z1)).setCell ⟨w.heap.size + 1, 2, none⟩ (.int .u32 z2)).setCell ⟨w.heap.size + 1, 3, none⟩ (.int .u32 z3)).setCell ⟨w.heap.size + 1, 4, none⟩ (.int .u32 z4)).setCell ⟨w.heap.size + 1, 5, none⟩ (.int .u32 z5)) (w.heap.size + 1) 46 [.int .u32 z0, .int .u32 z1, .int .u32 z2, .int .u32 z3, .int .u32 z4, .int .u32 z5] from ((((((vw3r.out.set 0 (.int .u32 z0)).set 1 (.int .u32 z1)).set 2 (.int .u32 z2)).set 3 (.int .u32 z3)).set 4 (.int .u32 z4)).set 5 (.int .u32 z5)))
  have c16 := vf15.cell (j := 0) rfl
  have c17 := vf15.cell (j := 1) rfl
  have c18 := vf15.cell (j := 2) rfl
  have c19 := vf15.cell (j := 3) rfl
  have c20 := vf15.cell (j := 4) rfl
  have c21 := vf15.cell (j := 5) rfl
  clear vf15
  refine bodyPost_ret (v := .tuple #[.agg #[.int .u32 z0, .int .u32 z1, .int .u32 z2, .int .u32 z3, .int .u32 z4, .int .u32 z5], .bool ok]) (by rw [results_cell_tmp rfl]; simp [go_sem, c16, c17, c18, c19, c20, c21]) rfl ?_
  exact ⟨rfl, ((((((bw3.out.setCell (p := ⟨w.heap.size + 1, 0, none⟩) (by have := zw1.out; have := zw2.out; have := zw3.out; simp only; omega) _).setCell (p := ⟨w.heap.size + 1, 1, none⟩) (by have := zw1.out; have := zw2.out; have := zw3.out; simp only; omega) _).setCell (p := ⟨w.heap.size + 1, 2, none⟩) (by have := zw1.out; have := zw2.out; have := zw3.out; simp only; omega) _).setCell (p := ⟨w.heap.size + 1, 3, none⟩) (by have := zw1.out; have := zw2.out; have := zw3.out; simp only; omega) _).setCell (p := ⟨w.heap.size + 1, 4, none⟩) (by have := zw1.out; have := zw2.out; have := zw3.out; simp only; omega) _).setCell (p := ⟨w.heap.size + 1, 5, none⟩) (by have := zw1.out; have := zw2.out; have := zw3.out; simp only; omega) _)⟩
theorem sealOf_yes (f : Fr) (hs : f.body.length ≤ maxLen) (hr : pieceR f = true) (hk : f.kind = 3) (w : World) :
    Calls Tryz.prog 14 #[fV f] w fun e w' => e = .returned (.tuple #[sealV f.a f.b (wd (le4 f.body 0)) (wd (le4 f.body 4)) (wd (le4 f.body 8)) (wd (le4 f.body 12)), .bool true]) ∧ Below w.heap.size w w' := by
  have HO := fun w => of_any f hs w
  have hp : pcOf f = .fin f.a f.b (wd (le4 f.body 0)) (wd (le4 f.body 4)) (wd (le4 f.body 8)) (wd (le4 f.body 12)) := by unfold pcOf; rw [if_neg (by omega), if_neg (by omega), if_pos hk]
  rw [ofF_ok hr, hp] at HO
  exact sealOf_core f.kind f.a f.b (bs f.body) _ _ _ _ _ _ _ _ true HO (fun w => asSeal_any (.fin f.a f.b (wd (le4 f.body 0)) (wd (le4 f.body 4)) (wd (le4 f.body 8)) (wd (le4 f.body 12))) w) w
theorem sealOf_zero (p : Pc) (h : isSealP p = false) : asSealV p = .agg #[.int .u32 0, .int .u32 0, .int .u32 0, .int .u32 0, .int .u32 0, .int .u32 0] := by
  cases p <;> first | rfl | cases h
theorem sealOf_not (f : Fr) (hs : f.body.length ≤ maxLen) (hn : pieceR f = false ∨ f.kind ≠ 3) (w : World) :
    Calls Tryz.prog 14 #[fV f] w fun e w' => e = .returned (.tuple #[.agg #[.int .u32 0, .int .u32 0, .int .u32 0, .int .u32 0, .int .u32 0, .int .u32 0], .bool false]) ∧ Below w.heap.size w w' := by
  have HO := fun w => of_any f hs w
  have HA := fun w => asSeal_any (ofF f).1 w
  have hz : isSealP (ofF f).1 = false := by
    cases hr : pieceR f with
    | false => rw [ofF_not hr]; rfl
    | true =>
      rw [ofF_ok hr]
      have hk : f.kind ≠ 3 := by
        rcases hn with h | h
        · rw [hr] at h; cases h
        · exact h
      show isSealP (pcOf f) = false
      unfold pcOf
      by_cases k1 : f.kind = 1
      · rw [if_pos k1]; rfl
      rw [if_neg k1]
      by_cases k2 : f.kind = 2
      · rw [if_pos k2]; rfl
      rw [if_neg k2]
      by_cases k3 : f.kind = 3
      · exact absurd k3 hk
      rw [if_neg k3]
      rfl
  rw [sealOf_zero _ hz, hz] at HA
  exact sealOf_core f.kind f.a f.b (bs f.body) _ _ _ _ _ _ _ _ false HO HA w
set_option maxRecDepth 100000 in
set_option maxHeartbeats 8000000 in
theorem partOf_core (kd : Int) (a b : W) (B : ByteArray) (pv : Value) (c : Int) (z0 z1 : Int) (S : ByteArray) (ok : Bool)
    (HO : Hid (∀ w, Calls Tryz.prog 40 #[.agg #[.int .i64 kd, .int .u32 (vl a), .int .u32 (vl b), .string B]] w fun e w' => e = .returned (.tuple #[pv, .int .i64 c]) ∧ Below w.heap.size w w'))
    (HA : Hid (∀ w, Calls Tryz.prog 76 #[pv] w fun e w' => e = .returned (.tuple #[.agg #[.int .u32 z0, .int .u32 z1, .string S], .bool ok]) ∧ Below w.heap.size w w')) (w : World) :
    Calls Tryz.prog 42 #[.agg #[.int .i64 kd, .int .u32 (vl a), .int .u32 (vl b), .string B]] w fun e w' => e = .returned (.tuple #[.agg #[.int .u32 z0, .int .u32 z1, .string S], .bool ok]) ∧ Below w.heap.size w w' := by
  go_enter Tryz.func42, Tryz.ntmps42
  go_wp2_with (first
    | (go_at_call 40; ((with_reducible refine (HO.out _).mono ?_); rintro e w2 ⟨rfl, bz⟩; obtain ⟨w1, hw1⟩ : ∃ wx, wx = ((w.alloc (.cells #[.int .i64 kd, .int .u32 (vl a), .int .u32 (vl b), .string B] 29)).alloc (.cells #[.int .u32 0, .int .u32 0, .string ⟨#[]⟩] 81)) := ⟨_, rfl⟩; have bw1 := Lib.hid (show Below w.heap.size w w1 by rw [hw1]; exact (bel2 (Geom.bel_alloc _ _) (Geom.bel_alloc _ _))); have zw1 := Lib.hid (show w.heap.size + 2 ≤ w1.heap.size by rw [hw1]; simp); have vw1f := Lib.hid (show Var w1 (w.heap.size) 29 [.int .i64 kd, .int .u32 (vl a), .int .u32 (vl b), .string B] by rw [hw1]; exact ((Var.new w 29 [.int .i64 kd, .int .u32 (vl a), .int .u32 (vl b), .string B]).alloc _)); have vw1r := Lib.hid (show Var w1 (w.heap.size + 1) 81 [.int .u32 0, .int .u32 0, .string ⟨#[]⟩] by rw [hw1]; exact (show Var ((w.alloc (.cells #[.int .i64 kd, .int .u32 (vl a), .int .u32 (vl b), .string B] 29)).alloc (.cells #[.int .u32 0, .int .u32 0, .string ⟨#[]⟩] 81)) (w.heap.size + 1) 81 [.int .u32 0, .int .u32 0, .string ⟨#[]⟩] from by have h := Var.new (w.alloc (.cells #[.int .i64 kd, .int .u32 (vl a), .int .u32 (vl b), .string B] 29)) 81 [.int .u32 0, .int .u32 0, .string ⟨#[]⟩]; rw [show (w.alloc (.cells #[.int .i64 kd, .int .u32 (vl a), .int .u32 (vl b), .string B] 29)).heap.size = w.heap.size + 1 by simp] at h; exact h)); have hbel : Below w1.heap.size w1 w2 := (by rw [hw1]; exact bz); clear bz; have bw2 := Lib.hid (bel2 bw1.out hbel); have zw2 := Lib.hid hbel.size; have vw2f := Lib.hid (vw1f.out.below hbel vw1f.out.lt); have vw2r := Lib.hid (vw1r.out.below hbel vw1r.out.lt); clear hbel))
    | (go_at_call 76; ((with_reducible refine (HA.out _).mono ?_); rintro e w3 ⟨rfl, bz⟩; have hbel : Below w2.heap.size w2 w3 := (by exact bz); clear bz; have bw3 := Lib.hid (bel2 bw2.out hbel); have zw3 := Lib.hid hbel.size; have vw3f := Lib.hid (vw2f.out.below hbel vw2f.out.lt); have vw3r := Lib.hid (vw2r.out.below hbel vw2r.out.lt); clear hbel; have vf1 := (show Var w3 (w.heap.size + 1) 81 [.int .u32 0, .int .u32 0, .string ⟨#[]⟩] from vw3r.out); have c2 := vf1.cell (j := 0) rfl; have c3 := vf1.cell (j := 1) rfl; have c4 := vf1.cell (j := 2) rfl; clear vf1; have vf5 := (show Var w3 (w.heap.size + 1) 81 [.int .u32 0, .int .u32 0, .string ⟨#[]⟩] from vw3r.out); have f6 := vf5.frozen 0; have f7 := vf5.frozen 1; have f8 := vf5.frozen 2; clear vf5)))
  have vf9 := (show Var (((w3.setCell ⟨w.heap.size + 1, 0, none⟩ (.int .u32 z0)).setCell ⟨w.heap.size + 1, 1, none⟩ (.int .u32 z1)).setCell ⟨w.heap.size + 1, 2, none⟩ (.string S)) (w.heap.size + 1) 81 [.int .u32 z0, .int .u32 z1, .string S] from (((vw3r.out.set 0 (.int .u32 z0)).set 1 (.int .u32 z1)).set 2 (.string S)))
  have c10 := vf9.cell (j := 0) rfl
  have c11 := vf9.cell (j := 1) rfl
  have c12 := vf9.cell (j := 2) rfl
  clear vf9
  refine bodyPost_ret (v := .tuple #[.agg #[.int .u32 z0, .int .u32 z1, .string S], .bool ok]) (by rw [results_cell_tmp rfl]; simp [go_sem, c10, c11, c12]) rfl ?_
  exact ⟨rfl, (((bw3.out.setCell (p := ⟨w.heap.size + 1, 0, none⟩) (by have := zw1.out; have := zw2.out; have := zw3.out; simp only; omega) _).setCell (p := ⟨w.heap.size + 1, 1, none⟩) (by have := zw1.out; have := zw2.out; have := zw3.out; simp only; omega) _).setCell (p := ⟨w.heap.size + 1, 2, none⟩) (by have := zw1.out; have := zw2.out; have := zw3.out; simp only; omega) _)⟩
theorem partOf_yes (f : Fr) (hs : f.body.length ≤ maxLen) (hr : pieceR f = true) (hk : f.kind = 2) (w : World) :
    Calls Tryz.prog 42 #[fV f] w fun e w' => e = .returned (.tuple #[partV f.a f.b f.body, .bool true]) ∧ Below w.heap.size w w' := by
  have HO := fun w => of_any f hs w
  have hp : pcOf f = .part f.a f.b f.body := by unfold pcOf; rw [if_neg (by omega), if_pos hk]
  rw [ofF_ok hr, hp] at HO
  exact partOf_core f.kind f.a f.b (bs f.body) _ _ _ _ _ true HO (fun w => asPart_any (.part f.a f.b f.body) w) w
theorem partOf_zero (p : Pc) (h : isPartP p = false) : asPartV p = .agg #[.int .u32 0, .int .u32 0, .string ⟨#[]⟩] := by
  cases p <;> first | rfl | cases h
theorem partOf_not (f : Fr) (hs : f.body.length ≤ maxLen) (hn : pieceR f = false ∨ f.kind ≠ 2) (w : World) :
    Calls Tryz.prog 42 #[fV f] w fun e w' => e = .returned (.tuple #[.agg #[.int .u32 0, .int .u32 0, .string ⟨#[]⟩], .bool false]) ∧ Below w.heap.size w w' := by
  have HO := fun w => of_any f hs w
  have HA := fun w => asPart_any (ofF f).1 w
  have hz : isPartP (ofF f).1 = false := by
    cases hr : pieceR f with
    | false => rw [ofF_not hr]; rfl
    | true =>
      rw [ofF_ok hr]
      have hk : f.kind ≠ 2 := by
        rcases hn with h | h
        · rw [hr] at h; cases h
        · exact h
      show isPartP (pcOf f) = false
      unfold pcOf
      by_cases k1 : f.kind = 1
      · rw [if_pos k1]; rfl
      rw [if_neg k1]
      by_cases k2 : f.kind = 2
      · exact absurd k2 hk
      rw [if_neg k2]
      by_cases k3 : f.kind = 3
      · rw [if_pos k3]; rfl
      rw [if_neg k3]
      rfl
  rw [partOf_zero _ hz, hz] at HA
  exact partOf_core f.kind f.a f.b (bs f.body) _ _ _ _ _ false HO HA w
end Go.Proofs.YtligapgjdpdihaaGreatDoor.Group
