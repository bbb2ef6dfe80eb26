/-
  The walks of the laws of chapter 9: shaped, PieceTells, PieceFields.
-/
import Derived.Test.YtdbfclngllhdlaaPieceLaws
import Derived.Test.YtdbfclngllhdlaaTxt
set_option linter.unusedVariables false
set_option linter.unusedSimpArgs false
namespace Go.Proofs.Ytdbfclngllhdlaa.Piece
open Go.RowKit
open CrcM (W)
open Crc (le4 sumOf vl wd putS)
open Flash (bs bs_size bs_list list_bs)
open Go.Proofs.Ytdbfclngllhdlaa.Frame (Fr zeroF fV bel2 below_drewN)
open Tup Bytes Own
open Go.Proofs.Ytdbfclngllhdlaa.Region (fill Then Deps Each wp_region_is wp_region_is_tail wp_region_each wp_region_tail)
theorem dlen_le {X : ByteArray} (h : X.size ≤ maxLen) : X.data.toList.length ≤ maxLen := h
set_option maxRecDepth 100000 in
theorem shortB_big (s : ByteArray) (hs : s.size ≤ maxLen) (n : Nat) (hn : n ≤ maxLen) (x : Int) (hx : x = (n : Int)) (w : World) :
    Calls Try.prog 24 #[.string s, .int .i64 x] w fun e w' => e = .returned (.string (bs (s.data.toList.take n))) ∧ w = w' := by
  unfold maxLen at hs hn
  subst hx
  obtain ⟨k, hk⟩ : ∃ k : Nat, (k : Int) = min (s.size : Int) (n : Int) := ⟨min s.size n, by omega⟩
  have hmn := fun w ts t => Txt.min2' (P := Try.prog) w ts t (s.size : Int) (n : Int) (k : Int) hk
  have hsl := Txt.cutS s.data.toList k (k : Int) rfl (by simp; omega)
  rw [bs_list] at hsl
  have HE := Lib.hid (show s.data.toList.take k = s.data.toList.take n by
    by_cases h : s.size ≤ n
    · rw [List.take_of_length_le (show s.data.toList.length ≤ n by simpa using h), List.take_of_length_le (by simp; omega)]
    · rw [show k = n by omega])
  clear hk
  go_enter Try.func24, Try.ntmps24
  go_wp2
  go_ret
  rw [HE.out]
  exact ⟨rfl, rfl⟩
set_option maxRecDepth 100000 in
set_option maxHeartbeats 8000000 in
theorem shaped_0 (f : Fr) (hs : f.body.length ≤ maxLen) : ∃ g : Fr, g.body.length ≤ maxLen ∧ ∀ w, Calls Try.prog 8 #[fV f, .int .i64 0] w fun e w' => e = .returned (fV g) ∧ Below w.heap.size w w' := by
  have HP : Hid (∀ w, Calls Try.prog 9 #[.int .i64 f.kind, .int .i64 6] w fun e w' => e = .returned (.int .i64 (f.kind % 6)) ∧ w = w') := fun w => Book.pick_any f.kind 6 (by decide) (by decide) w
  obtain ⟨kd, a, b, body⟩ := f
  simp only at HP hs
  obtain ⟨k6, hk6⟩ : ∃ k6, k6 = kd % 6 := ⟨_, rfl⟩
  rw [← hk6] at HP
  unfold fV
  simp only
  obtain ⟨B, hB⟩ : ∃ B, B = bs body := ⟨_, rfl⟩
  have HB := Lib.hid hB
  refine ⟨⟨k6, a, b, body⟩, hs, fun w => ?_⟩
  simp only
  rw [← hB]
  clear hB hk6
  go_enter Try.func8, Try.ntmps8
  go_wp2_with (first
    | (go_at_call 9; ((with_reducible refine (HP.out _).mono ?_); rintro e wsame ⟨rfl, rfl⟩; have vf1 := (show Var ((w.alloc (.cells #[.int .i64 k6, .int .u32 (vl a), .int .u32 (vl b), .string B] 24)).alloc (.cells #[.int .i64 0, .int .u32 0, .int .u32 0, .string ⟨#[]⟩] 24)) (w.heap.size) 24 [.int .i64 k6, .int .u32 (vl a), .int .u32 (vl b), .string B] from ((Var.new w 24 [.int .i64 k6, .int .u32 (vl a), .int .u32 (vl b), .string B]).alloc _)); have c2 := vf1.cell (j := 0) rfl; have c3 := vf1.cell (j := 1) rfl; have c4 := vf1.cell (j := 2) rfl; have c5 := vf1.cell (j := 3) rfl; clear vf1)))
  have vf6 := (show Var ((w.alloc (.cells #[.int .i64 k6, .int .u32 (vl a), .int .u32 (vl b), .string B] 24)).alloc (.cells #[.int .i64 k6, .int .u32 (vl a), .int .u32 (vl b), .string B] 24)) (w.heap.size + 1) 24 [.int .i64 k6, .int .u32 (vl a), .int .u32 (vl b), .string B] from (show Var ((w.alloc (.cells #[.int .i64 k6, .int .u32 (vl a), .int .u32 (vl b), .string B] 24)).alloc (.cells #[.int .i64 k6, .int .u32 (vl a), .int .u32 (vl b), .string B] 24)) (w.heap.size + 1) 24 [.int .i64 k6, .int .u32 (vl a), .int .u32 (vl b), .string B] from by have h := Var.new (w.alloc (.cells #[.int .i64 k6, .int .u32 (vl a), .int .u32 (vl b), .string B] 24)) 24 [.int .i64 k6, .int .u32 (vl a), .int .u32 (vl b), .string B]; rw [show (w.alloc (.cells #[.int .i64 k6, .int .u32 (vl a), .int .u32 (vl b), .string B] 24)).heap.size = w.heap.size + 1 by simp] at h; exact h))
  have c7 := vf6.cell (j := 0) rfl
  have c8 := vf6.cell (j := 1) rfl
  have c9 := vf6.cell (j := 2) rfl
  have c10 := vf6.cell (j := 3) rfl
  clear vf6
  refine bodyPost_ret (v := .agg #[.int .i64 k6, .int .u32 (vl a), .int .u32 (vl b), .string B]) (by simp [results, Try.results8, go_sem, c2, c3, c4, c5, c7, c8, c9, c10]) rfl ?_
  exact ⟨rfl, (bel2 (Geom.bel_alloc _ _) (Geom.bel_alloc _ _))⟩
set_option maxRecDepth 100000 in
set_option maxHeartbeats 8000000 in
theorem shaped_0_1 (f : Fr) (hs : f.body.length ≤ maxLen) (hk : f.kind % 6 = 0) : ∃ g : Fr, g.body.length ≤ maxLen ∧ ∀ w, Calls Try.prog 8 #[fV f, .int .i64 1] w fun e w' => e = .returned (fV g) ∧ Below w.heap.size w w' := by
  have HP : Hid (∀ w, Calls Try.prog 9 #[.int .i64 f.kind, .int .i64 6] w fun e w' => e = .returned (.int .i64 (f.kind % 6)) ∧ w = w') := fun w => Book.pick_any f.kind 6 (by decide) (by decide) w
  rw [hk] at HP
  obtain ⟨kd, a, b, body⟩ := f
  simp only at HP hs
  have hbs : (bs body).size ≤ maxLen := by rw [bs_size]; exact hs
  unfold fV
  simp only
  obtain ⟨B, hB⟩ : ∃ B, B = bs body := ⟨_, rfl⟩
  rw [← hB] at hbs ⊢
  clear hB hk hs
  obtain ⟨x, hx⟩ : ∃ x, (vl a).tmod 1000 = x := ⟨_, rfl⟩
  have hx1 : 0 ≤ x ∧ x ≤ 999 := by
    have := Crc.vl_range a
    rw [← hx, Int.tmod_eq_emod_of_nonneg this.1]; omega
  have hnn : 0 ≤ maxLen := by first | exact hbs | decide
  have HS := Lib.hid (fun w => shortB_big B hbs (0) hnn (0) rfl w)
  obtain ⟨S, hS⟩ : ∃ S, S = bs (B.data.toList.take (0)) := ⟨_, rfl⟩
  rw [← hS] at HS
  have hbl : B.data.toList.length = B.size := by simp
  have hSe : S.size = min (0) B.size := by rw [hS, bs_size, List.length_take, hbl]
  have hSs : S.size ≤ 0 ∧ S.size ≤ B.size := by omega
  have hSl : 0 - S.size ≤ 16 := by omega
  clear hbl
  obtain ⟨m, hm⟩ : ∃ m : Nat, m = 0 - S.size := ⟨_, rfl⟩
  have hmI : 0 - (S.size : Int) = (m : Int) := by omega
  have HF := Lib.hid (fun w => Flash.fill_any 0 (m : Int) m (.inl rfl) (by omega) w)
  rw [show (((0 : UInt8).toNat : Int)) = 0 from rfl] at HF
  obtain ⟨Z, hZ⟩ : ∃ Z, Z = bs (List.replicate m (0 : UInt8)) := ⟨_, rfl⟩
  rw [← hZ] at HF
  have hZs : Z.size = m := by rw [hZ, bs_size, List.length_replicate]
  obtain ⟨B2, hB2⟩ : ∃ B2, S ++ Z = B2 := ⟨_, rfl⟩
  have hB2n : B2.size = 0 := by rw [← hB2, ByteArray.size_append, hZs]; omega
  have hB2s : B2.size ≤ maxLen := by rw [hB2n]; exact hnn
  have hsum : S.size + Z.size ≤ maxLen := by rw [hZs]; unfold maxLen at hnn ⊢; omega
  unfold maxLen at hsum hbs
  have hSx : S.size ≤ B.size := hSs.2
  clear hS hZ hSl hZs hm hSs hSe
  clear hB2n
  refine ⟨⟨0, wd (1 + x), b, B2.data.toList⟩, dlen_le hB2s, fun w => ?_⟩
  simp only
  have HVX := Lib.hid (show Value.agg #[.int .i64 0, .int .u32 (vl (wd (1 + x))), .int .u32 (vl b), .string (bs B2.data.toList)] = .agg #[.int .i64 0, .int .u32 (1 + x), .int .u32 (vl b), .string B2] by rw [Crc.vl_wd (by omega) (by omega), bs_list])
  rw [HVX.out]
  go_enter Try.func8, Try.ntmps8
  go_wp2_with (first
    | (go_at_call 9; ((with_reducible refine (HP.out _).mono ?_); rintro e wsame ⟨rfl, rfl⟩; have vf1 := (show Var ((w.alloc (.cells #[.int .i64 0, .int .u32 (vl a), .int .u32 (vl b), .string B] 24)).alloc (.cells #[.int .i64 0, .int .u32 0, .int .u32 0, .string ⟨#[]⟩] 24)) (w.heap.size) 24 [.int .i64 0, .int .u32 (vl a), .int .u32 (vl b), .string B] from ((Var.new w 24 [.int .i64 0, .int .u32 (vl a), .int .u32 (vl b), .string B]).alloc _)); have c2 := vf1.cell (j := 0) rfl; have c3 := vf1.cell (j := 1) rfl; have c4 := vf1.cell (j := 2) rfl; have c5 := vf1.cell (j := 3) rfl; clear vf1; have vf6 := (show Var (((w.alloc (.cells #[.int .i64 0, .int .u32 (1 + x), .int .u32 (vl b), .string B] 24)).alloc (.cells #[.int .i64 0, .int .u32 0, .int .u32 0, .string ⟨#[]⟩] 24)).alloc (.cells #[.int .i64 0, .int .i64 0, .int .i64 (B.size : Int), .int .i64 16, .int .i64 4, .int .i64 0] 3)) (w.heap.size) 24 [.int .i64 0, .int .u32 (1 + x), .int .u32 (vl b), .string B] from (((Var.new w 24 [.int .i64 0, .int .u32 (1 + x), .int .u32 (vl b), .string B]).alloc _).alloc _)); have c7 := vf6.cell (j := 0) rfl; have c8 := vf6.cell (j := 1) rfl; have c9 := vf6.cell (j := 2) rfl; have c10 := vf6.cell (j := 3) rfl; clear vf6))
    | (go_at_call 24; ((with_reducible refine (HS.out _).mono ?_); rintro e wsame ⟨rfl, rfl⟩; have vf11 := (show Var (((w.alloc (.cells #[.int .i64 0, .int .u32 (1 + x), .int .u32 (vl b), .string S] 24)).alloc (.cells #[.int .i64 0, .int .u32 0, .int .u32 0, .string ⟨#[]⟩] 24)).alloc (.cells #[.int .i64 0, .int .i64 0, .int .i64 (B.size : Int), .int .i64 16, .int .i64 4, .int .i64 0] 3)) (w.heap.size) 24 [.int .i64 0, .int .u32 (1 + x), .int .u32 (vl b), .string S] from (((Var.new w 24 [.int .i64 0, .int .u32 (1 + x), .int .u32 (vl b), .string S]).alloc _).alloc _)); have c12 := vf11.cell (j := 0) rfl; have c13 := vf11.cell (j := 1) rfl; have c14 := vf11.cell (j := 2) rfl; have c15 := vf11.cell (j := 3) rfl; clear vf11; have vf16 := (show Var (((w.alloc (.cells #[.int .i64 0, .int .u32 (1 + x), .int .u32 (vl b), .string S] 24)).alloc (.cells #[.int .i64 0, .int .u32 0, .int .u32 0, .string ⟨#[]⟩] 24)).alloc (.cells #[.int .i64 0, .int .i64 0, .int .i64 (B.size : Int), .int .i64 16, .int .i64 4, .int .i64 0] 3)) (w.heap.size) 24 [.int .i64 0, .int .u32 (1 + x), .int .u32 (vl b), .string S] from (((Var.new w 24 [.int .i64 0, .int .u32 (1 + x), .int .u32 (vl b), .string S]).alloc _).alloc _)); have f17 := vf16.frozen 0; have f18 := vf16.frozen 1; have f19 := vf16.frozen 2; have f20 := vf16.frozen 3; clear vf16)))
  obtain ⟨w1, hw1⟩ : ∃ wx, wx = (((w.alloc (.cells #[.int .i64 0, .int .u32 (1 + x), .int .u32 (vl b), .string S] 24)).alloc (.cells #[.int .i64 0, .int .u32 0, .int .u32 0, .string ⟨#[]⟩] 24)).alloc (.cells #[.int .i64 0, .int .i64 0, .int .i64 (B.size : Int), .int .i64 16, .int .i64 4, .int .i64 0] 3)) := ⟨_, rfl⟩
  have bw1 := Lib.hid (show Below w.heap.size w w1 by rw [hw1]; exact (bel2 (bel2 (Geom.bel_alloc _ _) (Geom.bel_alloc _ _)) (Geom.bel_alloc _ _)))
  have zw1 := Lib.hid (show w.heap.size + 3 ≤ w1.heap.size by rw [hw1]; simp)
  have vw1f := Lib.hid (show Var w1 (w.heap.size) 24 [.int .i64 0, .int .u32 (1 + x), .int .u32 (vl b), .string S] by rw [hw1]; exact (((Var.new w 24 [.int .i64 0, .int .u32 (1 + x), .int .u32 (vl b), .string S]).alloc _).alloc _))
  have vw1r := Lib.hid (show Var w1 (w.heap.size + 1) 24 [.int .i64 0, .int .u32 0, .int .u32 0, .string ⟨#[]⟩] by rw [hw1]; exact ((show Var ((w.alloc (.cells #[.int .i64 0, .int .u32 (1 + x), .int .u32 (vl b), .string S] 24)).alloc (.cells #[.int .i64 0, .int .u32 0, .int .u32 0, .string ⟨#[]⟩] 24)) (w.heap.size + 1) 24 [.int .i64 0, .int .u32 0, .int .u32 0, .string ⟨#[]⟩] from by have h := Var.new (w.alloc (.cells #[.int .i64 0, .int .u32 (1 + x), .int .u32 (vl b), .string S] 24)) 24 [.int .i64 0, .int .u32 0, .int .u32 0, .string ⟨#[]⟩]; rw [show (w.alloc (.cells #[.int .i64 0, .int .u32 (1 + x), .int .u32 (vl b), .string S] 24)).heap.size = w.heap.size + 1 by simp] at h; exact h).alloc _))
  rw [← hw1]
  clear c2 c3 c4 c5 c7 c8 c9 c10 c12 c13 c14 c15 f17 f18 f19 f20
  refine wp_region_is_tail 10 [32, 33, 34, 35, 36, 37, 38, 39, 40, 41] (fun w' => Below w1.heap.size w1 w')
    [.pointer (some ⟨w.heap.size, 3, none⟩), .string S, .int .i64 0, .pointer (some ⟨w.heap.size, 3, none⟩), .string S, .int .i64 (S.size : Int), .int .i64 (m : Int), .string Z, .string B2, .pointer (some ⟨w.heap.size, 3, none⟩)] (by kernel_rfl) (by kernel_rfl) (by kernel_rfl) (by decide) rfl (by decide) (by simp) (Below.refl _ _).drew ?each ?done
  case each =>
    simp only [List.take_succ_cons, List.take_zero, Each]
    repeat' (first | exact trivial | refine And.intro ?_ ?_)
    all_goals
      intro ys wx hBx hdeps
      simp only [Deps, Region.binds, List.getD_cons_zero, List.getD_cons_succ, forall_const, and_true] at hdeps
      have q21 := (vw1f.out.below hBx vw1f.out.lt).cell (j := 3) rfl
      simp only [hdeps, fill, List.foldl_cons, List.foldl_nil, Act.put, List.setIfInBounds_toArray, List.set_cons_succ, List.set_cons_zero]
      first
        | (go_wp2_with fail; exact ⟨_, rfl, rfl, hBx, Below.refl _ _⟩)
        | (go_wp2_with (go_at_call 25; (with_reducible refine (HF.out _).mono ?_); rintro e w3 ⟨rfl, hbm⟩); exact ⟨_, rfl, rfl, hBx.trans (hbm.mono hBx.size), hbm⟩)
  case done =>
    intro ys wx hBx hV
    obtain ⟨w2, hw2⟩ : ∃ wy, wy = wx := ⟨_, rfl⟩
    rw [← hw2] at hBx ⊢
    have bw2 := Lib.hid (bel2 bw1.out hBx)
    have zw2 := Lib.hid hBx.size
    have vw2f := Lib.hid (vw1f.out.below hBx vw1f.out.lt)
    have vw2r := Lib.hid (vw1r.out.below hBx vw1r.out.lt)
    have h40 : ys 40 = .string B2 := hV 8 (by decide)
    have h41 : ys 41 = .pointer (some ⟨w.heap.size, 3, none⟩) := hV 9 (by decide)
    clear hBx hV hw2
    simp only [h40, h41, fill, List.drop_succ_cons, List.drop_zero, List.foldl_cons, List.foldl_nil, Act.put, List.setIfInBounds_toArray, List.set_cons_succ, List.set_cons_zero]
    have vf22 := (show Var w2 (w.heap.size) 24 [.int .i64 0, .int .u32 (1 + x), .int .u32 (vl b), .string S] from vw2f.out)
    have c23 := vf22.cell (j := 0) rfl
    have c24 := vf22.cell (j := 1) rfl
    have c25 := vf22.cell (j := 2) rfl
    have c26 := vf22.cell (j := 3) rfl
    clear vf22
    have vf27 := (show Var w2 (w.heap.size) 24 [.int .i64 0, .int .u32 (1 + x), .int .u32 (vl b), .string S] from vw2f.out)
    have f28 := vf27.frozen 0
    have f29 := vf27.frozen 1
    have f30 := vf27.frozen 2
    have f31 := vf27.frozen 3
    clear vf27
    have vf32 := (show Var (w2.setCell ⟨w.heap.size, 3, none⟩ (.string B2)) (w.heap.size) 24 [.int .i64 0, .int .u32 (1 + x), .int .u32 (vl b), .string B2] from (vw2f.out.set 3 (.string B2)))
    have c33 := vf32.cell (j := 0) rfl
    have c34 := vf32.cell (j := 1) rfl
    have c35 := vf32.cell (j := 2) rfl
    have c36 := vf32.cell (j := 3) rfl
    clear vf32
    have vf37 := (show Var (w2.setCell ⟨w.heap.size, 3, none⟩ (.string B2)) (w.heap.size + 1) 24 [.int .i64 0, .int .u32 0, .int .u32 0, .string ⟨#[]⟩] from (Var.othr2 vw2r.out ⟨w.heap.size, 3, none⟩ (.string B2) (by have := zw1.out; have := zw2.out; have := vw2r.out.lt; simp only; omega)))
    have c38 := vf37.cell (j := 0) rfl
    have c39 := vf37.cell (j := 1) rfl
    have c40 := vf37.cell (j := 2) rfl
    have c41 := vf37.cell (j := 3) rfl
    clear vf37
    have vf42 := (show Var (w2.setCell ⟨w.heap.size, 3, none⟩ (.string B2)) (w.heap.size) 24 [.int .i64 0, .int .u32 (1 + x), .int .u32 (vl b), .string B2] from (vw2f.out.set 3 (.string B2)))
    have f43 := vf42.frozen 0
    have f44 := vf42.frozen 1
    have f45 := vf42.frozen 2
    have f46 := vf42.frozen 3
    clear vf42
    have vf47 := (show Var (w2.setCell ⟨w.heap.size, 3, none⟩ (.string B2)) (w.heap.size + 1) 24 [.int .i64 0, .int .u32 0, .int .u32 0, .string ⟨#[]⟩] from (Var.othr2 vw2r.out ⟨w.heap.size, 3, none⟩ (.string B2) (by have := zw1.out; have := zw2.out; have := vw2r.out.lt; simp only; omega)))
    have f48 := vf47.frozen 0
    have f49 := vf47.frozen 1
    have f50 := vf47.frozen 2
    have f51 := vf47.frozen 3
    clear vf47
    go_wp2
    have vf52 := (show Var (((((w2.setCell ⟨w.heap.size, 3, none⟩ (.string B2)).setCell ⟨w.heap.size + 1, 0, none⟩ (.int .i64 0)).setCell ⟨w.heap.size + 1, 1, none⟩ (.int .u32 (1 + x))).setCell ⟨w.heap.size + 1, 2, none⟩ (.int .u32 (vl b))).setCell ⟨w.heap.size + 1, 3, none⟩ (.string B2)) (w.heap.size + 1) 24 [.int .i64 0, .int .u32 (1 + x), .int .u32 (vl b), .string B2] from (((((Var.othr2 vw2r.out ⟨w.heap.size, 3, none⟩ (.string B2) (by have := zw1.out; have := zw2.out; have := vw2r.out.lt; simp only; omega)).set 0 (.int .i64 0)).set 1 (.int .u32 (1 + x))).set 2 (.int .u32 (vl b))).set 3 (.string B2)))
    have c53 := vf52.cell (j := 0) rfl
    have c54 := vf52.cell (j := 1) rfl
    have c55 := vf52.cell (j := 2) rfl
    have c56 := vf52.cell (j := 3) rfl
    clear vf52
    refine bodyPost_ret (v := .agg #[.int .i64 0, .int .u32 (1 + x), .int .u32 (vl b), .string B2]) (by simp [results, Try.results8, go_sem, c53, c54, c55, c56]) rfl ?_
    exact ⟨rfl, (((((bw2.out.setCell (p := ⟨w.heap.size, 3, none⟩) (by have := zw1.out; have := zw2.out; simp only; omega) _).setCell (p := ⟨w.heap.size + 1, 0, none⟩) (by have := zw1.out; have := zw2.out; simp only; omega) _).setCell (p := ⟨w.heap.size + 1, 1, none⟩) (by have := zw1.out; have := zw2.out; simp only; omega) _).setCell (p := ⟨w.heap.size + 1, 2, none⟩) (by have := zw1.out; have := zw2.out; simp only; omega) _).setCell (p := ⟨w.heap.size + 1, 3, none⟩) (by have := zw1.out; have := zw2.out; simp only; omega) _)⟩
set_option maxRecDepth 100000 in
set_option maxHeartbeats 8000000 in
theorem shaped_0_2 (f : Fr) (hs : f.body.length ≤ maxLen) (hk : f.kind % 6 = 0) : ∃ g : Fr, g.body.length ≤ maxLen ∧ ∀ w, Calls Try.prog 8 #[fV f, .int .i64 2] w fun e w' => e = .returned (fV g) ∧ Below w.heap.size w w' := by
  have HP : Hid (∀ w, Calls Try.prog 9 #[.int .i64 f.kind, .int .i64 6] w fun e w' => e = .returned (.int .i64 (f.kind % 6)) ∧ w = w') := fun w => Book.pick_any f.kind 6 (by decide) (by decide) w
  rw [hk] at HP
  obtain ⟨kd, a, b, body⟩ := f
  simp only at HP hs
  have hbs : (bs body).size ≤ maxLen := by rw [bs_size]; exact hs
  unfold fV
  simp only
  obtain ⟨B, hB⟩ : ∃ B, B = bs body := ⟨_, rfl⟩
  rw [← hB] at hbs ⊢
  clear hB hk hs
  obtain ⟨x, hx⟩ : ∃ x, (vl a).tmod 1000 = x := ⟨_, rfl⟩
  have hx1 : 0 ≤ x ∧ x ≤ 999 := by
    have := Crc.vl_range a
    rw [← hx, Int.tmod_eq_emod_of_nonneg this.1]; omega
  have hnn : 0 ≤ maxLen := by first | exact hbs | decide
  have HS := Lib.hid (fun w => shortB_big B hbs (0) hnn (0) rfl w)
  obtain ⟨S, hS⟩ : ∃ S, S = bs (B.data.toList.take (0)) := ⟨_, rfl⟩
  rw [← hS] at HS
  have hbl : B.data.toList.length = B.size := by simp
  have hSe : S.size = min (0) B.size := by rw [hS, bs_size, List.length_take, hbl]
  have hSs : S.size ≤ 0 ∧ S.size ≤ B.size := by omega
  have hSl : 0 - S.size ≤ 16 := by omega
  clear hbl
  obtain ⟨m, hm⟩ : ∃ m : Nat, m = 0 - S.size := ⟨_, rfl⟩
  have hmI : 0 - (S.size : Int) = (m : Int) := by omega
  have HF := Lib.hid (fun w => Flash.fill_any 0 (m : Int) m (.inl rfl) (by omega) w)
  rw [show (((0 : UInt8).toNat : Int)) = 0 from rfl] at HF
  obtain ⟨Z, hZ⟩ : ∃ Z, Z = bs (List.replicate m (0 : UInt8)) := ⟨_, rfl⟩
  rw [← hZ] at HF
  have hZs : Z.size = m := by rw [hZ, bs_size, List.length_replicate]
  obtain ⟨B2, hB2⟩ : ∃ B2, S ++ Z = B2 := ⟨_, rfl⟩
  have hB2n : B2.size = 0 := by rw [← hB2, ByteArray.size_append, hZs]; omega
  have hB2s : B2.size ≤ maxLen := by rw [hB2n]; exact hnn
  have hsum : S.size + Z.size ≤ maxLen := by rw [hZs]; unfold maxLen at hnn ⊢; omega
  unfold maxLen at hsum hbs
  have hSx : S.size ≤ B.size := hSs.2
  clear hS hZ hSl hZs hm hSs hSe
  clear hB2n
  refine ⟨⟨0, wd (1 + x), b, B2.data.toList⟩, dlen_le hB2s, fun w => ?_⟩
  simp only
  have HVX := Lib.hid (show Value.agg #[.int .i64 0, .int .u32 (vl (wd (1 + x))), .int .u32 (vl b), .string (bs B2.data.toList)] = .agg #[.int .i64 0, .int .u32 (1 + x), .int .u32 (vl b), .string B2] by rw [Crc.vl_wd (by omega) (by omega), bs_list])
  rw [HVX.out]
  go_enter Try.func8, Try.ntmps8
  go_wp2_with (first
    | (go_at_call 9; ((with_reducible refine (HP.out _).mono ?_); rintro e wsame ⟨rfl, rfl⟩; have vf1 := (show Var ((w.alloc (.cells #[.int .i64 0, .int .u32 (vl a), .int .u32 (vl b), .string B] 24)).alloc (.cells #[.int .i64 0, .int .u32 0, .int .u32 0, .string ⟨#[]⟩] 24)) (w.heap.size) 24 [.int .i64 0, .int .u32 (vl a), .int .u32 (vl b), .string B] from ((Var.new w 24 [.int .i64 0, .int .u32 (vl a), .int .u32 (vl b), .string B]).alloc _)); have c2 := vf1.cell (j := 0) rfl; have c3 := vf1.cell (j := 1) rfl; have c4 := vf1.cell (j := 2) rfl; have c5 := vf1.cell (j := 3) rfl; clear vf1; have vf6 := (show Var (((w.alloc (.cells #[.int .i64 0, .int .u32 (1 + x), .int .u32 (vl b), .string B] 24)).alloc (.cells #[.int .i64 0, .int .u32 0, .int .u32 0, .string ⟨#[]⟩] 24)).alloc (.cells #[.int .i64 0, .int .i64 0, .int .i64 (B.size : Int), .int .i64 16, .int .i64 4, .int .i64 0] 3)) (w.heap.size) 24 [.int .i64 0, .int .u32 (1 + x), .int .u32 (vl b), .string B] from (((Var.new w 24 [.int .i64 0, .int .u32 (1 + x), .int .u32 (vl b), .string B]).alloc _).alloc _)); have c7 := vf6.cell (j := 0) rfl; have c8 := vf6.cell (j := 1) rfl; have c9 := vf6.cell (j := 2) rfl; have c10 := vf6.cell (j := 3) rfl; clear vf6))
    | (go_at_call 24; ((with_reducible refine (HS.out _).mono ?_); rintro e wsame ⟨rfl, rfl⟩; have vf11 := (show Var (((w.alloc (.cells #[.int .i64 0, .int .u32 (1 + x), .int .u32 (vl b), .string S] 24)).alloc (.cells #[.int .i64 0, .int .u32 0, .int .u32 0, .string ⟨#[]⟩] 24)).alloc (.cells #[.int .i64 0, .int .i64 0, .int .i64 (B.size : Int), .int .i64 16, .int .i64 4, .int .i64 0] 3)) (w.heap.size) 24 [.int .i64 0, .int .u32 (1 + x), .int .u32 (vl b), .string S] from (((Var.new w 24 [.int .i64 0, .int .u32 (1 + x), .int .u32 (vl b), .string S]).alloc _).alloc _)); have c12 := vf11.cell (j := 0) rfl; have c13 := vf11.cell (j := 1) rfl; have c14 := vf11.cell (j := 2) rfl; have c15 := vf11.cell (j := 3) rfl; clear vf11; have vf16 := (show Var (((w.alloc (.cells #[.int .i64 0, .int .u32 (1 + x), .int .u32 (vl b), .string S] 24)).alloc (.cells #[.int .i64 0, .int .u32 0, .int .u32 0, .string ⟨#[]⟩] 24)).alloc (.cells #[.int .i64 0, .int .i64 0, .int .i64 (B.size : Int), .int .i64 16, .int .i64 4, .int .i64 0] 3)) (w.heap.size) 24 [.int .i64 0, .int .u32 (1 + x), .int .u32 (vl b), .string S] from (((Var.new w 24 [.int .i64 0, .int .u32 (1 + x), .int .u32 (vl b), .string S]).alloc _).alloc _)); have f17 := vf16.frozen 0; have f18 := vf16.frozen 1; have f19 := vf16.frozen 2; have f20 := vf16.frozen 3; clear vf16)))
  obtain ⟨w1, hw1⟩ : ∃ wx, wx = (((w.alloc (.cells #[.int .i64 0, .int .u32 (1 + x), .int .u32 (vl b), .string S] 24)).alloc (.cells #[.int .i64 0, .int .u32 0, .int .u32 0, .string ⟨#[]⟩] 24)).alloc (.cells #[.int .i64 0, .int .i64 0, .int .i64 (B.size : Int), .int .i64 16, .int .i64 4, .int .i64 0] 3)) := ⟨_, rfl⟩
  have bw1 := Lib.hid (show Below w.heap.size w w1 by rw [hw1]; exact (bel2 (bel2 (Geom.bel_alloc _ _) (Geom.bel_alloc _ _)) (Geom.bel_alloc _ _)))
  have zw1 := Lib.hid (show w.heap.size + 3 ≤ w1.heap.size by rw [hw1]; simp)
  have vw1f := Lib.hid (show Var w1 (w.heap.size) 24 [.int .i64 0, .int .u32 (1 + x), .int .u32 (vl b), .string S] by rw [hw1]; exact (((Var.new w 24 [.int .i64 0, .int .u32 (1 + x), .int .u32 (vl b), .string S]).alloc _).alloc _))
  have vw1r := Lib.hid (show Var w1 (w.heap.size + 1) 24 [.int .i64 0, .int .u32 0, .int .u32 0, .string ⟨#[]⟩] by rw [hw1]; exact ((show Var ((w.alloc (.cells #[.int .i64 0, .int .u32 (1 + x), .int .u32 (vl b), .string S] 24)).alloc (.cells #[.int .i64 0, .int .u32 0, .int .u32 0, .string ⟨#[]⟩] 24)) (w.heap.size + 1) 24 [.int .i64 0, .int .u32 0, .int .u32 0, .string ⟨#[]⟩] from by have h := Var.new (w.alloc (.cells #[.int .i64 0, .int .u32 (1 + x), .int .u32 (vl b), .string S] 24)) 24 [.int .i64 0, .int .u32 0, .int .u32 0, .string ⟨#[]⟩]; rw [show (w.alloc (.cells #[.int .i64 0, .int .u32 (1 + x), .int .u32 (vl b), .string S] 24)).heap.size = w.heap.size + 1 by simp] at h; exact h).alloc _))
  rw [← hw1]
  clear c2 c3 c4 c5 c7 c8 c9 c10 c12 c13 c14 c15 f17 f18 f19 f20
  refine wp_region_is_tail 10 [32, 33, 34, 35, 36, 37, 38, 39, 40, 41] (fun w' => Below w1.heap.size w1 w')
    [.pointer (some ⟨w.heap.size, 3, none⟩), .string S, .int .i64 0, .pointer (some ⟨w.heap.size, 3, none⟩), .string S, .int .i64 (S.size : Int), .int .i64 (m : Int), .string Z, .string B2, .pointer (some ⟨w.heap.size, 3, none⟩)] (by kernel_rfl) (by kernel_rfl) (by kernel_rfl) (by decide) rfl (by decide) (by simp) (Below.refl _ _).drew ?each ?done
  case each =>
    simp only [List.take_succ_cons, List.take_zero, Each]
    repeat' (first | exact trivial | refine And.intro ?_ ?_)
    all_goals
      intro ys wx hBx hdeps
      simp only [Deps, Region.binds, List.getD_cons_zero, List.getD_cons_succ, forall_const, and_true] at hdeps
      have q21 := (vw1f.out.below hBx vw1f.out.lt).cell (j := 3) rfl
      simp only [hdeps, fill, List.foldl_cons, List.foldl_nil, Act.put, List.setIfInBounds_toArray, List.set_cons_succ, List.set_cons_zero]
      first
        | (go_wp2_with fail; exact ⟨_, rfl, rfl, hBx, Below.refl _ _⟩)
        | (go_wp2_with (go_at_call 25; (with_reducible refine (HF.out _).mono ?_); rintro e w3 ⟨rfl, hbm⟩); exact ⟨_, rfl, rfl, hBx.trans (hbm.mono hBx.size), hbm⟩)
  case done =>
    intro ys wx hBx hV
    obtain ⟨w2, hw2⟩ : ∃ wy, wy = wx := ⟨_, rfl⟩
    rw [← hw2] at hBx ⊢
    have bw2 := Lib.hid (bel2 bw1.out hBx)
    have zw2 := Lib.hid hBx.size
    have vw2f := Lib.hid (vw1f.out.below hBx vw1f.out.lt)
    have vw2r := Lib.hid (vw1r.out.below hBx vw1r.out.lt)
    have h40 : ys 40 = .string B2 := hV 8 (by decide)
    have h41 : ys 41 = .pointer (some ⟨w.heap.size, 3, none⟩) := hV 9 (by decide)
    clear hBx hV hw2
    simp only [h40, h41, fill, List.drop_succ_cons, List.drop_zero, List.foldl_cons, List.foldl_nil, Act.put, List.setIfInBounds_toArray, List.set_cons_succ, List.set_cons_zero]
    have vf22 := (show Var w2 (w.heap.size) 24 [.int .i64 0, .int .u32 (1 + x), .int .u32 (vl b), .string S] from vw2f.out)
    have c23 := vf22.cell (j := 0) rfl
    have c24 := vf22.cell (j := 1) rfl
    have c25 := vf22.cell (j := 2) rfl
    have c26 := vf22.cell (j := 3) rfl
    clear vf22
    have vf27 := (show Var w2 (w.heap.size) 24 [.int .i64 0, .int .u32 (1 + x), .int .u32 (vl b), .string S] from vw2f.out)
    have f28 := vf27.frozen 0
    have f29 := vf27.frozen 1
    have f30 := vf27.frozen 2
    have f31 := vf27.frozen 3
    clear vf27
    have vf32 := (show Var (w2.setCell ⟨w.heap.size, 3, none⟩ (.string B2)) (w.heap.size) 24 [.int .i64 0, .int .u32 (1 + x), .int .u32 (vl b), .string B2] from (vw2f.out.set 3 (.string B2)))
    have c33 := vf32.cell (j := 0) rfl
    have c34 := vf32.cell (j := 1) rfl
    have c35 := vf32.cell (j := 2) rfl
    have c36 := vf32.cell (j := 3) rfl
    clear vf32
    have vf37 := (show Var (w2.setCell ⟨w.heap.size, 3, none⟩ (.string B2)) (w.heap.size + 1) 24 [.int .i64 0, .int .u32 0, .int .u32 0, .string ⟨#[]⟩] from (Var.othr2 vw2r.out ⟨w.heap.size, 3, none⟩ (.string B2) (by have := zw1.out; have := zw2.out; have := vw2r.out.lt; simp only; omega)))
    have c38 := vf37.cell (j := 0) rfl
    have c39 := vf37.cell (j := 1) rfl
    have c40 := vf37.cell (j := 2) rfl
    have c41 := vf37.cell (j := 3) rfl
    clear vf37
    have vf42 := (show Var (w2.setCell ⟨w.heap.size, 3, none⟩ (.string B2)) (w.heap.size) 24 [.int .i64 0, .int .u32 (1 + x), .int .u32 (vl b), .string B2] from (vw2f.out.set 3 (.string B2)))
    have f43 := vf42.frozen 0
    have f44 := vf42.frozen 1
    have f45 := vf42.frozen 2
    have f46 := vf42.frozen 3
    clear vf42
    have vf47 := (show Var (w2.setCell ⟨w.heap.size, 3, none⟩ (.string B2)) (w.heap.size + 1) 24 [.int .i64 0, .int .u32 0, .int .u32 0, .string ⟨#[]⟩] from (Var.othr2 vw2r.out ⟨w.heap.size, 3, none⟩ (.string B2) (by have := zw1.out; have := zw2.out; have := vw2r.out.lt; simp only; omega)))
    have f48 := vf47.frozen 0
    have f49 := vf47.frozen 1
    have f50 := vf47.frozen 2
    have f51 := vf47.frozen 3
    clear vf47
    go_wp2
    have vf52 := (show Var (((((w2.setCell ⟨w.heap.size, 3, none⟩ (.string B2)).setCell ⟨w.heap.size + 1, 0, none⟩ (.int .i64 0)).setCell ⟨w.heap.size + 1, 1, none⟩ (.int .u32 (1 + x))).setCell ⟨w.heap.size + 1, 2, none⟩ (.int .u32 (vl b))).setCell ⟨w.heap.size + 1, 3, none⟩ (.string B2)) (w.heap.size + 1) 24 [.int .i64 0, .int .u32 (1 + x), .int .u32 (vl b), .string B2] from (((((Var.othr2 vw2r.out ⟨w.heap.size, 3, none⟩ (.string B2) (by have := zw1.out; have := zw2.out; have := vw2r.out.lt; simp only; omega)).set 0 (.int .i64 0)).set 1 (.int .u32 (1 + x))).set 2 (.int .u32 (vl b))).set 3 (.string B2)))
    have c53 := vf52.cell (j := 0) rfl
    have c54 := vf52.cell (j := 1) rfl
    have c55 := vf52.cell (j := 2) rfl
    have c56 := vf52.cell (j := 3) rfl
    clear vf52
    refine bodyPost_ret (v := .agg #[.int .i64 0, .int .u32 (1 + x), .int .u32 (vl b), .string B2]) (by simp [results, Try.results8, go_sem, c53, c54, c55, c56]) rfl ?_
    exact ⟨rfl, (((((bw2.out.setCell (p := ⟨w.heap.size, 3, none⟩) (by have := zw1.out; have := zw2.out; simp only; omega) _).setCell (p := ⟨w.heap.size + 1, 0, none⟩) (by have := zw1.out; have := zw2.out; simp only; omega) _).setCell (p := ⟨w.heap.size + 1, 1, none⟩) (by have := zw1.out; have := zw2.out; simp only; omega) _).setCell (p := ⟨w.heap.size + 1, 2, none⟩) (by have := zw1.out; have := zw2.out; simp only; omega) _).setCell (p := ⟨w.heap.size + 1, 3, none⟩) (by have := zw1.out; have := zw2.out; simp only; omega) _)⟩
set_option maxRecDepth 100000 in
set_option maxHeartbeats 8000000 in
theorem shaped_1_1 (f : Fr) (hs : f.body.length ≤ maxLen) (hk : f.kind % 6 = 1) : ∃ g : Fr, g.body.length ≤ maxLen ∧ ∀ w, Calls Try.prog 8 #[fV f, .int .i64 1] w fun e w' => e = .returned (fV g) ∧ Below w.heap.size w w' := by
  have HP : Hid (∀ w, Calls Try.prog 9 #[.int .i64 f.kind, .int .i64 6] w fun e w' => e = .returned (.int .i64 (f.kind % 6)) ∧ w = w') := fun w => Book.pick_any f.kind 6 (by decide) (by decide) w
  rw [hk] at HP
  obtain ⟨kd, a, b, body⟩ := f
  simp only at HP hs
  have hbs : (bs body).size ≤ maxLen := by rw [bs_size]; exact hs
  unfold fV
  simp only
  obtain ⟨B, hB⟩ : ∃ B, B = bs body := ⟨_, rfl⟩
  rw [← hB] at hbs ⊢
  clear hB hk hs
  obtain ⟨x, hx⟩ : ∃ x, (vl a).tmod 1000 = x := ⟨_, rfl⟩
  have hx1 : 0 ≤ x ∧ x ≤ 999 := by
    have := Crc.vl_range a
    rw [← hx, Int.tmod_eq_emod_of_nonneg this.1]; omega
  have hnn : 0 ≤ maxLen := by first | exact hbs | decide
  have HS := Lib.hid (fun w => shortB_big B hbs (0) hnn (0) rfl w)
  obtain ⟨S, hS⟩ : ∃ S, S = bs (B.data.toList.take (0)) := ⟨_, rfl⟩
  rw [← hS] at HS
  have hbl : B.data.toList.length = B.size := by simp
  have hSe : S.size = min (0) B.size := by rw [hS, bs_size, List.length_take, hbl]
  have hSs : S.size ≤ 0 ∧ S.size ≤ B.size := by omega
  have hSl : 0 - S.size ≤ 16 := by omega
  clear hbl
  obtain ⟨m, hm⟩ : ∃ m : Nat, m = 0 - S.size := ⟨_, rfl⟩
  have hmI : 0 - (S.size : Int) = (m : Int) := by omega
  have HF := Lib.hid (fun w => Flash.fill_any 0 (m : Int) m (.inl rfl) (by omega) w)
  rw [show (((0 : UInt8).toNat : Int)) = 0 from rfl] at HF
  obtain ⟨Z, hZ⟩ : ∃ Z, Z = bs (List.replicate m (0 : UInt8)) := ⟨_, rfl⟩
  rw [← hZ] at HF
  have hZs : Z.size = m := by rw [hZ, bs_size, List.length_replicate]
  obtain ⟨B2, hB2⟩ : ∃ B2, S ++ Z = B2 := ⟨_, rfl⟩
  have hB2n : B2.size = 0 := by rw [← hB2, ByteArray.size_append, hZs]; omega
  have hB2s : B2.size ≤ maxLen := by rw [hB2n]; exact hnn
  have hsum : S.size + Z.size ≤ maxLen := by rw [hZs]; unfold maxLen at hnn ⊢; omega
  unfold maxLen at hsum hbs
  have hSx : S.size ≤ B.size := hSs.2
  clear hS hZ hSl hZs hm hSs hSe
  clear hB2n
  refine ⟨⟨1, wd (1 + x), b, B2.data.toList⟩, dlen_le hB2s, fun w => ?_⟩
  simp only
  have HVX := Lib.hid (show Value.agg #[.int .i64 1, .int .u32 (vl (wd (1 + x))), .int .u32 (vl b), .string (bs B2.data.toList)] = .agg #[.int .i64 1, .int .u32 (1 + x), .int .u32 (vl b), .string B2] by rw [Crc.vl_wd (by omega) (by omega), bs_list])
  rw [HVX.out]
  go_enter Try.func8, Try.ntmps8
  go_wp2_with (first
    | (go_at_call 9; ((with_reducible refine (HP.out _).mono ?_); rintro e wsame ⟨rfl, rfl⟩; have vf1 := (show Var ((w.alloc (.cells #[.int .i64 1, .int .u32 (vl a), .int .u32 (vl b), .string B] 24)).alloc (.cells #[.int .i64 0, .int .u32 0, .int .u32 0, .string ⟨#[]⟩] 24)) (w.heap.size) 24 [.int .i64 1, .int .u32 (vl a), .int .u32 (vl b), .string B] from ((Var.new w 24 [.int .i64 1, .int .u32 (vl a), .int .u32 (vl b), .string B]).alloc _)); have c2 := vf1.cell (j := 0) rfl; have c3 := vf1.cell (j := 1) rfl; have c4 := vf1.cell (j := 2) rfl; have c5 := vf1.cell (j := 3) rfl; clear vf1; have vf6 := (show Var (((w.alloc (.cells #[.int .i64 1, .int .u32 (1 + x), .int .u32 (vl b), .string B] 24)).alloc (.cells #[.int .i64 0, .int .u32 0, .int .u32 0, .string ⟨#[]⟩] 24)).alloc (.cells #[.int .i64 0, .int .i64 0, .int .i64 (B.size : Int), .int .i64 16, .int .i64 4, .int .i64 0] 3)) (w.heap.size) 24 [.int .i64 1, .int .u32 (1 + x), .int .u32 (vl b), .string B] from (((Var.new w 24 [.int .i64 1, .int .u32 (1 + x), .int .u32 (vl b), .string B]).alloc _).alloc _)); have c7 := vf6.cell (j := 0) rfl; have c8 := vf6.cell (j := 1) rfl; have c9 := vf6.cell (j := 2) rfl; have c10 := vf6.cell (j := 3) rfl; clear vf6))
    | (go_at_call 24; ((with_reducible refine (HS.out _).mono ?_); rintro e wsame ⟨rfl, rfl⟩; have vf11 := (show Var (((w.alloc (.cells #[.int .i64 1, .int .u32 (1 + x), .int .u32 (vl b), .string S] 24)).alloc (.cells #[.int .i64 0, .int .u32 0, .int .u32 0, .string ⟨#[]⟩] 24)).alloc (.cells #[.int .i64 0, .int .i64 0, .int .i64 (B.size : Int), .int .i64 16, .int .i64 4, .int .i64 0] 3)) (w.heap.size) 24 [.int .i64 1, .int .u32 (1 + x), .int .u32 (vl b), .string S] from (((Var.new w 24 [.int .i64 1, .int .u32 (1 + x), .int .u32 (vl b), .string S]).alloc _).alloc _)); have c12 := vf11.cell (j := 0) rfl; have c13 := vf11.cell (j := 1) rfl; have c14 := vf11.cell (j := 2) rfl; have c15 := vf11.cell (j := 3) rfl; clear vf11; have vf16 := (show Var (((w.alloc (.cells #[.int .i64 1, .int .u32 (1 + x), .int .u32 (vl b), .string S] 24)).alloc (.cells #[.int .i64 0, .int .u32 0, .int .u32 0, .string ⟨#[]⟩] 24)).alloc (.cells #[.int .i64 0, .int .i64 0, .int .i64 (B.size : Int), .int .i64 16, .int .i64 4, .int .i64 0] 3)) (w.heap.size) 24 [.int .i64 1, .int .u32 (1 + x), .int .u32 (vl b), .string S] from (((Var.new w 24 [.int .i64 1, .int .u32 (1 + x), .int .u32 (vl b), .string S]).alloc _).alloc _)); have f17 := vf16.frozen 0; have f18 := vf16.frozen 1; have f19 := vf16.frozen 2; have f20 := vf16.frozen 3; clear vf16)))
  obtain ⟨w1, hw1⟩ : ∃ wx, wx = (((w.alloc (.cells #[.int .i64 1, .int .u32 (1 + x), .int .u32 (vl b), .string S] 24)).alloc (.cells #[.int .i64 0, .int .u32 0, .int .u32 0, .string ⟨#[]⟩] 24)).alloc (.cells #[.int .i64 0, .int .i64 0, .int .i64 (B.size : Int), .int .i64 16, .int .i64 4, .int .i64 0] 3)) := ⟨_, rfl⟩
  have bw1 := Lib.hid (show Below w.heap.size w w1 by rw [hw1]; exact (bel2 (bel2 (Geom.bel_alloc _ _) (Geom.bel_alloc _ _)) (Geom.bel_alloc _ _)))
  have zw1 := Lib.hid (show w.heap.size + 3 ≤ w1.heap.size by rw [hw1]; simp)
  have vw1f := Lib.hid (show Var w1 (w.heap.size) 24 [.int .i64 1, .int .u32 (1 + x), .int .u32 (vl b), .string S] by rw [hw1]; exact (((Var.new w 24 [.int .i64 1, .int .u32 (1 + x), .int .u32 (vl b), .string S]).alloc _).alloc _))
  have vw1r := Lib.hid (show Var w1 (w.heap.size + 1) 24 [.int .i64 0, .int .u32 0, .int .u32 0, .string ⟨#[]⟩] by rw [hw1]; exact ((show Var ((w.alloc (.cells #[.int .i64 1, .int .u32 (1 + x), .int .u32 (vl b), .string S] 24)).alloc (.cells #[.int .i64 0, .int .u32 0, .int .u32 0, .string ⟨#[]⟩] 24)) (w.heap.size + 1) 24 [.int .i64 0, .int .u32 0, .int .u32 0, .string ⟨#[]⟩] from by have h := Var.new (w.alloc (.cells #[.int .i64 1, .int .u32 (1 + x), .int .u32 (vl b), .string S] 24)) 24 [.int .i64 0, .int .u32 0, .int .u32 0, .string ⟨#[]⟩]; rw [show (w.alloc (.cells #[.int .i64 1, .int .u32 (1 + x), .int .u32 (vl b), .string S] 24)).heap.size = w.heap.size + 1 by simp] at h; exact h).alloc _))
  rw [← hw1]
  clear c2 c3 c4 c5 c7 c8 c9 c10 c12 c13 c14 c15 f17 f18 f19 f20
  refine wp_region_is_tail 10 [32, 33, 34, 35, 36, 37, 38, 39, 40, 41] (fun w' => Below w1.heap.size w1 w')
    [.pointer (some ⟨w.heap.size, 3, none⟩), .string S, .int .i64 0, .pointer (some ⟨w.heap.size, 3, none⟩), .string S, .int .i64 (S.size : Int), .int .i64 (m : Int), .string Z, .string B2, .pointer (some ⟨w.heap.size, 3, none⟩)] (by kernel_rfl) (by kernel_rfl) (by kernel_rfl) (by decide) rfl (by decide) (by simp) (Below.refl _ _).drew ?each ?done
  case each =>
    simp only [List.take_succ_cons, List.take_zero, Each]
    repeat' (first | exact trivial | refine And.intro ?_ ?_)
    all_goals
      intro ys wx hBx hdeps
      simp only [Deps, Region.binds, List.getD_cons_zero, List.getD_cons_succ, forall_const, and_true] at hdeps
      have q21 := (vw1f.out.below hBx vw1f.out.lt).cell (j := 3) rfl
      simp only [hdeps, fill, List.foldl_cons, List.foldl_nil, Act.put, List.setIfInBounds_toArray, List.set_cons_succ, List.set_cons_zero]
      first
        | (go_wp2_with fail; exact ⟨_, rfl, rfl, hBx, Below.refl _ _⟩)
        | (go_wp2_with (go_at_call 25; (with_reducible refine (HF.out _).mono ?_); rintro e w3 ⟨rfl, hbm⟩); exact ⟨_, rfl, rfl, hBx.trans (hbm.mono hBx.size), hbm⟩)
  case done =>
    intro ys wx hBx hV
    obtain ⟨w2, hw2⟩ : ∃ wy, wy = wx := ⟨_, rfl⟩
    rw [← hw2] at hBx ⊢
    have bw2 := Lib.hid (bel2 bw1.out hBx)
    have zw2 := Lib.hid hBx.size
    have vw2f := Lib.hid (vw1f.out.below hBx vw1f.out.lt)
    have vw2r := Lib.hid (vw1r.out.below hBx vw1r.out.lt)
    have h40 : ys 40 = .string B2 := hV 8 (by decide)
    have h41 : ys 41 = .pointer (some ⟨w.heap.size, 3, none⟩) := hV 9 (by decide)
    clear hBx hV hw2
    simp only [h40, h41, fill, List.drop_succ_cons, List.drop_zero, List.foldl_cons, List.foldl_nil, Act.put, List.setIfInBounds_toArray, List.set_cons_succ, List.set_cons_zero]
    have vf22 := (show Var w2 (w.heap.size) 24 [.int .i64 1, .int .u32 (1 + x), .int .u32 (vl b), .string S] from vw2f.out)
    have c23 := vf22.cell (j := 0) rfl
    have c24 := vf22.cell (j := 1) rfl
    have c25 := vf22.cell (j := 2) rfl
    have c26 := vf22.cell (j := 3) rfl
    clear vf22
    have vf27 := (show Var w2 (w.heap.size) 24 [.int .i64 1, .int .u32 (1 + x), .int .u32 (vl b), .string S] from vw2f.out)
    have f28 := vf27.frozen 0
    have f29 := vf27.frozen 1
    have f30 := vf27.frozen 2
    have f31 := vf27.frozen 3
    clear vf27
    have vf32 := (show Var (w2.setCell ⟨w.heap.size, 3, none⟩ (.string B2)) (w.heap.size) 24 [.int .i64 1, .int .u32 (1 + x), .int .u32 (vl b), .string B2] from (vw2f.out.set 3 (.string B2)))
    have c33 := vf32.cell (j := 0) rfl
    have c34 := vf32.cell (j := 1) rfl
    have c35 := vf32.cell (j := 2) rfl
    have c36 := vf32.cell (j := 3) rfl
    clear vf32
    have vf37 := (show Var (w2.setCell ⟨w.heap.size, 3, none⟩ (.string B2)) (w.heap.size + 1) 24 [.int .i64 0, .int .u32 0, .int .u32 0, .string ⟨#[]⟩] from (Var.othr2 vw2r.out ⟨w.heap.size, 3, none⟩ (.string B2) (by have := zw1.out; have := zw2.out; have := vw2r.out.lt; simp only; omega)))
    have c38 := vf37.cell (j := 0) rfl
    have c39 := vf37.cell (j := 1) rfl
    have c40 := vf37.cell (j := 2) rfl
    have c41 := vf37.cell (j := 3) rfl
    clear vf37
    have vf42 := (show Var (w2.setCell ⟨w.heap.size, 3, none⟩ (.string B2)) (w.heap.size) 24 [.int .i64 1, .int .u32 (1 + x), .int .u32 (vl b), .string B2] from (vw2f.out.set 3 (.string B2)))
    have f43 := vf42.frozen 0
    have f44 := vf42.frozen 1
    have f45 := vf42.frozen 2
    have f46 := vf42.frozen 3
    clear vf42
    have vf47 := (show Var (w2.setCell ⟨w.heap.size, 3, none⟩ (.string B2)) (w.heap.size + 1) 24 [.int .i64 0, .int .u32 0, .int .u32 0, .string ⟨#[]⟩] from (Var.othr2 vw2r.out ⟨w.heap.size, 3, none⟩ (.string B2) (by have := zw1.out; have := zw2.out; have := vw2r.out.lt; simp only; omega)))
    have f48 := vf47.frozen 0
    have f49 := vf47.frozen 1
    have f50 := vf47.frozen 2
    have f51 := vf47.frozen 3
    clear vf47
    go_wp2
    have vf52 := (show Var (((((w2.setCell ⟨w.heap.size, 3, none⟩ (.string B2)).setCell ⟨w.heap.size + 1, 0, none⟩ (.int .i64 1)).setCell ⟨w.heap.size + 1, 1, none⟩ (.int .u32 (1 + x))).setCell ⟨w.heap.size + 1, 2, none⟩ (.int .u32 (vl b))).setCell ⟨w.heap.size + 1, 3, none⟩ (.string B2)) (w.heap.size + 1) 24 [.int .i64 1, .int .u32 (1 + x), .int .u32 (vl b), .string B2] from (((((Var.othr2 vw2r.out ⟨w.heap.size, 3, none⟩ (.string B2) (by have := zw1.out; have := zw2.out; have := vw2r.out.lt; simp only; omega)).set 0 (.int .i64 1)).set 1 (.int .u32 (1 + x))).set 2 (.int .u32 (vl b))).set 3 (.string B2)))
    have c53 := vf52.cell (j := 0) rfl
    have c54 := vf52.cell (j := 1) rfl
    have c55 := vf52.cell (j := 2) rfl
    have c56 := vf52.cell (j := 3) rfl
    clear vf52
    refine bodyPost_ret (v := .agg #[.int .i64 1, .int .u32 (1 + x), .int .u32 (vl b), .string B2]) (by simp [results, Try.results8, go_sem, c53, c54, c55, c56]) rfl ?_
    exact ⟨rfl, (((((bw2.out.setCell (p := ⟨w.heap.size, 3, none⟩) (by have := zw1.out; have := zw2.out; simp only; omega) _).setCell (p := ⟨w.heap.size + 1, 0, none⟩) (by have := zw1.out; have := zw2.out; simp only; omega) _).setCell (p := ⟨w.heap.size + 1, 1, none⟩) (by have := zw1.out; have := zw2.out; simp only; omega) _).setCell (p := ⟨w.heap.size + 1, 2, none⟩) (by have := zw1.out; have := zw2.out; simp only; omega) _).setCell (p := ⟨w.heap.size + 1, 3, none⟩) (by have := zw1.out; have := zw2.out; simp only; omega) _)⟩
set_option maxRecDepth 100000 in
set_option maxHeartbeats 8000000 in
theorem shaped_1_2 (f : Fr) (hs : f.body.length ≤ maxLen) (hk : f.kind % 6 = 1) : ∃ g : Fr, g.body.length ≤ maxLen ∧ ∀ w, Calls Try.prog 8 #[fV f, .int .i64 2] w fun e w' => e = .returned (fV g) ∧ Below w.heap.size w w' := by
  have HP : Hid (∀ w, Calls Try.prog 9 #[.int .i64 f.kind, .int .i64 6] w fun e w' => e = .returned (.int .i64 (f.kind % 6)) ∧ w = w') := fun w => Book.pick_any f.kind 6 (by decide) (by decide) w
  rw [hk] at HP
  obtain ⟨kd, a, b, body⟩ := f
  simp only at HP hs
  have hbs : (bs body).size ≤ maxLen := by rw [bs_size]; exact hs
  unfold fV
  simp only
  obtain ⟨B, hB⟩ : ∃ B, B = bs body := ⟨_, rfl⟩
  rw [← hB] at hbs ⊢
  clear hB hk hs
  obtain ⟨x, hx⟩ : ∃ x, (vl a).tmod 1000 = x := ⟨_, rfl⟩
  have hx1 : 0 ≤ x ∧ x ≤ 999 := by
    have := Crc.vl_range a
    rw [← hx, Int.tmod_eq_emod_of_nonneg this.1]; omega
  have hnn : 0 ≤ maxLen := by first | exact hbs | decide
  have HS := Lib.hid (fun w => shortB_big B hbs (0) hnn (0) rfl w)
  obtain ⟨S, hS⟩ : ∃ S, S = bs (B.data.toList.take (0)) := ⟨_, rfl⟩
  rw [← hS] at HS
  have hbl : B.data.toList.length = B.size := by simp
  have hSe : S.size = min (0) B.size := by rw [hS, bs_size, List.length_take, hbl]
  have hSs : S.size ≤ 0 ∧ S.size ≤ B.size := by omega
  have hSl : 0 - S.size ≤ 16 := by omega
  clear hbl
  obtain ⟨m, hm⟩ : ∃ m : Nat, m = 0 - S.size := ⟨_, rfl⟩
  have hmI : 0 - (S.size : Int) = (m : Int) := by omega
  have HF := Lib.hid (fun w => Flash.fill_any 0 (m : Int) m (.inl rfl) (by omega) w)
  rw [show (((0 : UInt8).toNat : Int)) = 0 from rfl] at HF
  obtain ⟨Z, hZ⟩ : ∃ Z, Z = bs (List.replicate m (0 : UInt8)) := ⟨_, rfl⟩
  rw [← hZ] at HF
  have hZs : Z.size = m := by rw [hZ, bs_size, List.length_replicate]
  obtain ⟨B2, hB2⟩ : ∃ B2, S ++ Z = B2 := ⟨_, rfl⟩
  have hB2n : B2.size = 0 := by rw [← hB2, ByteArray.size_append, hZs]; omega
  have hB2s : B2.size ≤ maxLen := by rw [hB2n]; exact hnn
  have hsum : S.size + Z.size ≤ maxLen := by rw [hZs]; unfold maxLen at hnn ⊢; omega
  unfold maxLen at hsum hbs
  have hSx : S.size ≤ B.size := hSs.2
  clear hS hZ hSl hZs hm hSs hSe
  clear hB2n
  refine ⟨⟨1, wd (1 + x), b, B2.data.toList⟩, dlen_le hB2s, fun w => ?_⟩
  simp only
  have HVX := Lib.hid (show Value.agg #[.int .i64 1, .int .u32 (vl (wd (1 + x))), .int .u32 (vl b), .string (bs B2.data.toList)] = .agg #[.int .i64 1, .int .u32 (1 + x), .int .u32 (vl b), .string B2] by rw [Crc.vl_wd (by omega) (by omega), bs_list])
  rw [HVX.out]
  go_enter Try.func8, Try.ntmps8
  go_wp2_with (first
    | (go_at_call 9; ((with_reducible refine (HP.out _).mono ?_); rintro e wsame ⟨rfl, rfl⟩; have vf1 := (show Var ((w.alloc (.cells #[.int .i64 1, .int .u32 (vl a), .int .u32 (vl b), .string B] 24)).alloc (.cells #[.int .i64 0, .int .u32 0, .int .u32 0, .string ⟨#[]⟩] 24)) (w.heap.size) 24 [.int .i64 1, .int .u32 (vl a), .int .u32 (vl b), .string B] from ((Var.new w 24 [.int .i64 1, .int .u32 (vl a), .int .u32 (vl b), .string B]).alloc _)); have c2 := vf1.cell (j := 0) rfl; have c3 := vf1.cell (j := 1) rfl; have c4 := vf1.cell (j := 2) rfl; have c5 := vf1.cell (j := 3) rfl; clear vf1; have vf6 := (show Var (((w.alloc (.cells #[.int .i64 1, .int .u32 (1 + x), .int .u32 (vl b), .string B] 24)).alloc (.cells #[.int .i64 0, .int .u32 0, .int .u32 0, .string ⟨#[]⟩] 24)).alloc (.cells #[.int .i64 0, .int .i64 0, .int .i64 (B.size : Int), .int .i64 16, .int .i64 4, .int .i64 0] 3)) (w.heap.size) 24 [.int .i64 1, .int .u32 (1 + x), .int .u32 (vl b), .string B] from (((Var.new w 24 [.int .i64 1, .int .u32 (1 + x), .int .u32 (vl b), .string B]).alloc _).alloc _)); have c7 := vf6.cell (j := 0) rfl; have c8 := vf6.cell (j := 1) rfl; have c9 := vf6.cell (j := 2) rfl; have c10 := vf6.cell (j := 3) rfl; clear vf6))
    | (go_at_call 24; ((with_reducible refine (HS.out _).mono ?_); rintro e wsame ⟨rfl, rfl⟩; have vf11 := (show Var (((w.alloc (.cells #[.int .i64 1, .int .u32 (1 + x), .int .u32 (vl b), .string S] 24)).alloc (.cells #[.int .i64 0, .int .u32 0, .int .u32 0, .string ⟨#[]⟩] 24)).alloc (.cells #[.int .i64 0, .int .i64 0, .int .i64 (B.size : Int), .int .i64 16, .int .i64 4, .int .i64 0] 3)) (w.heap.size) 24 [.int .i64 1, .int .u32 (1 + x), .int .u32 (vl b), .string S] from (((Var.new w 24 [.int .i64 1, .int .u32 (1 + x), .int .u32 (vl b), .string S]).alloc _).alloc _)); have c12 := vf11.cell (j := 0) rfl; have c13 := vf11.cell (j := 1) rfl; have c14 := vf11.cell (j := 2) rfl; have c15 := vf11.cell (j := 3) rfl; clear vf11; have vf16 := (show Var (((w.alloc (.cells #[.int .i64 1, .int .u32 (1 + x), .int .u32 (vl b), .string S] 24)).alloc (.cells #[.int .i64 0, .int .u32 0, .int .u32 0, .string ⟨#[]⟩] 24)).alloc (.cells #[.int .i64 0, .int .i64 0, .int .i64 (B.size : Int), .int .i64 16, .int .i64 4, .int .i64 0] 3)) (w.heap.size) 24 [.int .i64 1, .int .u32 (1 + x), .int .u32 (vl b), .string S] from (((Var.new w 24 [.int .i64 1, .int .u32 (1 + x), .int .u32 (vl b), .string S]).alloc _).alloc _)); have f17 := vf16.frozen 0; have f18 := vf16.frozen 1; have f19 := vf16.frozen 2; have f20 := vf16.frozen 3; clear vf16)))
  obtain ⟨w1, hw1⟩ : ∃ wx, wx = (((w.alloc (.cells #[.int .i64 1, .int .u32 (1 + x), .int .u32 (vl b), .string S] 24)).alloc (.cells #[.int .i64 0, .int .u32 0, .int .u32 0, .string ⟨#[]⟩] 24)).alloc (.cells #[.int .i64 0, .int .i64 0, .int .i64 (B.size : Int), .int .i64 16, .int .i64 4, .int .i64 0] 3)) := ⟨_, rfl⟩
  have bw1 := Lib.hid (show Below w.heap.size w w1 by rw [hw1]; exact (bel2 (bel2 (Geom.bel_alloc _ _) (Geom.bel_alloc _ _)) (Geom.bel_alloc _ _)))
  have zw1 := Lib.hid (show w.heap.size + 3 ≤ w1.heap.size by rw [hw1]; simp)
  have vw1f := Lib.hid (show Var w1 (w.heap.size) 24 [.int .i64 1, .int .u32 (1 + x), .int .u32 (vl b), .string S] by rw [hw1]; exact (((Var.new w 24 [.int .i64 1, .int .u32 (1 + x), .int .u32 (vl b), .string S]).alloc _).alloc _))
  have vw1r := Lib.hid (show Var w1 (w.heap.size + 1) 24 [.int .i64 0, .int .u32 0, .int .u32 0, .string ⟨#[]⟩] by rw [hw1]; exact ((show Var ((w.alloc (.cells #[.int .i64 1, .int .u32 (1 + x), .int .u32 (vl b), .string S] 24)).alloc (.cells #[.int .i64 0, .int .u32 0, .int .u32 0, .string ⟨#[]⟩] 24)) (w.heap.size + 1) 24 [.int .i64 0, .int .u32 0, .int .u32 0, .string ⟨#[]⟩] from by have h := Var.new (w.alloc (.cells #[.int .i64 1, .int .u32 (1 + x), .int .u32 (vl b), .string S] 24)) 24 [.int .i64 0, .int .u32 0, .int .u32 0, .string ⟨#[]⟩]; rw [show (w.alloc (.cells #[.int .i64 1, .int .u32 (1 + x), .int .u32 (vl b), .string S] 24)).heap.size = w.heap.size + 1 by simp] at h; exact h).alloc _))
  rw [← hw1]
  clear c2 c3 c4 c5 c7 c8 c9 c10 c12 c13 c14 c15 f17 f18 f19 f20
  refine wp_region_is_tail 10 [32, 33, 34, 35, 36, 37, 38, 39, 40, 41] (fun w' => Below w1.heap.size w1 w')
    [.pointer (some ⟨w.heap.size, 3, none⟩), .string S, .int .i64 0, .pointer (some ⟨w.heap.size, 3, none⟩), .string S, .int .i64 (S.size : Int), .int .i64 (m : Int), .string Z, .string B2, .pointer (some ⟨w.heap.size, 3, none⟩)] (by kernel_rfl) (by kernel_rfl) (by kernel_rfl) (by decide) rfl (by decide) (by simp) (Below.refl _ _).drew ?each ?done
  case each =>
    simp only [List.take_succ_cons, List.take_zero, Each]
    repeat' (first | exact trivial | refine And.intro ?_ ?_)
    all_goals
      intro ys wx hBx hdeps
      simp only [Deps, Region.binds, List.getD_cons_zero, List.getD_cons_succ, forall_const, and_true] at hdeps
      have q21 := (vw1f.out.below hBx vw1f.out.lt).cell (j := 3) rfl
      simp only [hdeps, fill, List.foldl_cons, List.foldl_nil, Act.put, List.setIfInBounds_toArray, List.set_cons_succ, List.set_cons_zero]
      first
        | (go_wp2_with fail; exact ⟨_, rfl, rfl, hBx, Below.refl _ _⟩)
        | (go_wp2_with (go_at_call 25; (with_reducible refine (HF.out _).mono ?_); rintro e w3 ⟨rfl, hbm⟩); exact ⟨_, rfl, rfl, hBx.trans (hbm.mono hBx.size), hbm⟩)
  case done =>
    intro ys wx hBx hV
    obtain ⟨w2, hw2⟩ : ∃ wy, wy = wx := ⟨_, rfl⟩
    rw [← hw2] at hBx ⊢
    have bw2 := Lib.hid (bel2 bw1.out hBx)
    have zw2 := Lib.hid hBx.size
    have vw2f := Lib.hid (vw1f.out.below hBx vw1f.out.lt)
    have vw2r := Lib.hid (vw1r.out.below hBx vw1r.out.lt)
    have h40 : ys 40 = .string B2 := hV 8 (by decide)
    have h41 : ys 41 = .pointer (some ⟨w.heap.size, 3, none⟩) := hV 9 (by decide)
    clear hBx hV hw2
    simp only [h40, h41, fill, List.drop_succ_cons, List.drop_zero, List.foldl_cons, List.foldl_nil, Act.put, List.setIfInBounds_toArray, List.set_cons_succ, List.set_cons_zero]
    have vf22 := (show Var w2 (w.heap.size) 24 [.int .i64 1, .int .u32 (1 + x), .int .u32 (vl b), .string S] from vw2f.out)
    have c23 := vf22.cell (j := 0) rfl
    have c24 := vf22.cell (j := 1) rfl
    have c25 := vf22.cell (j := 2) rfl
    have c26 := vf22.cell (j := 3) rfl
    clear vf22
    have vf27 := (show Var w2 (w.heap.size) 24 [.int .i64 1, .int .u32 (1 + x), .int .u32 (vl b), .string S] from vw2f.out)
    have f28 := vf27.frozen 0
    have f29 := vf27.frozen 1
    have f30 := vf27.frozen 2
    have f31 := vf27.frozen 3
    clear vf27
    have vf32 := (show Var (w2.setCell ⟨w.heap.size, 3, none⟩ (.string B2)) (w.heap.size) 24 [.int .i64 1, .int .u32 (1 + x), .int .u32 (vl b), .string B2] from (vw2f.out.set 3 (.string B2)))
    have c33 := vf32.cell (j := 0) rfl
    have c34 := vf32.cell (j := 1) rfl
    have c35 := vf32.cell (j := 2) rfl
    have c36 := vf32.cell (j := 3) rfl
    clear vf32
    have vf37 := (show Var (w2.setCell ⟨w.heap.size, 3, none⟩ (.string B2)) (w.heap.size + 1) 24 [.int .i64 0, .int .u32 0, .int .u32 0, .string ⟨#[]⟩] from (Var.othr2 vw2r.out ⟨w.heap.size, 3, none⟩ (.string B2) (by have := zw1.out; have := zw2.out; have := vw2r.out.lt; simp only; omega)))
    have c38 := vf37.cell (j := 0) rfl
    have c39 := vf37.cell (j := 1) rfl
    have c40 := vf37.cell (j := 2) rfl
    have c41 := vf37.cell (j := 3) rfl
    clear vf37
    have vf42 := (show Var (w2.setCell ⟨w.heap.size, 3, none⟩ (.string B2)) (w.heap.size) 24 [.int .i64 1, .int .u32 (1 + x), .int .u32 (vl b), .string B2] from (vw2f.out.set 3 (.string B2)))
    have f43 := vf42.frozen 0
    have f44 := vf42.frozen 1
    have f45 := vf42.frozen 2
    have f46 := vf42.frozen 3
    clear vf42
    have vf47 := (show Var (w2.setCell ⟨w.heap.size, 3, none⟩ (.string B2)) (w.heap.size + 1) 24 [.int .i64 0, .int .u32 0, .int .u32 0, .string ⟨#[]⟩] from (Var.othr2 vw2r.out ⟨w.heap.size, 3, none⟩ (.string B2) (by have := zw1.out; have := zw2.out; have := vw2r.out.lt; simp only; omega)))
    have f48 := vf47.frozen 0
    have f49 := vf47.frozen 1
    have f50 := vf47.frozen 2
    have f51 := vf47.frozen 3
    clear vf47
    go_wp2
    have vf52 := (show Var (((((w2.setCell ⟨w.heap.size, 3, none⟩ (.string B2)).setCell ⟨w.heap.size + 1, 0, none⟩ (.int .i64 1)).setCell ⟨w.heap.size + 1, 1, none⟩ (.int .u32 (1 + x))).setCell ⟨w.heap.size + 1, 2, none⟩ (.int .u32 (vl b))).setCell ⟨w.heap.size + 1, 3, none⟩ (.string B2)) (w.heap.size + 1) 24 [.int .i64 1, .int .u32 (1 + x), .int .u32 (vl b), .string B2] from (((((Var.othr2 vw2r.out ⟨w.heap.size, 3, none⟩ (.string B2) (by have := zw1.out; have := zw2.out; have := vw2r.out.lt; simp only; omega)).set 0 (.int .i64 1)).set 1 (.int .u32 (1 + x))).set 2 (.int .u32 (vl b))).set 3 (.string B2)))
    have c53 := vf52.cell (j := 0) rfl
    have c54 := vf52.cell (j := 1) rfl
    have c55 := vf52.cell (j := 2) rfl
    have c56 := vf52.cell (j := 3) rfl
    clear vf52
    refine bodyPost_ret (v := .agg #[.int .i64 1, .int .u32 (1 + x), .int .u32 (vl b), .string B2]) (by simp [results, Try.results8, go_sem, c53, c54, c55, c56]) rfl ?_
    exact ⟨rfl, (((((bw2.out.setCell (p := ⟨w.heap.size, 3, none⟩) (by have := zw1.out; have := zw2.out; simp only; omega) _).setCell (p := ⟨w.heap.size + 1, 0, none⟩) (by have := zw1.out; have := zw2.out; simp only; omega) _).setCell (p := ⟨w.heap.size + 1, 1, none⟩) (by have := zw1.out; have := zw2.out; simp only; omega) _).setCell (p := ⟨w.heap.size + 1, 2, none⟩) (by have := zw1.out; have := zw2.out; simp only; omega) _).setCell (p := ⟨w.heap.size + 1, 3, none⟩) (by have := zw1.out; have := zw2.out; simp only; omega) _)⟩
set_option maxRecDepth 100000 in
set_option maxHeartbeats 8000000 in
theorem shaped_2_1 (f : Fr) (hs : f.body.length ≤ maxLen) (hk : f.kind % 6 = 2) : ∃ g : Fr, g.body.length ≤ maxLen ∧ ∀ w, Calls Try.prog 8 #[fV f, .int .i64 1] w fun e w' => e = .returned (fV g) ∧ Below w.heap.size w w' := by
  have HP : Hid (∀ w, Calls Try.prog 9 #[.int .i64 f.kind, .int .i64 6] w fun e w' => e = .returned (.int .i64 (f.kind % 6)) ∧ w = w') := fun w => Book.pick_any f.kind 6 (by decide) (by decide) w
  rw [hk] at HP
  obtain ⟨kd, a, b, body⟩ := f
  simp only at HP hs
  have hbs : (bs body).size ≤ maxLen := by rw [bs_size]; exact hs
  unfold fV
  simp only
  obtain ⟨B, hB⟩ : ∃ B, B = bs body := ⟨_, rfl⟩
  rw [← hB] at hbs ⊢
  clear hB hk hs
  obtain ⟨x, hx⟩ : ∃ x, (vl a).tmod 1000 = x := ⟨_, rfl⟩
  have hx1 : 0 ≤ x ∧ x ≤ 999 := by
    have := Crc.vl_range a
    rw [← hx, Int.tmod_eq_emod_of_nonneg this.1]; omega
  have hnn : B.size ≤ maxLen := by first | exact hbs | decide
  have HS := Lib.hid (fun w => shortB_big B hbs (B.size) hnn ((B.size : Int)) rfl w)
  obtain ⟨S, hS⟩ : ∃ S, S = bs (B.data.toList.take (B.size)) := ⟨_, rfl⟩
  rw [← hS] at HS
  have hbl : B.data.toList.length = B.size := by simp
  have hSe : S.size = min (B.size) B.size := by rw [hS, bs_size, List.length_take, hbl]
  have hSs : S.size ≤ B.size ∧ S.size ≤ B.size := by omega
  have hSl : B.size - S.size ≤ 16 := by omega
  clear hbl
  obtain ⟨m, hm⟩ : ∃ m : Nat, m = B.size - S.size := ⟨_, rfl⟩
  have hmI : (B.size : Int) - (S.size : Int) = (m : Int) := by omega
  have HF := Lib.hid (fun w => Flash.fill_any 0 (m : Int) m (.inl rfl) (by omega) w)
  rw [show (((0 : UInt8).toNat : Int)) = 0 from rfl] at HF
  obtain ⟨Z, hZ⟩ : ∃ Z, Z = bs (List.replicate m (0 : UInt8)) := ⟨_, rfl⟩
  rw [← hZ] at HF
  have hZs : Z.size = m := by rw [hZ, bs_size, List.length_replicate]
  obtain ⟨B2, hB2⟩ : ∃ B2, S ++ Z = B2 := ⟨_, rfl⟩
  have hB2n : B2.size = B.size := by rw [← hB2, ByteArray.size_append, hZs]; omega
  have hB2s : B2.size ≤ maxLen := by rw [hB2n]; exact hnn
  have hsum : S.size + Z.size ≤ maxLen := by rw [hZs]; unfold maxLen at hnn ⊢; omega
  unfold maxLen at hsum hbs
  have hSx : S.size ≤ B.size := hSs.2
  clear hS hZ hSl hZs hm hSs hSe
  clear hB2n
  refine ⟨⟨2, wd (1 + x), b, B2.data.toList⟩, dlen_le hB2s, fun w => ?_⟩
  simp only
  have HVX := Lib.hid (show Value.agg #[.int .i64 2, .int .u32 (vl (wd (1 + x))), .int .u32 (vl b), .string (bs B2.data.toList)] = .agg #[.int .i64 2, .int .u32 (1 + x), .int .u32 (vl b), .string B2] by rw [Crc.vl_wd (by omega) (by omega), bs_list])
  rw [HVX.out]
  go_enter Try.func8, Try.ntmps8
  go_wp2_with (first
    | (go_at_call 9; ((with_reducible refine (HP.out _).mono ?_); rintro e wsame ⟨rfl, rfl⟩; have vf1 := (show Var ((w.alloc (.cells #[.int .i64 2, .int .u32 (vl a), .int .u32 (vl b), .string B] 24)).alloc (.cells #[.int .i64 0, .int .u32 0, .int .u32 0, .string ⟨#[]⟩] 24)) (w.heap.size) 24 [.int .i64 2, .int .u32 (vl a), .int .u32 (vl b), .string B] from ((Var.new w 24 [.int .i64 2, .int .u32 (vl a), .int .u32 (vl b), .string B]).alloc _)); have c2 := vf1.cell (j := 0) rfl; have c3 := vf1.cell (j := 1) rfl; have c4 := vf1.cell (j := 2) rfl; have c5 := vf1.cell (j := 3) rfl; clear vf1; have vf6 := (show Var (((w.alloc (.cells #[.int .i64 2, .int .u32 (1 + x), .int .u32 (vl b), .string B] 24)).alloc (.cells #[.int .i64 0, .int .u32 0, .int .u32 0, .string ⟨#[]⟩] 24)).alloc (.cells #[.int .i64 0, .int .i64 0, .int .i64 (B.size : Int), .int .i64 16, .int .i64 4, .int .i64 0] 3)) (w.heap.size) 24 [.int .i64 2, .int .u32 (1 + x), .int .u32 (vl b), .string B] from (((Var.new w 24 [.int .i64 2, .int .u32 (1 + x), .int .u32 (vl b), .string B]).alloc _).alloc _)); have c7 := vf6.cell (j := 0) rfl; have c8 := vf6.cell (j := 1) rfl; have c9 := vf6.cell (j := 2) rfl; have c10 := vf6.cell (j := 3) rfl; clear vf6))
    | (go_at_call 24; ((with_reducible refine (HS.out _).mono ?_); rintro e wsame ⟨rfl, rfl⟩; have vf11 := (show Var (((w.alloc (.cells #[.int .i64 2, .int .u32 (1 + x), .int .u32 (vl b), .string S] 24)).alloc (.cells #[.int .i64 0, .int .u32 0, .int .u32 0, .string ⟨#[]⟩] 24)).alloc (.cells #[.int .i64 0, .int .i64 0, .int .i64 (B.size : Int), .int .i64 16, .int .i64 4, .int .i64 0] 3)) (w.heap.size) 24 [.int .i64 2, .int .u32 (1 + x), .int .u32 (vl b), .string S] from (((Var.new w 24 [.int .i64 2, .int .u32 (1 + x), .int .u32 (vl b), .string S]).alloc _).alloc _)); have c12 := vf11.cell (j := 0) rfl; have c13 := vf11.cell (j := 1) rfl; have c14 := vf11.cell (j := 2) rfl; have c15 := vf11.cell (j := 3) rfl; clear vf11; have vf16 := (show Var (((w.alloc (.cells #[.int .i64 2, .int .u32 (1 + x), .int .u32 (vl b), .string S] 24)).alloc (.cells #[.int .i64 0, .int .u32 0, .int .u32 0, .string ⟨#[]⟩] 24)).alloc (.cells #[.int .i64 0, .int .i64 0, .int .i64 (B.size : Int), .int .i64 16, .int .i64 4, .int .i64 0] 3)) (w.heap.size) 24 [.int .i64 2, .int .u32 (1 + x), .int .u32 (vl b), .string S] from (((Var.new w 24 [.int .i64 2, .int .u32 (1 + x), .int .u32 (vl b), .string S]).alloc _).alloc _)); have f17 := vf16.frozen 0; have f18 := vf16.frozen 1; have f19 := vf16.frozen 2; have f20 := vf16.frozen 3; clear vf16)))
  obtain ⟨w1, hw1⟩ : ∃ wx, wx = (((w.alloc (.cells #[.int .i64 2, .int .u32 (1 + x), .int .u32 (vl b), .string S] 24)).alloc (.cells #[.int .i64 0, .int .u32 0, .int .u32 0, .string ⟨#[]⟩] 24)).alloc (.cells #[.int .i64 0, .int .i64 0, .int .i64 (B.size : Int), .int .i64 16, .int .i64 4, .int .i64 0] 3)) := ⟨_, rfl⟩
  have bw1 := Lib.hid (show Below w.heap.size w w1 by rw [hw1]; exact (bel2 (bel2 (Geom.bel_alloc _ _) (Geom.bel_alloc _ _)) (Geom.bel_alloc _ _)))
  have zw1 := Lib.hid (show w.heap.size + 3 ≤ w1.heap.size by rw [hw1]; simp)
  have vw1f := Lib.hid (show Var w1 (w.heap.size) 24 [.int .i64 2, .int .u32 (1 + x), .int .u32 (vl b), .string S] by rw [hw1]; exact (((Var.new w 24 [.int .i64 2, .int .u32 (1 + x), .int .u32 (vl b), .string S]).alloc _).alloc _))
  have vw1r := Lib.hid (show Var w1 (w.heap.size + 1) 24 [.int .i64 0, .int .u32 0, .int .u32 0, .string ⟨#[]⟩] by rw [hw1]; exact ((show Var ((w.alloc (.cells #[.int .i64 2, .int .u32 (1 + x), .int .u32 (vl b), .string S] 24)).alloc (.cells #[.int .i64 0, .int .u32 0, .int .u32 0, .string ⟨#[]⟩] 24)) (w.heap.size + 1) 24 [.int .i64 0, .int .u32 0, .int .u32 0, .string ⟨#[]⟩] from by have h := Var.new (w.alloc (.cells #[.int .i64 2, .int .u32 (1 + x), .int .u32 (vl b), .string S] 24)) 24 [.int .i64 0, .int .u32 0, .int .u32 0, .string ⟨#[]⟩]; rw [show (w.alloc (.cells #[.int .i64 2, .int .u32 (1 + x), .int .u32 (vl b), .string S] 24)).heap.size = w.heap.size + 1 by simp] at h; exact h).alloc _))
  rw [← hw1]
  clear c2 c3 c4 c5 c7 c8 c9 c10 c12 c13 c14 c15 f17 f18 f19 f20
  refine wp_region_is_tail 10 [32, 33, 34, 35, 36, 37, 38, 39, 40, 41] (fun w' => Below w1.heap.size w1 w')
    [.pointer (some ⟨w.heap.size, 3, none⟩), .string S, .int .i64 (B.size : Int), .pointer (some ⟨w.heap.size, 3, none⟩), .string S, .int .i64 (S.size : Int), .int .i64 (m : Int), .string Z, .string B2, .pointer (some ⟨w.heap.size, 3, none⟩)] (by kernel_rfl) (by kernel_rfl) (by kernel_rfl) (by decide) rfl (by decide) (by simp) (Below.refl _ _).drew ?each ?done
  case each =>
    simp only [List.take_succ_cons, List.take_zero, Each]
    repeat' (first | exact trivial | refine And.intro ?_ ?_)
    all_goals
      intro ys wx hBx hdeps
      simp only [Deps, Region.binds, List.getD_cons_zero, List.getD_cons_succ, forall_const, and_true] at hdeps
      have q21 := (vw1f.out.below hBx vw1f.out.lt).cell (j := 3) rfl
      simp only [hdeps, fill, List.foldl_cons, List.foldl_nil, Act.put, List.setIfInBounds_toArray, List.set_cons_succ, List.set_cons_zero]
      first
        | (go_wp2_with fail; exact ⟨_, rfl, rfl, hBx, Below.refl _ _⟩)
        | (go_wp2_with (go_at_call 25; (with_reducible refine (HF.out _).mono ?_); rintro e w3 ⟨rfl, hbm⟩); exact ⟨_, rfl, rfl, hBx.trans (hbm.mono hBx.size), hbm⟩)
  case done =>
    intro ys wx hBx hV
    obtain ⟨w2, hw2⟩ : ∃ wy, wy = wx := ⟨_, rfl⟩
    rw [← hw2] at hBx ⊢
    have bw2 := Lib.hid (bel2 bw1.out hBx)
    have zw2 := Lib.hid hBx.size
    have vw2f := Lib.hid (vw1f.out.below hBx vw1f.out.lt)
    have vw2r := Lib.hid (vw1r.out.below hBx vw1r.out.lt)
    have h40 : ys 40 = .string B2 := hV 8 (by decide)
    have h41 : ys 41 = .pointer (some ⟨w.heap.size, 3, none⟩) := hV 9 (by decide)
    clear hBx hV hw2
    simp only [h40, h41, fill, List.drop_succ_cons, List.drop_zero, List.foldl_cons, List.foldl_nil, Act.put, List.setIfInBounds_toArray, List.set_cons_succ, List.set_cons_zero]
    have vf22 := (show Var w2 (w.heap.size) 24 [.int .i64 2, .int .u32 (1 + x), .int .u32 (vl b), .string S] from vw2f.out)
    have c23 := vf22.cell (j := 0) rfl
    have c24 := vf22.cell (j := 1) rfl
    have c25 := vf22.cell (j := 2) rfl
    have c26 := vf22.cell (j := 3) rfl
    clear vf22
    have vf27 := (show Var w2 (w.heap.size) 24 [.int .i64 2, .int .u32 (1 + x), .int .u32 (vl b), .string S] from vw2f.out)
    have f28 := vf27.frozen 0
    have f29 := vf27.frozen 1
    have f30 := vf27.frozen 2
    have f31 := vf27.frozen 3
    clear vf27
    have vf32 := (show Var (w2.setCell ⟨w.heap.size, 3, none⟩ (.string B2)) (w.heap.size) 24 [.int .i64 2, .int .u32 (1 + x), .int .u32 (vl b), .string B2] from (vw2f.out.set 3 (.string B2)))
    have c33 := vf32.cell (j := 0) rfl
    have c34 := vf32.cell (j := 1) rfl
    have c35 := vf32.cell (j := 2) rfl
    have c36 := vf32.cell (j := 3) rfl
    clear vf32
    have vf37 := (show Var (w2.setCell ⟨w.heap.size, 3, none⟩ (.string B2)) (w.heap.size + 1) 24 [.int .i64 0, .int .u32 0, .int .u32 0, .string ⟨#[]⟩] from (Var.othr2 vw2r.out ⟨w.heap.size, 3, none⟩ (.string B2) (by have := zw1.out; have := zw2.out; have := vw2r.out.lt; simp only; omega)))
    have c38 := vf37.cell (j := 0) rfl
    have c39 := vf37.cell (j := 1) rfl
    have c40 := vf37.cell (j := 2) rfl
    have c41 := vf37.cell (j := 3) rfl
    clear vf37
    have vf42 := (show Var (w2.setCell ⟨w.heap.size, 3, none⟩ (.string B2)) (w.heap.size) 24 [.int .i64 2, .int .u32 (1 + x), .int .u32 (vl b), .string B2] from (vw2f.out.set 3 (.string B2)))
    have f43 := vf42.frozen 0
    have f44 := vf42.frozen 1
    have f45 := vf42.frozen 2
    have f46 := vf42.frozen 3
    clear vf42
    have vf47 := (show Var (w2.setCell ⟨w.heap.size, 3, none⟩ (.string B2)) (w.heap.size + 1) 24 [.int .i64 0, .int .u32 0, .int .u32 0, .string ⟨#[]⟩] from (Var.othr2 vw2r.out ⟨w.heap.size, 3, none⟩ (.string B2) (by have := zw1.out; have := zw2.out; have := vw2r.out.lt; simp only; omega)))
    have f48 := vf47.frozen 0
    have f49 := vf47.frozen 1
    have f50 := vf47.frozen 2
    have f51 := vf47.frozen 3
    clear vf47
    go_wp2
    have vf52 := (show Var (((((w2.setCell ⟨w.heap.size, 3, none⟩ (.string B2)).setCell ⟨w.heap.size + 1, 0, none⟩ (.int .i64 2)).setCell ⟨w.heap.size + 1, 1, none⟩ (.int .u32 (1 + x))).setCell ⟨w.heap.size + 1, 2, none⟩ (.int .u32 (vl b))).setCell ⟨w.heap.size + 1, 3, none⟩ (.string B2)) (w.heap.size + 1) 24 [.int .i64 2, .int .u32 (1 + x), .int .u32 (vl b), .string B2] from (((((Var.othr2 vw2r.out ⟨w.heap.size, 3, none⟩ (.string B2) (by have := zw1.out; have := zw2.out; have := vw2r.out.lt; simp only; omega)).set 0 (.int .i64 2)).set 1 (.int .u32 (1 + x))).set 2 (.int .u32 (vl b))).set 3 (.string B2)))
    have c53 := vf52.cell (j := 0) rfl
    have c54 := vf52.cell (j := 1) rfl
    have c55 := vf52.cell (j := 2) rfl
    have c56 := vf52.cell (j := 3) rfl
    clear vf52
    refine bodyPost_ret (v := .agg #[.int .i64 2, .int .u32 (1 + x), .int .u32 (vl b), .string B2]) (by simp [results, Try.results8, go_sem, c53, c54, c55, c56]) rfl ?_
    exact ⟨rfl, (((((bw2.out.setCell (p := ⟨w.heap.size, 3, none⟩) (by have := zw1.out; have := zw2.out; simp only; omega) _).setCell (p := ⟨w.heap.size + 1, 0, none⟩) (by have := zw1.out; have := zw2.out; simp only; omega) _).setCell (p := ⟨w.heap.size + 1, 1, none⟩) (by have := zw1.out; have := zw2.out; simp only; omega) _).setCell (p := ⟨w.heap.size + 1, 2, none⟩) (by have := zw1.out; have := zw2.out; simp only; omega) _).setCell (p := ⟨w.heap.size + 1, 3, none⟩) (by have := zw1.out; have := zw2.out; simp only; omega) _)⟩
set_option maxRecDepth 100000 in
set_option maxHeartbeats 8000000 in
theorem shaped_2_2 (f : Fr) (hs : f.body.length ≤ maxLen) (hk : f.kind % 6 = 2) : ∃ g : Fr, g.body.length ≤ maxLen ∧ ∀ w, Calls Try.prog 8 #[fV f, .int .i64 2] w fun e w' => e = .returned (fV g) ∧ Below w.heap.size w w' := by
  have HP : Hid (∀ w, Calls Try.prog 9 #[.int .i64 f.kind, .int .i64 6] w fun e w' => e = .returned (.int .i64 (f.kind % 6)) ∧ w = w') := fun w => Book.pick_any f.kind 6 (by decide) (by decide) w
  rw [hk] at HP
  obtain ⟨kd, a, b, body⟩ := f
  simp only at HP hs
  have hbs : (bs body).size ≤ maxLen := by rw [bs_size]; exact hs
  unfold fV
  simp only
  obtain ⟨B, hB⟩ : ∃ B, B = bs body := ⟨_, rfl⟩
  rw [← hB] at hbs ⊢
  clear hB hk hs
  obtain ⟨x, hx⟩ : ∃ x, (vl a).tmod 1000 = x := ⟨_, rfl⟩
  have hx1 : 0 ≤ x ∧ x ≤ 999 := by
    have := Crc.vl_range a
    rw [← hx, Int.tmod_eq_emod_of_nonneg this.1]; omega
  have hnn : B.size ≤ maxLen := by first | exact hbs | decide
  have HS := Lib.hid (fun w => shortB_big B hbs (B.size) hnn ((B.size : Int)) rfl w)
  obtain ⟨S, hS⟩ : ∃ S, S = bs (B.data.toList.take (B.size)) := ⟨_, rfl⟩
  rw [← hS] at HS
  have hbl : B.data.toList.length = B.size := by simp
  have hSe : S.size = min (B.size) B.size := by rw [hS, bs_size, List.length_take, hbl]
  have hSs : S.size ≤ B.size ∧ S.size ≤ B.size := by omega
  have hSl : B.size - S.size ≤ 16 := by omega
  clear hbl
  obtain ⟨m, hm⟩ : ∃ m : Nat, m = B.size - S.size := ⟨_, rfl⟩
  have hmI : (B.size : Int) - (S.size : Int) = (m : Int) := by omega
  have HF := Lib.hid (fun w => Flash.fill_any 0 (m : Int) m (.inl rfl) (by omega) w)
  rw [show (((0 : UInt8).toNat : Int)) = 0 from rfl] at HF
  obtain ⟨Z, hZ⟩ : ∃ Z, Z = bs (List.replicate m (0 : UInt8)) := ⟨_, rfl⟩
  rw [← hZ] at HF
  have hZs : Z.size = m := by rw [hZ, bs_size, List.length_replicate]
  obtain ⟨B2, hB2⟩ : ∃ B2, S ++ Z = B2 := ⟨_, rfl⟩
  have hB2n : B2.size = B.size := by rw [← hB2, ByteArray.size_append, hZs]; omega
  have hB2s : B2.size ≤ maxLen := by rw [hB2n]; exact hnn
  have hsum : S.size + Z.size ≤ maxLen := by rw [hZs]; unfold maxLen at hnn ⊢; omega
  unfold maxLen at hsum hbs
  have hSx : S.size ≤ B.size := hSs.2
  clear hS hZ hSl hZs hm hSs hSe
  clear hB2n
  refine ⟨⟨2, wd (1 + x), b, B2.data.toList⟩, dlen_le hB2s, fun w => ?_⟩
  simp only
  have HVX := Lib.hid (show Value.agg #[.int .i64 2, .int .u32 (vl (wd (1 + x))), .int .u32 (vl b), .string (bs B2.data.toList)] = .agg #[.int .i64 2, .int .u32 (1 + x), .int .u32 (vl b), .string B2] by rw [Crc.vl_wd (by omega) (by omega), bs_list])
  rw [HVX.out]
  go_enter Try.func8, Try.ntmps8
  go_wp2_with (first
    | (go_at_call 9; ((with_reducible refine (HP.out _).mono ?_); rintro e wsame ⟨rfl, rfl⟩; have vf1 := (show Var ((w.alloc (.cells #[.int .i64 2, .int .u32 (vl a), .int .u32 (vl b), .string B] 24)).alloc (.cells #[.int .i64 0, .int .u32 0, .int .u32 0, .string ⟨#[]⟩] 24)) (w.heap.size) 24 [.int .i64 2, .int .u32 (vl a), .int .u32 (vl b), .string B] from ((Var.new w 24 [.int .i64 2, .int .u32 (vl a), .int .u32 (vl b), .string B]).alloc _)); have c2 := vf1.cell (j := 0) rfl; have c3 := vf1.cell (j := 1) rfl; have c4 := vf1.cell (j := 2) rfl; have c5 := vf1.cell (j := 3) rfl; clear vf1; have vf6 := (show Var (((w.alloc (.cells #[.int .i64 2, .int .u32 (1 + x), .int .u32 (vl b), .string B] 24)).alloc (.cells #[.int .i64 0, .int .u32 0, .int .u32 0, .string ⟨#[]⟩] 24)).alloc (.cells #[.int .i64 0, .int .i64 0, .int .i64 (B.size : Int), .int .i64 16, .int .i64 4, .int .i64 0] 3)) (w.heap.size) 24 [.int .i64 2, .int .u32 (1 + x), .int .u32 (vl b), .string B] from (((Var.new w 24 [.int .i64 2, .int .u32 (1 + x), .int .u32 (vl b), .string B]).alloc _).alloc _)); have c7 := vf6.cell (j := 0) rfl; have c8 := vf6.cell (j := 1) rfl; have c9 := vf6.cell (j := 2) rfl; have c10 := vf6.cell (j := 3) rfl; clear vf6))
    | (go_at_call 24; ((with_reducible refine (HS.out _).mono ?_); rintro e wsame ⟨rfl, rfl⟩; have vf11 := (show Var (((w.alloc (.cells #[.int .i64 2, .int .u32 (1 + x), .int .u32 (vl b), .string S] 24)).alloc (.cells #[.int .i64 0, .int .u32 0, .int .u32 0, .string ⟨#[]⟩] 24)).alloc (.cells #[.int .i64 0, .int .i64 0, .int .i64 (B.size : Int), .int .i64 16, .int .i64 4, .int .i64 0] 3)) (w.heap.size) 24 [.int .i64 2, .int .u32 (1 + x), .int .u32 (vl b), .string S] from (((Var.new w 24 [.int .i64 2, .int .u32 (1 + x), .int .u32 (vl b), .string S]).alloc _).alloc _)); have c12 := vf11.cell (j := 0) rfl; have c13 := vf11.cell (j := 1) rfl; have c14 := vf11.cell (j := 2) rfl; have c15 := vf11.cell (j := 3) rfl; clear vf11; have vf16 := (show Var (((w.alloc (.cells #[.int .i64 2, .int .u32 (1 + x), .int .u32 (vl b), .string S] 24)).alloc (.cells #[.int .i64 0, .int .u32 0, .int .u32 0, .string ⟨#[]⟩] 24)).alloc (.cells #[.int .i64 0, .int .i64 0, .int .i64 (B.size : Int), .int .i64 16, .int .i64 4, .int .i64 0] 3)) (w.heap.size) 24 [.int .i64 2, .int .u32 (1 + x), .int .u32 (vl b), .string S] from (((Var.new w 24 [.int .i64 2, .int .u32 (1 + x), .int .u32 (vl b), .string S]).alloc _).alloc _)); have f17 := vf16.frozen 0; have f18 := vf16.frozen 1; have f19 := vf16.frozen 2; have f20 := vf16.frozen 3; clear vf16)))
  obtain ⟨w1, hw1⟩ : ∃ wx, wx = (((w.alloc (.cells #[.int .i64 2, .int .u32 (1 + x), .int .u32 (vl b), .string S] 24)).alloc (.cells #[.int .i64 0, .int .u32 0, .int .u32 0, .string ⟨#[]⟩] 24)).alloc (.cells #[.int .i64 0, .int .i64 0, .int .i64 (B.size : Int), .int .i64 16, .int .i64 4, .int .i64 0] 3)) := ⟨_, rfl⟩
  have bw1 := Lib.hid (show Below w.heap.size w w1 by rw [hw1]; exact (bel2 (bel2 (Geom.bel_alloc _ _) (Geom.bel_alloc _ _)) (Geom.bel_alloc _ _)))
  have zw1 := Lib.hid (show w.heap.size + 3 ≤ w1.heap.size by rw [hw1]; simp)
  have vw1f := Lib.hid (show Var w1 (w.heap.size) 24 [.int .i64 2, .int .u32 (1 + x), .int .u32 (vl b), .string S] by rw [hw1]; exact (((Var.new w 24 [.int .i64 2, .int .u32 (1 + x), .int .u32 (vl b), .string S]).alloc _).alloc _))
  have vw1r := Lib.hid (show Var w1 (w.heap.size + 1) 24 [.int .i64 0, .int .u32 0, .int .u32 0, .string ⟨#[]⟩] by rw [hw1]; exact ((show Var ((w.alloc (.cells #[.int .i64 2, .int .u32 (1 + x), .int .u32 (vl b), .string S] 24)).alloc (.cells #[.int .i64 0, .int .u32 0, .int .u32 0, .string ⟨#[]⟩] 24)) (w.heap.size + 1) 24 [.int .i64 0, .int .u32 0, .int .u32 0, .string ⟨#[]⟩] from by have h := Var.new (w.alloc (.cells #[.int .i64 2, .int .u32 (1 + x), .int .u32 (vl b), .string S] 24)) 24 [.int .i64 0, .int .u32 0, .int .u32 0, .string ⟨#[]⟩]; rw [show (w.alloc (.cells #[.int .i64 2, .int .u32 (1 + x), .int .u32 (vl b), .string S] 24)).heap.size = w.heap.size + 1 by simp] at h; exact h).alloc _))
  rw [← hw1]
  clear c2 c3 c4 c5 c7 c8 c9 c10 c12 c13 c14 c15 f17 f18 f19 f20
  refine wp_region_is_tail 10 [32, 33, 34, 35, 36, 37, 38, 39, 40, 41] (fun w' => Below w1.heap.size w1 w')
    [.pointer (some ⟨w.heap.size, 3, none⟩), .string S, .int .i64 (B.size : Int), .pointer (some ⟨w.heap.size, 3, none⟩), .string S, .int .i64 (S.size : Int), .int .i64 (m : Int), .string Z, .string B2, .pointer (some ⟨w.heap.size, 3, none⟩)] (by kernel_rfl) (by kernel_rfl) (by kernel_rfl) (by decide) rfl (by decide) (by simp) (Below.refl _ _).drew ?each ?done
  case each =>
    simp only [List.take_succ_cons, List.take_zero, Each]
    repeat' (first | exact trivial | refine And.intro ?_ ?_)
    all_goals
      intro ys wx hBx hdeps
      simp only [Deps, Region.binds, List.getD_cons_zero, List.getD_cons_succ, forall_const, and_true] at hdeps
      have q21 := (vw1f.out.below hBx vw1f.out.lt).cell (j := 3) rfl
      simp only [hdeps, fill, List.foldl_cons, List.foldl_nil, Act.put, List.setIfInBounds_toArray, List.set_cons_succ, List.set_cons_zero]
      first
        | (go_wp2_with fail; exact ⟨_, rfl, rfl, hBx, Below.refl _ _⟩)
        | (go_wp2_with (go_at_call 25; (with_reducible refine (HF.out _).mono ?_); rintro e w3 ⟨rfl, hbm⟩); exact ⟨_, rfl, rfl, hBx.trans (hbm.mono hBx.size), hbm⟩)
  case done =>
    intro ys wx hBx hV
    obtain ⟨w2, hw2⟩ : ∃ wy, wy = wx := ⟨_, rfl⟩
    rw [← hw2] at hBx ⊢
    have bw2 := Lib.hid (bel2 bw1.out hBx)
    have zw2 := Lib.hid hBx.size
    have vw2f := Lib.hid (vw1f.out.below hBx vw1f.out.lt)
    have vw2r := Lib.hid (vw1r.out.below hBx vw1r.out.lt)
    have h40 : ys 40 = .string B2 := hV 8 (by decide)
    have h41 : ys 41 = .pointer (some ⟨w.heap.size, 3, none⟩) := hV 9 (by decide)
    clear hBx hV hw2
    simp only [h40, h41, fill, List.drop_succ_cons, List.drop_zero, List.foldl_cons, List.foldl_nil, Act.put, List.setIfInBounds_toArray, List.set_cons_succ, List.set_cons_zero]
    have vf22 := (show Var w2 (w.heap.size) 24 [.int .i64 2, .int .u32 (1 + x), .int .u32 (vl b), .string S] from vw2f.out)
    have c23 := vf22.cell (j := 0) rfl
    have c24 := vf22.cell (j := 1) rfl
    have c25 := vf22.cell (j := 2) rfl
    have c26 := vf22.cell (j := 3) rfl
    clear vf22
    have vf27 := (show Var w2 (w.heap.size) 24 [.int .i64 2, .int .u32 (1 + x), .int .u32 (vl b), .string S] from vw2f.out)
    have f28 := vf27.frozen 0
    have f29 := vf27.frozen 1
    have f30 := vf27.frozen 2
    have f31 := vf27.frozen 3
    clear vf27
    have vf32 := (show Var (w2.setCell ⟨w.heap.size, 3, none⟩ (.string B2)) (w.heap.size) 24 [.int .i64 2, .int .u32 (1 + x), .int .u32 (vl b), .string B2] from (vw2f.out.set 3 (.string B2)))
    have c33 := vf32.cell (j := 0) rfl
    have c34 := vf32.cell (j := 1) rfl
    have c35 := vf32.cell (j := 2) rfl
    have c36 := vf32.cell (j := 3) rfl
    clear vf32
    have vf37 := (show Var (w2.setCell ⟨w.heap.size, 3, none⟩ (.string B2)) (w.heap.size + 1) 24 [.int .i64 0, .int .u32 0, .int .u32 0, .string ⟨#[]⟩] from (Var.othr2 vw2r.out ⟨w.heap.size, 3, none⟩ (.string B2) (by have := zw1.out; have := zw2.out; have := vw2r.out.lt; simp only; omega)))
    have c38 := vf37.cell (j := 0) rfl
    have c39 := vf37.cell (j := 1) rfl
    have c40 := vf37.cell (j := 2) rfl
    have c41 := vf37.cell (j := 3) rfl
    clear vf37
    have vf42 := (show Var (w2.setCell ⟨w.heap.size, 3, none⟩ (.string B2)) (w.heap.size) 24 [.int .i64 2, .int .u32 (1 + x), .int .u32 (vl b), .string B2] from (vw2f.out.set 3 (.string B2)))
    have f43 := vf42.frozen 0
    have f44 := vf42.frozen 1
    have f45 := vf42.frozen 2
    have f46 := vf42.frozen 3
    clear vf42
    have vf47 := (show Var (w2.setCell ⟨w.heap.size, 3, none⟩ (.string B2)) (w.heap.size + 1) 24 [.int .i64 0, .int .u32 0, .int .u32 0, .string ⟨#[]⟩] from (Var.othr2 vw2r.out ⟨w.heap.size, 3, none⟩ (.string B2) (by have := zw1.out; have := zw2.out; have := vw2r.out.lt; simp only; omega)))
    have f48 := vf47.frozen 0
    have f49 := vf47.frozen 1
    have f50 := vf47.frozen 2
    have f51 := vf47.frozen 3
    clear vf47
    go_wp2
    have vf52 := (show Var (((((w2.setCell ⟨w.heap.size, 3, none⟩ (.string B2)).setCell ⟨w.heap.size + 1, 0, none⟩ (.int .i64 2)).setCell ⟨w.heap.size + 1, 1, none⟩ (.int .u32 (1 + x))).setCell ⟨w.heap.size + 1, 2, none⟩ (.int .u32 (vl b))).setCell ⟨w.heap.size + 1, 3, none⟩ (.string B2)) (w.heap.size + 1) 24 [.int .i64 2, .int .u32 (1 + x), .int .u32 (vl b), .string B2] from (((((Var.othr2 vw2r.out ⟨w.heap.size, 3, none⟩ (.string B2) (by have := zw1.out; have := zw2.out; have := vw2r.out.lt; simp only; omega)).set 0 (.int .i64 2)).set 1 (.int .u32 (1 + x))).set 2 (.int .u32 (vl b))).set 3 (.string B2)))
    have c53 := vf52.cell (j := 0) rfl
    have c54 := vf52.cell (j := 1) rfl
    have c55 := vf52.cell (j := 2) rfl
    have c56 := vf52.cell (j := 3) rfl
    clear vf52
    refine bodyPost_ret (v := .agg #[.int .i64 2, .int .u32 (1 + x), .int .u32 (vl b), .string B2]) (by simp [results, Try.results8, go_sem, c53, c54, c55, c56]) rfl ?_
    exact ⟨rfl, (((((bw2.out.setCell (p := ⟨w.heap.size, 3, none⟩) (by have := zw1.out; have := zw2.out; simp only; omega) _).setCell (p := ⟨w.heap.size + 1, 0, none⟩) (by have := zw1.out; have := zw2.out; simp only; omega) _).setCell (p := ⟨w.heap.size + 1, 1, none⟩) (by have := zw1.out; have := zw2.out; simp only; omega) _).setCell (p := ⟨w.heap.size + 1, 2, none⟩) (by have := zw1.out; have := zw2.out; simp only; omega) _).setCell (p := ⟨w.heap.size + 1, 3, none⟩) (by have := zw1.out; have := zw2.out; simp only; omega) _)⟩
set_option maxRecDepth 100000 in
set_option maxHeartbeats 8000000 in
theorem shaped_3_1 (f : Fr) (hs : f.body.length ≤ maxLen) (hk : f.kind % 6 = 3) : ∃ g : Fr, g.body.length ≤ maxLen ∧ ∀ w, Calls Try.prog 8 #[fV f, .int .i64 1] w fun e w' => e = .returned (fV g) ∧ Below w.heap.size w w' := by
  have HP : Hid (∀ w, Calls Try.prog 9 #[.int .i64 f.kind, .int .i64 6] w fun e w' => e = .returned (.int .i64 (f.kind % 6)) ∧ w = w') := fun w => Book.pick_any f.kind 6 (by decide) (by decide) w
  rw [hk] at HP
  obtain ⟨kd, a, b, body⟩ := f
  simp only at HP hs
  have hbs : (bs body).size ≤ maxLen := by rw [bs_size]; exact hs
  unfold fV
  simp only
  obtain ⟨B, hB⟩ : ∃ B, B = bs body := ⟨_, rfl⟩
  rw [← hB] at hbs ⊢
  clear hB hk hs
  obtain ⟨x, hx⟩ : ∃ x, (vl a).tmod 1000 = x := ⟨_, rfl⟩
  have hx1 : 0 ≤ x ∧ x ≤ 999 := by
    have := Crc.vl_range a
    rw [← hx, Int.tmod_eq_emod_of_nonneg this.1]; omega
  have hnn : 16 ≤ maxLen := by first | exact hbs | decide
  have HS := Lib.hid (fun w => shortB_big B hbs (16) hnn (16) rfl w)
  obtain ⟨S, hS⟩ : ∃ S, S = bs (B.data.toList.take (16)) := ⟨_, rfl⟩
  rw [← hS] at HS
  have hbl : B.data.toList.length = B.size := by simp
  have hSe : S.size = min (16) B.size := by rw [hS, bs_size, List.length_take, hbl]
  have hSs : S.size ≤ 16 ∧ S.size ≤ B.size := by omega
  have hSl : 16 - S.size ≤ 16 := by omega
  clear hbl
  obtain ⟨m, hm⟩ : ∃ m : Nat, m = 16 - S.size := ⟨_, rfl⟩
  have hmI : 16 - (S.size : Int) = (m : Int) := by omega
  have HF := Lib.hid (fun w => Flash.fill_any 0 (m : Int) m (.inl rfl) (by omega) w)
  rw [show (((0 : UInt8).toNat : Int)) = 0 from rfl] at HF
  obtain ⟨Z, hZ⟩ : ∃ Z, Z = bs (List.replicate m (0 : UInt8)) := ⟨_, rfl⟩
  rw [← hZ] at HF
  have hZs : Z.size = m := by rw [hZ, bs_size, List.length_replicate]
  obtain ⟨B2, hB2⟩ : ∃ B2, S ++ Z = B2 := ⟨_, rfl⟩
  have hB2n : B2.size = 16 := by rw [← hB2, ByteArray.size_append, hZs]; omega
  have hB2s : B2.size ≤ maxLen := by rw [hB2n]; exact hnn
  have hsum : S.size + Z.size ≤ maxLen := by rw [hZs]; unfold maxLen at hnn ⊢; omega
  unfold maxLen at hsum hbs
  have hSx : S.size ≤ B.size := hSs.2
  clear hS hZ hSl hZs hm hSs hSe
  have hy0 := Crc.vl_range b
  obtain ⟨y, hy⟩ : ∃ y, (vl b).tmod (1 + x) = y := ⟨_, rfl⟩
  have hy1 : 0 ≤ y ∧ y < 1 + x := by
    rw [← hy, Int.tmod_eq_emod_of_nonneg hy0.1]
    exact ⟨Int.emod_nonneg _ (by omega), Int.emod_lt_of_pos _ (by omega)⟩
  have hne : ((1 + x : Int) == 0) = false := by rw [beq_eq_false_iff_ne]; omega
  have HQ1 := Lib.hid (fun w => Frame.refPut_any (wd (x)) w)
  rw [Crc.vl_wd (by omega) (by omega)] at HQ1
  obtain ⟨P1, hP1⟩ : ∃ P, P = putS (wd (x)) := ⟨_, rfl⟩
  rw [← hP1] at HQ1
  have p1 : P1.size = 4 := by rw [hP1]; rfl
  have HQ2 := Lib.hid (fun w => Frame.refPut_any (wd (1 + y)) w)
  rw [Crc.vl_wd (by omega) (by omega)] at HQ2
  obtain ⟨P2, hP2⟩ : ∃ P, P = putS (wd (1 + y)) := ⟨_, rfl⟩
  rw [← hP2] at HQ2
  have p2 : P2.size = 4 := by rw [hP2]; rfl
  have HQ3 := Lib.hid (fun w => Frame.refPut_any (wd (17)) w)
  rw [Crc.vl_wd (by omega) (by omega)] at HQ3
  obtain ⟨P3, hP3⟩ : ∃ P, P = putS (wd (17)) := ⟨_, rfl⟩
  rw [← hP3] at HQ3
  have p3 : P3.size = 4 := by rw [hP3]; rfl
  obtain ⟨C, hC⟩ : ∃ C, C = bs (Flash.cut B2.data.toList 8 4) := ⟨_, rfl⟩
  have hl16 : B2.data.toList.length = 16 := by rw [← hB2n]; simp
  have hCs : C.size = 4 := by rw [hC, bs_size]; unfold Flash.cut; rw [List.length_take, List.length_drop, hl16]; rfl
  have hsl := Txt.cutSS B2.data.toList 8 12 8 12 rfl rfl (by omega) (by omega)
  rw [bs_list, show (12 : Nat) - 8 = 4 from rfl, ← hC] at hsl
  have hB2I : (B2.size : Int) = 16 := by omega
  obtain ⟨B3, hB3⟩ : ∃ B3, P1 ++ P2 ++ C ++ P3 = B3 := ⟨_, rfl⟩
  have hB3n : B3.size = 16 := by rw [← hB3]; simp only [ByteArray.size_append]; omega
  have hx2 : 1 + x - 1 = x := by omega
  clear hP1 hP2 hP3 hC hl16 hB2n
  refine ⟨⟨3, wd (1 + x), b, B3.data.toList⟩, dlen_le (by rw [hB3n]; decide), fun w => ?_⟩
  simp only
  have HVX := Lib.hid (show Value.agg #[.int .i64 3, .int .u32 (vl (wd (1 + x))), .int .u32 (vl b), .string (bs B3.data.toList)] = .agg #[.int .i64 3, .int .u32 (1 + x), .int .u32 (vl b), .string B3] by rw [Crc.vl_wd (by omega) (by omega), bs_list])
  rw [HVX.out]
  go_enter Try.func8, Try.ntmps8
  go_wp2_with (first
    | (go_at_call 9; ((with_reducible refine (HP.out _).mono ?_); rintro e wsame ⟨rfl, rfl⟩; have vf1 := (show Var ((w.alloc (.cells #[.int .i64 3, .int .u32 (vl a), .int .u32 (vl b), .string B] 24)).alloc (.cells #[.int .i64 0, .int .u32 0, .int .u32 0, .string ⟨#[]⟩] 24)) (w.heap.size) 24 [.int .i64 3, .int .u32 (vl a), .int .u32 (vl b), .string B] from ((Var.new w 24 [.int .i64 3, .int .u32 (vl a), .int .u32 (vl b), .string B]).alloc _)); have c2 := vf1.cell (j := 0) rfl; have c3 := vf1.cell (j := 1) rfl; have c4 := vf1.cell (j := 2) rfl; have c5 := vf1.cell (j := 3) rfl; clear vf1; have vf6 := (show Var (((w.alloc (.cells #[.int .i64 3, .int .u32 (1 + x), .int .u32 (vl b), .string B] 24)).alloc (.cells #[.int .i64 0, .int .u32 0, .int .u32 0, .string ⟨#[]⟩] 24)).alloc (.cells #[.int .i64 0, .int .i64 0, .int .i64 (B.size : Int), .int .i64 16, .int .i64 4, .int .i64 0] 3)) (w.heap.size) 24 [.int .i64 3, .int .u32 (1 + x), .int .u32 (vl b), .string B] from (((Var.new w 24 [.int .i64 3, .int .u32 (1 + x), .int .u32 (vl b), .string B]).alloc _).alloc _)); have c7 := vf6.cell (j := 0) rfl; have c8 := vf6.cell (j := 1) rfl; have c9 := vf6.cell (j := 2) rfl; have c10 := vf6.cell (j := 3) rfl; clear vf6))
    | (go_at_call 24; ((with_reducible refine (HS.out _).mono ?_); rintro e wsame ⟨rfl, rfl⟩; have vf11 := (show Var (((w.alloc (.cells #[.int .i64 3, .int .u32 (1 + x), .int .u32 (vl b), .string S] 24)).alloc (.cells #[.int .i64 0, .int .u32 0, .int .u32 0, .string ⟨#[]⟩] 24)).alloc (.cells #[.int .i64 0, .int .i64 0, .int .i64 (B.size : Int), .int .i64 16, .int .i64 4, .int .i64 0] 3)) (w.heap.size) 24 [.int .i64 3, .int .u32 (1 + x), .int .u32 (vl b), .string S] from (((Var.new w 24 [.int .i64 3, .int .u32 (1 + x), .int .u32 (vl b), .string S]).alloc _).alloc _)); have c12 := vf11.cell (j := 0) rfl; have c13 := vf11.cell (j := 1) rfl; have c14 := vf11.cell (j := 2) rfl; have c15 := vf11.cell (j := 3) rfl; clear vf11; have vf16 := (show Var (((w.alloc (.cells #[.int .i64 3, .int .u32 (1 + x), .int .u32 (vl b), .string S] 24)).alloc (.cells #[.int .i64 0, .int .u32 0, .int .u32 0, .string ⟨#[]⟩] 24)).alloc (.cells #[.int .i64 0, .int .i64 0, .int .i64 (B.size : Int), .int .i64 16, .int .i64 4, .int .i64 0] 3)) (w.heap.size) 24 [.int .i64 3, .int .u32 (1 + x), .int .u32 (vl b), .string S] from (((Var.new w 24 [.int .i64 3, .int .u32 (1 + x), .int .u32 (vl b), .string S]).alloc _).alloc _)); have f17 := vf16.frozen 0; have f18 := vf16.frozen 1; have f19 := vf16.frozen 2; have f20 := vf16.frozen 3; clear vf16)))
  obtain ⟨w1, hw1⟩ : ∃ wx, wx = (((w.alloc (.cells #[.int .i64 3, .int .u32 (1 + x), .int .u32 (vl b), .string S] 24)).alloc (.cells #[.int .i64 0, .int .u32 0, .int .u32 0, .string ⟨#[]⟩] 24)).alloc (.cells #[.int .i64 0, .int .i64 0, .int .i64 (B.size : Int), .int .i64 16, .int .i64 4, .int .i64 0] 3)) := ⟨_, rfl⟩
  have bw1 := Lib.hid (show Below w.heap.size w w1 by rw [hw1]; exact (bel2 (bel2 (Geom.bel_alloc _ _) (Geom.bel_alloc _ _)) (Geom.bel_alloc _ _)))
  have zw1 := Lib.hid (show w.heap.size + 3 ≤ w1.heap.size by rw [hw1]; simp)
  have vw1f := Lib.hid (show Var w1 (w.heap.size) 24 [.int .i64 3, .int .u32 (1 + x), .int .u32 (vl b), .string S] by rw [hw1]; exact (((Var.new w 24 [.int .i64 3, .int .u32 (1 + x), .int .u32 (vl b), .string S]).alloc _).alloc _))
  have vw1r := Lib.hid (show Var w1 (w.heap.size + 1) 24 [.int .i64 0, .int .u32 0, .int .u32 0, .string ⟨#[]⟩] by rw [hw1]; exact ((show Var ((w.alloc (.cells #[.int .i64 3, .int .u32 (1 + x), .int .u32 (vl b), .string S] 24)).alloc (.cells #[.int .i64 0, .int .u32 0, .int .u32 0, .string ⟨#[]⟩] 24)) (w.heap.size + 1) 24 [.int .i64 0, .int .u32 0, .int .u32 0, .string ⟨#[]⟩] from by have h := Var.new (w.alloc (.cells #[.int .i64 3, .int .u32 (1 + x), .int .u32 (vl b), .string S] 24)) 24 [.int .i64 0, .int .u32 0, .int .u32 0, .string ⟨#[]⟩]; rw [show (w.alloc (.cells #[.int .i64 3, .int .u32 (1 + x), .int .u32 (vl b), .string S] 24)).heap.size = w.heap.size + 1 by simp] at h; exact h).alloc _))
  rw [← hw1]
  clear c2 c3 c4 c5 c7 c8 c9 c10 c12 c13 c14 c15 f17 f18 f19 f20
  refine wp_region_is_tail 10 [32, 33, 34, 35, 36, 37, 38, 39, 40, 41] (fun w' => Below w1.heap.size w1 w')
    [.pointer (some ⟨w.heap.size, 3, none⟩), .string S, .int .i64 16, .pointer (some ⟨w.heap.size, 3, none⟩), .string S, .int .i64 (S.size : Int), .int .i64 (m : Int), .string Z, .string B2, .pointer (some ⟨w.heap.size, 3, none⟩)] (by kernel_rfl) (by kernel_rfl) (by kernel_rfl) (by decide) rfl (by decide) (by simp) (Below.refl _ _).drew ?each ?done
  case each =>
    simp only [List.take_succ_cons, List.take_zero, Each]
    repeat' (first | exact trivial | refine And.intro ?_ ?_)
    all_goals
      intro ys wx hBx hdeps
      simp only [Deps, Region.binds, List.getD_cons_zero, List.getD_cons_succ, forall_const, and_true] at hdeps
      have q21 := (vw1f.out.below hBx vw1f.out.lt).cell (j := 3) rfl
      simp only [hdeps, fill, List.foldl_cons, List.foldl_nil, Act.put, List.setIfInBounds_toArray, List.set_cons_succ, List.set_cons_zero]
      first
        | (go_wp2_with fail; exact ⟨_, rfl, rfl, hBx, Below.refl _ _⟩)
        | (go_wp2_with (go_at_call 25; (with_reducible refine (HF.out _).mono ?_); rintro e w3 ⟨rfl, hbm⟩); exact ⟨_, rfl, rfl, hBx.trans (hbm.mono hBx.size), hbm⟩)
  case done =>
    intro ys wx hBx hV
    obtain ⟨w2, hw2⟩ : ∃ wy, wy = wx := ⟨_, rfl⟩
    rw [← hw2] at hBx ⊢
    have bw2 := Lib.hid (bel2 bw1.out hBx)
    have zw2 := Lib.hid hBx.size
    have vw2f := Lib.hid (vw1f.out.below hBx vw1f.out.lt)
    have vw2r := Lib.hid (vw1r.out.below hBx vw1r.out.lt)
    have h40 : ys 40 = .string B2 := hV 8 (by decide)
    have h41 : ys 41 = .pointer (some ⟨w.heap.size, 3, none⟩) := hV 9 (by decide)
    clear hBx hV hw2
    simp only [h40, h41, fill, List.drop_succ_cons, List.drop_zero, List.foldl_cons, List.foldl_nil, Act.put, List.setIfInBounds_toArray, List.set_cons_succ, List.set_cons_zero]
    have vf22 := (show Var w2 (w.heap.size) 24 [.int .i64 3, .int .u32 (1 + x), .int .u32 (vl b), .string S] from vw2f.out)
    have c23 := vf22.cell (j := 0) rfl
    have c24 := vf22.cell (j := 1) rfl
    have c25 := vf22.cell (j := 2) rfl
    have c26 := vf22.cell (j := 3) rfl
    clear vf22
    have vf27 := (show Var w2 (w.heap.size) 24 [.int .i64 3, .int .u32 (1 + x), .int .u32 (vl b), .string S] from vw2f.out)
    have f28 := vf27.frozen 0
    have f29 := vf27.frozen 1
    have f30 := vf27.frozen 2
    have f31 := vf27.frozen 3
    clear vf27
    have vf32 := (show Var (w2.setCell ⟨w.heap.size, 3, none⟩ (.string B2)) (w.heap.size) 24 [.int .i64 3, .int .u32 (1 + x), .int .u32 (vl b), .string B2] from (vw2f.out.set 3 (.string B2)))
    have c33 := vf32.cell (j := 0) rfl
    have c34 := vf32.cell (j := 1) rfl
    have c35 := vf32.cell (j := 2) rfl
    have c36 := vf32.cell (j := 3) rfl
    clear vf32
    have vf37 := (show Var (w2.setCell ⟨w.heap.size, 3, none⟩ (.string B2)) (w.heap.size + 1) 24 [.int .i64 0, .int .u32 0, .int .u32 0, .string ⟨#[]⟩] from (Var.othr2 vw2r.out ⟨w.heap.size, 3, none⟩ (.string B2) (by have := zw1.out; have := zw2.out; have := vw2r.out.lt; simp only; omega)))
    have c38 := vf37.cell (j := 0) rfl
    have c39 := vf37.cell (j := 1) rfl
    have c40 := vf37.cell (j := 2) rfl
    have c41 := vf37.cell (j := 3) rfl
    clear vf37
    have vf42 := (show Var (w2.setCell ⟨w.heap.size, 3, none⟩ (.string B2)) (w.heap.size) 24 [.int .i64 3, .int .u32 (1 + x), .int .u32 (vl b), .string B2] from (vw2f.out.set 3 (.string B2)))
    have f43 := vf42.frozen 0
    have f44 := vf42.frozen 1
    have f45 := vf42.frozen 2
    have f46 := vf42.frozen 3
    clear vf42
    have vf47 := (show Var (w2.setCell ⟨w.heap.size, 3, none⟩ (.string B2)) (w.heap.size + 1) 24 [.int .i64 0, .int .u32 0, .int .u32 0, .string ⟨#[]⟩] from (Var.othr2 vw2r.out ⟨w.heap.size, 3, none⟩ (.string B2) (by have := zw1.out; have := zw2.out; have := vw2r.out.lt; simp only; omega)))
    have f48 := vf47.frozen 0
    have f49 := vf47.frozen 1
    have f50 := vf47.frozen 2
    have f51 := vf47.frozen 3
    clear vf47
    go_wp2
    obtain ⟨w3, hw3⟩ : ∃ wx, wx = (w2.setCell ⟨w.heap.size, 3, none⟩ (.string B2)) := ⟨_, rfl⟩
    have bw3 := Lib.hid (show Below w.heap.size w w3 by rw [hw3]; exact (bw2.out.setCell (p := ⟨w.heap.size, 3, none⟩) (by have := zw1.out; have := zw2.out; simp only; omega) _))
    have zw3 := Lib.hid (show w2.heap.size + 0 ≤ w3.heap.size by rw [hw3]; simp)
    have vw3f := Lib.hid (show Var w3 (w.heap.size) 24 [.int .i64 3, .int .u32 (1 + x), .int .u32 (vl b), .string B2] by rw [hw3]; exact (vw2f.out.set 3 (.string B2)))
    have vw3r := Lib.hid (show Var w3 (w.heap.size + 1) 24 [.int .i64 0, .int .u32 0, .int .u32 0, .string ⟨#[]⟩] by rw [hw3]; exact (Var.othr2 vw2r.out ⟨w.heap.size, 3, none⟩ (.string B2) (by have := zw1.out; have := zw2.out; have := vw2r.out.lt; simp only; omega)))
    rw [← hw3]
    clear c23 c24 c25 c26 f28 f29 f30 f31 c33 c34 c35 c36 c38 c39 c40 c41 f43 f44 f45 f46 f48 f49 f50 f51
    refine wp_region_is_tail 24 [50, 51, 52, 53, 54, 55, 56, 57, 58, 59, 60, 61, 62, 63, 64, 65, 66, 67, 68, 69, 70, 71, 72, 73] (fun w' => Below w3.heap.size w3 w')
      [.pointer (some ⟨w.heap.size, 1, none⟩), .int .u32 (1 + x), .int .u32 x, .string P1, .pointer (some ⟨w.heap.size, 2, none⟩), .int .u32 (vl b), .pointer (some ⟨w.heap.size, 1, none⟩), .int .u32 (1 + x), .int .u32 y, .int .u32 (1 + y), .string P2, .string (P1 ++ P2), .pointer (some ⟨w.heap.size, 3, none⟩), .string B2, .string C, .string (P1 ++ P2 ++ C), .pointer (some ⟨w.heap.size, 3, none⟩), .string B2, .int .i64 16, .int .u32 16, .int .u32 17, .string P3, .string B3, .pointer (some ⟨w.heap.size, 3, none⟩)] (by kernel_rfl) (by kernel_rfl) (by kernel_rfl) (by decide) rfl (by decide) (by simp) (Below.refl _ _).drew ?each ?done
    case each =>
      simp only [List.take_succ_cons, List.take_zero, Each]
      repeat' (first | exact trivial | refine And.intro ?_ ?_)
      all_goals
        intro ys wx hBx hdeps
        simp only [Deps, Region.binds, List.getD_cons_zero, List.getD_cons_succ, forall_const, and_true] at hdeps
        have q52 := (vw3f.out.below hBx vw3f.out.lt).cell (j := 0) rfl
        have q53 := (vw3f.out.below hBx vw3f.out.lt).cell (j := 1) rfl
        have q54 := (vw3f.out.below hBx vw3f.out.lt).cell (j := 2) rfl
        have q55 := (vw3f.out.below hBx vw3f.out.lt).cell (j := 3) rfl
        simp only [hdeps, fill, List.foldl_cons, List.foldl_nil, Act.put, List.setIfInBounds_toArray, List.set_cons_succ, List.set_cons_zero]
        first
          | (go_wp2_with fail; exact ⟨_, rfl, rfl, hBx, Below.refl _ _⟩)
          | (go_wp2_with (go_at_call 18; (with_reducible refine (HQ1.out _).mono ?_); rintro e w3 ⟨rfl, hbm⟩); exact ⟨_, rfl, rfl, hBx.trans (hbm.mono hBx.size), hbm⟩)
          | (go_wp2_with (go_at_call 18; (with_reducible refine (HQ2.out _).mono ?_); rintro e w3 ⟨rfl, hbm⟩); exact ⟨_, rfl, rfl, hBx.trans (hbm.mono hBx.size), hbm⟩)
          | (go_wp2_with (go_at_call 18; (with_reducible refine (HQ3.out _).mono ?_); rintro e w3 ⟨rfl, hbm⟩); exact ⟨_, rfl, rfl, hBx.trans (hbm.mono hBx.size), hbm⟩)
    case done =>
      intro ys wx hBx hV
      obtain ⟨w4, hw4⟩ : ∃ wy, wy = wx := ⟨_, rfl⟩
      rw [← hw4] at hBx ⊢
      have bw4 := Lib.hid (bel2 bw3.out hBx)
      have zw4 := Lib.hid hBx.size
      have vw4f := Lib.hid (vw3f.out.below hBx vw3f.out.lt)
      have vw4r := Lib.hid (vw3r.out.below hBx vw3r.out.lt)
      have h72 : ys 72 = .string B3 := hV 22 (by decide)
      have h73 : ys 73 = .pointer (some ⟨w.heap.size, 3, none⟩) := hV 23 (by decide)
      clear hBx hV hw4
      simp only [h72, h73, fill, List.drop_succ_cons, List.drop_zero, List.foldl_cons, List.foldl_nil, Act.put, List.setIfInBounds_toArray, List.set_cons_succ, List.set_cons_zero]
      have vf56 := (show Var w4 (w.heap.size) 24 [.int .i64 3, .int .u32 (1 + x), .int .u32 (vl b), .string B2] from vw4f.out)
      have c57 := vf56.cell (j := 0) rfl
      have c58 := vf56.cell (j := 1) rfl
      have c59 := vf56.cell (j := 2) rfl
      have c60 := vf56.cell (j := 3) rfl
      clear vf56
      have vf61 := (show Var w4 (w.heap.size) 24 [.int .i64 3, .int .u32 (1 + x), .int .u32 (vl b), .string B2] from vw4f.out)
      have f62 := vf61.frozen 0
      have f63 := vf61.frozen 1
      have f64 := vf61.frozen 2
      have f65 := vf61.frozen 3
      clear vf61
      have vf66 := (show Var (w4.setCell ⟨w.heap.size, 3, none⟩ (.string B3)) (w.heap.size) 24 [.int .i64 3, .int .u32 (1 + x), .int .u32 (vl b), .string B3] from (vw4f.out.set 3 (.string B3)))
      have c67 := vf66.cell (j := 0) rfl
      have c68 := vf66.cell (j := 1) rfl
      have c69 := vf66.cell (j := 2) rfl
      have c70 := vf66.cell (j := 3) rfl
      clear vf66
      have vf71 := (show Var (w4.setCell ⟨w.heap.size, 3, none⟩ (.string B3)) (w.heap.size + 1) 24 [.int .i64 0, .int .u32 0, .int .u32 0, .string ⟨#[]⟩] from (Var.othr2 vw4r.out ⟨w.heap.size, 3, none⟩ (.string B3) (by have := zw1.out; have := zw2.out; have := zw3.out; have := zw4.out; have := vw4r.out.lt; simp only; omega)))
      have c72 := vf71.cell (j := 0) rfl
      have c73 := vf71.cell (j := 1) rfl
      have c74 := vf71.cell (j := 2) rfl
      have c75 := vf71.cell (j := 3) rfl
      clear vf71
      have vf76 := (show Var (w4.setCell ⟨w.heap.size, 3, none⟩ (.string B3)) (w.heap.size) 24 [.int .i64 3, .int .u32 (1 + x), .int .u32 (vl b), .string B3] from (vw4f.out.set 3 (.string B3)))
      have f77 := vf76.frozen 0
      have f78 := vf76.frozen 1
      have f79 := vf76.frozen 2
      have f80 := vf76.frozen 3
      clear vf76
      have vf81 := (show Var (w4.setCell ⟨w.heap.size, 3, none⟩ (.string B3)) (w.heap.size + 1) 24 [.int .i64 0, .int .u32 0, .int .u32 0, .string ⟨#[]⟩] from (Var.othr2 vw4r.out ⟨w.heap.size, 3, none⟩ (.string B3) (by have := zw1.out; have := zw2.out; have := zw3.out; have := zw4.out; have := vw4r.out.lt; simp only; omega)))
      have f82 := vf81.frozen 0
      have f83 := vf81.frozen 1
      have f84 := vf81.frozen 2
      have f85 := vf81.frozen 3
      clear vf81
      go_wp2
      have vf86 := (show Var (((((w4.setCell ⟨w.heap.size, 3, none⟩ (.string B3)).setCell ⟨w.heap.size + 1, 0, none⟩ (.int .i64 3)).setCell ⟨w.heap.size + 1, 1, none⟩ (.int .u32 (1 + x))).setCell ⟨w.heap.size + 1, 2, none⟩ (.int .u32 (vl b))).setCell ⟨w.heap.size + 1, 3, none⟩ (.string B3)) (w.heap.size + 1) 24 [.int .i64 3, .int .u32 (1 + x), .int .u32 (vl b), .string B3] from (((((Var.othr2 vw4r.out ⟨w.heap.size, 3, none⟩ (.string B3) (by have := zw1.out; have := zw2.out; have := zw3.out; have := zw4.out; have := vw4r.out.lt; simp only; omega)).set 0 (.int .i64 3)).set 1 (.int .u32 (1 + x))).set 2 (.int .u32 (vl b))).set 3 (.string B3)))
      have c87 := vf86.cell (j := 0) rfl
      have c88 := vf86.cell (j := 1) rfl
      have c89 := vf86.cell (j := 2) rfl
      have c90 := vf86.cell (j := 3) rfl
      clear vf86
      refine bodyPost_ret (v := .agg #[.int .i64 3, .int .u32 (1 + x), .int .u32 (vl b), .string B3]) (by simp [results, Try.results8, go_sem, c87, c88, c89, c90]) rfl ?_
      exact ⟨rfl, (((((bw4.out.setCell (p := ⟨w.heap.size, 3, none⟩) (by have := zw1.out; have := zw2.out; have := zw3.out; have := zw4.out; simp only; omega) _).setCell (p := ⟨w.heap.size + 1, 0, none⟩) (by have := zw1.out; have := zw2.out; have := zw3.out; have := zw4.out; simp only; omega) _).setCell (p := ⟨w.heap.size + 1, 1, none⟩) (by have := zw1.out; have := zw2.out; have := zw3.out; have := zw4.out; simp only; omega) _).setCell (p := ⟨w.heap.size + 1, 2, none⟩) (by have := zw1.out; have := zw2.out; have := zw3.out; have := zw4.out; simp only; omega) _).setCell (p := ⟨w.heap.size + 1, 3, none⟩) (by have := zw1.out; have := zw2.out; have := zw3.out; have := zw4.out; simp only; omega) _)⟩
set_option maxRecDepth 100000 in
set_option maxHeartbeats 8000000 in
theorem shaped_3_2 (f : Fr) (hs : f.body.length ≤ maxLen) (hk : f.kind % 6 = 3) : ∃ g : Fr, g.body.length ≤ maxLen ∧ ∀ w, Calls Try.prog 8 #[fV f, .int .i64 2] w fun e w' => e = .returned (fV g) ∧ Below w.heap.size w w' := by
  have HP : Hid (∀ w, Calls Try.prog 9 #[.int .i64 f.kind, .int .i64 6] w fun e w' => e = .returned (.int .i64 (f.kind % 6)) ∧ w = w') := fun w => Book.pick_any f.kind 6 (by decide) (by decide) w
  rw [hk] at HP
  obtain ⟨kd, a, b, body⟩ := f
  simp only at HP hs
  have hbs : (bs body).size ≤ maxLen := by rw [bs_size]; exact hs
  unfold fV
  simp only
  obtain ⟨B, hB⟩ : ∃ B, B = bs body := ⟨_, rfl⟩
  rw [← hB] at hbs ⊢
  clear hB hk hs
  obtain ⟨x, hx⟩ : ∃ x, (vl a).tmod 1000 = x := ⟨_, rfl⟩
  have hx1 : 0 ≤ x ∧ x ≤ 999 := by
    have := Crc.vl_range a
    rw [← hx, Int.tmod_eq_emod_of_nonneg this.1]; omega
  have hnn : 16 ≤ maxLen := by first | exact hbs | decide
  have HS := Lib.hid (fun w => shortB_big B hbs (16) hnn (16) rfl w)
  obtain ⟨S, hS⟩ : ∃ S, S = bs (B.data.toList.take (16)) := ⟨_, rfl⟩
  rw [← hS] at HS
  have hbl : B.data.toList.length = B.size := by simp
  have hSe : S.size = min (16) B.size := by rw [hS, bs_size, List.length_take, hbl]
  have hSs : S.size ≤ 16 ∧ S.size ≤ B.size := by omega
  have hSl : 16 - S.size ≤ 16 := by omega
  clear hbl
  obtain ⟨m, hm⟩ : ∃ m : Nat, m = 16 - S.size := ⟨_, rfl⟩
  have hmI : 16 - (S.size : Int) = (m : Int) := by omega
  have HF := Lib.hid (fun w => Flash.fill_any 0 (m : Int) m (.inl rfl) (by omega) w)
  rw [show (((0 : UInt8).toNat : Int)) = 0 from rfl] at HF
  obtain ⟨Z, hZ⟩ : ∃ Z, Z = bs (List.replicate m (0 : UInt8)) := ⟨_, rfl⟩
  rw [← hZ] at HF
  have hZs : Z.size = m := by rw [hZ, bs_size, List.length_replicate]
  obtain ⟨B2, hB2⟩ : ∃ B2, S ++ Z = B2 := ⟨_, rfl⟩
  have hB2n : B2.size = 16 := by rw [← hB2, ByteArray.size_append, hZs]; omega
  have hB2s : B2.size ≤ maxLen := by rw [hB2n]; exact hnn
  have hsum : S.size + Z.size ≤ maxLen := by rw [hZs]; unfold maxLen at hnn ⊢; omega
  unfold maxLen at hsum hbs
  have hSx : S.size ≤ B.size := hSs.2
  clear hS hZ hSl hZs hm hSs hSe
  clear hB2n
  refine ⟨⟨3, wd (1 + x), b, B2.data.toList⟩, dlen_le hB2s, fun w => ?_⟩
  simp only
  have HVX := Lib.hid (show Value.agg #[.int .i64 3, .int .u32 (vl (wd (1 + x))), .int .u32 (vl b), .string (bs B2.data.toList)] = .agg #[.int .i64 3, .int .u32 (1 + x), .int .u32 (vl b), .string B2] by rw [Crc.vl_wd (by omega) (by omega), bs_list])
  rw [HVX.out]
  go_enter Try.func8, Try.ntmps8
  go_wp2_with (first
    | (go_at_call 9; ((with_reducible refine (HP.out _).mono ?_); rintro e wsame ⟨rfl, rfl⟩; have vf1 := (show Var ((w.alloc (.cells #[.int .i64 3, .int .u32 (vl a), .int .u32 (vl b), .string B] 24)).alloc (.cells #[.int .i64 0, .int .u32 0, .int .u32 0, .string ⟨#[]⟩] 24)) (w.heap.size) 24 [.int .i64 3, .int .u32 (vl a), .int .u32 (vl b), .string B] from ((Var.new w 24 [.int .i64 3, .int .u32 (vl a), .int .u32 (vl b), .string B]).alloc _)); have c2 := vf1.cell (j := 0) rfl; have c3 := vf1.cell (j := 1) rfl; have c4 := vf1.cell (j := 2) rfl; have c5 := vf1.cell (j := 3) rfl; clear vf1; have vf6 := (show Var (((w.alloc (.cells #[.int .i64 3, .int .u32 (1 + x), .int .u32 (vl b), .string B] 24)).alloc (.cells #[.int .i64 0, .int .u32 0, .int .u32 0, .string ⟨#[]⟩] 24)).alloc (.cells #[.int .i64 0, .int .i64 0, .int .i64 (B.size : Int), .int .i64 16, .int .i64 4, .int .i64 0] 3)) (w.heap.size) 24 [.int .i64 3, .int .u32 (1 + x), .int .u32 (vl b), .string B] from (((Var.new w 24 [.int .i64 3, .int .u32 (1 + x), .int .u32 (vl b), .string B]).alloc _).alloc _)); have c7 := vf6.cell (j := 0) rfl; have c8 := vf6.cell (j := 1) rfl; have c9 := vf6.cell (j := 2) rfl; have c10 := vf6.cell (j := 3) rfl; clear vf6))
    | (go_at_call 24; ((with_reducible refine (HS.out _).mono ?_); rintro e wsame ⟨rfl, rfl⟩; have vf11 := (show Var (((w.alloc (.cells #[.int .i64 3, .int .u32 (1 + x), .int .u32 (vl b), .string S] 24)).alloc (.cells #[.int .i64 0, .int .u32 0, .int .u32 0, .string ⟨#[]⟩] 24)).alloc (.cells #[.int .i64 0, .int .i64 0, .int .i64 (B.size : Int), .int .i64 16, .int .i64 4, .int .i64 0] 3)) (w.heap.size) 24 [.int .i64 3, .int .u32 (1 + x), .int .u32 (vl b), .string S] from (((Var.new w 24 [.int .i64 3, .int .u32 (1 + x), .int .u32 (vl b), .string S]).alloc _).alloc _)); have c12 := vf11.cell (j := 0) rfl; have c13 := vf11.cell (j := 1) rfl; have c14 := vf11.cell (j := 2) rfl; have c15 := vf11.cell (j := 3) rfl; clear vf11; have vf16 := (show Var (((w.alloc (.cells #[.int .i64 3, .int .u32 (1 + x), .int .u32 (vl b), .string S] 24)).alloc (.cells #[.int .i64 0, .int .u32 0, .int .u32 0, .string ⟨#[]⟩] 24)).alloc (.cells #[.int .i64 0, .int .i64 0, .int .i64 (B.size : Int), .int .i64 16, .int .i64 4, .int .i64 0] 3)) (w.heap.size) 24 [.int .i64 3, .int .u32 (1 + x), .int .u32 (vl b), .string S] from (((Var.new w 24 [.int .i64 3, .int .u32 (1 + x), .int .u32 (vl b), .string S]).alloc _).alloc _)); have f17 := vf16.frozen 0; have f18 := vf16.frozen 1; have f19 := vf16.frozen 2; have f20 := vf16.frozen 3; clear vf16)))
  obtain ⟨w1, hw1⟩ : ∃ wx, wx = (((w.alloc (.cells #[.int .i64 3, .int .u32 (1 + x), .int .u32 (vl b), .string S] 24)).alloc (.cells #[.int .i64 0, .int .u32 0, .int .u32 0, .string ⟨#[]⟩] 24)).alloc (.cells #[.int .i64 0, .int .i64 0, .int .i64 (B.size : Int), .int .i64 16, .int .i64 4, .int .i64 0] 3)) := ⟨_, rfl⟩
  have bw1 := Lib.hid (show Below w.heap.size w w1 by rw [hw1]; exact (bel2 (bel2 (Geom.bel_alloc _ _) (Geom.bel_alloc _ _)) (Geom.bel_alloc _ _)))
  have zw1 := Lib.hid (show w.heap.size + 3 ≤ w1.heap.size by rw [hw1]; simp)
  have vw1f := Lib.hid (show Var w1 (w.heap.size) 24 [.int .i64 3, .int .u32 (1 + x), .int .u32 (vl b), .string S] by rw [hw1]; exact (((Var.new w 24 [.int .i64 3, .int .u32 (1 + x), .int .u32 (vl b), .string S]).alloc _).alloc _))
  have vw1r := Lib.hid (show Var w1 (w.heap.size + 1) 24 [.int .i64 0, .int .u32 0, .int .u32 0, .string ⟨#[]⟩] by rw [hw1]; exact ((show Var ((w.alloc (.cells #[.int .i64 3, .int .u32 (1 + x), .int .u32 (vl b), .string S] 24)).alloc (.cells #[.int .i64 0, .int .u32 0, .int .u32 0, .string ⟨#[]⟩] 24)) (w.heap.size + 1) 24 [.int .i64 0, .int .u32 0, .int .u32 0, .string ⟨#[]⟩] from by have h := Var.new (w.alloc (.cells #[.int .i64 3, .int .u32 (1 + x), .int .u32 (vl b), .string S] 24)) 24 [.int .i64 0, .int .u32 0, .int .u32 0, .string ⟨#[]⟩]; rw [show (w.alloc (.cells #[.int .i64 3, .int .u32 (1 + x), .int .u32 (vl b), .string S] 24)).heap.size = w.heap.size + 1 by simp] at h; exact h).alloc _))
  rw [← hw1]
  clear c2 c3 c4 c5 c7 c8 c9 c10 c12 c13 c14 c15 f17 f18 f19 f20
  refine wp_region_is_tail 10 [32, 33, 34, 35, 36, 37, 38, 39, 40, 41] (fun w' => Below w1.heap.size w1 w')
    [.pointer (some ⟨w.heap.size, 3, none⟩), .string S, .int .i64 16, .pointer (some ⟨w.heap.size, 3, none⟩), .string S, .int .i64 (S.size : Int), .int .i64 (m : Int), .string Z, .string B2, .pointer (some ⟨w.heap.size, 3, none⟩)] (by kernel_rfl) (by kernel_rfl) (by kernel_rfl) (by decide) rfl (by decide) (by simp) (Below.refl _ _).drew ?each ?done
  case each =>
    simp only [List.take_succ_cons, List.take_zero, Each]
    repeat' (first | exact trivial | refine And.intro ?_ ?_)
    all_goals
      intro ys wx hBx hdeps
      simp only [Deps, Region.binds, List.getD_cons_zero, List.getD_cons_succ, forall_const, and_true] at hdeps
      have q21 := (vw1f.out.below hBx vw1f.out.lt).cell (j := 3) rfl
      simp only [hdeps, fill, List.foldl_cons, List.foldl_nil, Act.put, List.setIfInBounds_toArray, List.set_cons_succ, List.set_cons_zero]
      first
        | (go_wp2_with fail; exact ⟨_, rfl, rfl, hBx, Below.refl _ _⟩)
        | (go_wp2_with (go_at_call 25; (with_reducible refine (HF.out _).mono ?_); rintro e w3 ⟨rfl, hbm⟩); exact ⟨_, rfl, rfl, hBx.trans (hbm.mono hBx.size), hbm⟩)
  case done =>
    intro ys wx hBx hV
    obtain ⟨w2, hw2⟩ : ∃ wy, wy = wx := ⟨_, rfl⟩
    rw [← hw2] at hBx ⊢
    have bw2 := Lib.hid (bel2 bw1.out hBx)
    have zw2 := Lib.hid hBx.size
    have vw2f := Lib.hid (vw1f.out.below hBx vw1f.out.lt)
    have vw2r := Lib.hid (vw1r.out.below hBx vw1r.out.lt)
    have h40 : ys 40 = .string B2 := hV 8 (by decide)
    have h41 : ys 41 = .pointer (some ⟨w.heap.size, 3, none⟩) := hV 9 (by decide)
    clear hBx hV hw2
    simp only [h40, h41, fill, List.drop_succ_cons, List.drop_zero, List.foldl_cons, List.foldl_nil, Act.put, List.setIfInBounds_toArray, List.set_cons_succ, List.set_cons_zero]
    have vf22 := (show Var w2 (w.heap.size) 24 [.int .i64 3, .int .u32 (1 + x), .int .u32 (vl b), .string S] from vw2f.out)
    have c23 := vf22.cell (j := 0) rfl
    have c24 := vf22.cell (j := 1) rfl
    have c25 := vf22.cell (j := 2) rfl
    have c26 := vf22.cell (j := 3) rfl
    clear vf22
    have vf27 := (show Var w2 (w.heap.size) 24 [.int .i64 3, .int .u32 (1 + x), .int .u32 (vl b), .string S] from vw2f.out)
    have f28 := vf27.frozen 0
    have f29 := vf27.frozen 1
    have f30 := vf27.frozen 2
    have f31 := vf27.frozen 3
    clear vf27
    have vf32 := (show Var (w2.setCell ⟨w.heap.size, 3, none⟩ (.string B2)) (w.heap.size) 24 [.int .i64 3, .int .u32 (1 + x), .int .u32 (vl b), .string B2] from (vw2f.out.set 3 (.string B2)))
    have c33 := vf32.cell (j := 0) rfl
    have c34 := vf32.cell (j := 1) rfl
    have c35 := vf32.cell (j := 2) rfl
    have c36 := vf32.cell (j := 3) rfl
    clear vf32
    have vf37 := (show Var (w2.setCell ⟨w.heap.size, 3, none⟩ (.string B2)) (w.heap.size + 1) 24 [.int .i64 0, .int .u32 0, .int .u32 0, .string ⟨#[]⟩] from (Var.othr2 vw2r.out ⟨w.heap.size, 3, none⟩ (.string B2) (by have := zw1.out; have := zw2.out; have := vw2r.out.lt; simp only; omega)))
    have c38 := vf37.cell (j := 0) rfl
    have c39 := vf37.cell (j := 1) rfl
    have c40 := vf37.cell (j := 2) rfl
    have c41 := vf37.cell (j := 3) rfl
    clear vf37
    have vf42 := (show Var (w2.setCell ⟨w.heap.size, 3, none⟩ (.string B2)) (w.heap.size) 24 [.int .i64 3, .int .u32 (1 + x), .int .u32 (vl b), .string B2] from (vw2f.out.set 3 (.string B2)))
    have f43 := vf42.frozen 0
    have f44 := vf42.frozen 1
    have f45 := vf42.frozen 2
    have f46 := vf42.frozen 3
    clear vf42
    have vf47 := (show Var (w2.setCell ⟨w.heap.size, 3, none⟩ (.string B2)) (w.heap.size + 1) 24 [.int .i64 0, .int .u32 0, .int .u32 0, .string ⟨#[]⟩] from (Var.othr2 vw2r.out ⟨w.heap.size, 3, none⟩ (.string B2) (by have := zw1.out; have := zw2.out; have := vw2r.out.lt; simp only; omega)))
    have f48 := vf47.frozen 0
    have f49 := vf47.frozen 1
    have f50 := vf47.frozen 2
    have f51 := vf47.frozen 3
    clear vf47
    go_wp2
    have vf52 := (show Var (((((w2.setCell ⟨w.heap.size, 3, none⟩ (.string B2)).setCell ⟨w.heap.size + 1, 0, none⟩ (.int .i64 3)).setCell ⟨w.heap.size + 1, 1, none⟩ (.int .u32 (1 + x))).setCell ⟨w.heap.size + 1, 2, none⟩ (.int .u32 (vl b))).setCell ⟨w.heap.size + 1, 3, none⟩ (.string B2)) (w.heap.size + 1) 24 [.int .i64 3, .int .u32 (1 + x), .int .u32 (vl b), .string B2] from (((((Var.othr2 vw2r.out ⟨w.heap.size, 3, none⟩ (.string B2) (by have := zw1.out; have := zw2.out; have := vw2r.out.lt; simp only; omega)).set 0 (.int .i64 3)).set 1 (.int .u32 (1 + x))).set 2 (.int .u32 (vl b))).set 3 (.string B2)))
    have c53 := vf52.cell (j := 0) rfl
    have c54 := vf52.cell (j := 1) rfl
    have c55 := vf52.cell (j := 2) rfl
    have c56 := vf52.cell (j := 3) rfl
    clear vf52
    refine bodyPost_ret (v := .agg #[.int .i64 3, .int .u32 (1 + x), .int .u32 (vl b), .string B2]) (by simp [results, Try.results8, go_sem, c53, c54, c55, c56]) rfl ?_
    exact ⟨rfl, (((((bw2.out.setCell (p := ⟨w.heap.size, 3, none⟩) (by have := zw1.out; have := zw2.out; simp only; omega) _).setCell (p := ⟨w.heap.size + 1, 0, none⟩) (by have := zw1.out; have := zw2.out; simp only; omega) _).setCell (p := ⟨w.heap.size + 1, 1, none⟩) (by have := zw1.out; have := zw2.out; simp only; omega) _).setCell (p := ⟨w.heap.size + 1, 2, none⟩) (by have := zw1.out; have := zw2.out; simp only; omega) _).setCell (p := ⟨w.heap.size + 1, 3, none⟩) (by have := zw1.out; have := zw2.out; simp only; omega) _)⟩
set_option maxRecDepth 100000 in
set_option maxHeartbeats 8000000 in
theorem shaped_4_1 (f : Fr) (hs : f.body.length ≤ maxLen) (hk : f.kind % 6 = 4) : ∃ g : Fr, g.body.length ≤ maxLen ∧ ∀ w, Calls Try.prog 8 #[fV f, .int .i64 1] w fun e w' => e = .returned (fV g) ∧ Below w.heap.size w w' := by
  have HP : Hid (∀ w, Calls Try.prog 9 #[.int .i64 f.kind, .int .i64 6] w fun e w' => e = .returned (.int .i64 (f.kind % 6)) ∧ w = w') := fun w => Book.pick_any f.kind 6 (by decide) (by decide) w
  rw [hk] at HP
  obtain ⟨kd, a, b, body⟩ := f
  simp only at HP hs
  have hbs : (bs body).size ≤ maxLen := by rw [bs_size]; exact hs
  unfold fV
  simp only
  obtain ⟨B, hB⟩ : ∃ B, B = bs body := ⟨_, rfl⟩
  rw [← hB] at hbs ⊢
  clear hB hk hs
  obtain ⟨x, hx⟩ : ∃ x, (vl a).tmod 1000 = x := ⟨_, rfl⟩
  have hx1 : 0 ≤ x ∧ x ≤ 999 := by
    have := Crc.vl_range a
    rw [← hx, Int.tmod_eq_emod_of_nonneg this.1]; omega
  have hnn : 4 ≤ maxLen := by first | exact hbs | decide
  have HS := Lib.hid (fun w => shortB_big B hbs (4) hnn (4) rfl w)
  obtain ⟨S, hS⟩ : ∃ S, S = bs (B.data.toList.take (4)) := ⟨_, rfl⟩
  rw [← hS] at HS
  have hbl : B.data.toList.length = B.size := by simp
  have hSe : S.size = min (4) B.size := by rw [hS, bs_size, List.length_take, hbl]
  have hSs : S.size ≤ 4 ∧ S.size ≤ B.size := by omega
  have hSl : 4 - S.size ≤ 16 := by omega
  clear hbl
  obtain ⟨m, hm⟩ : ∃ m : Nat, m = 4 - S.size := ⟨_, rfl⟩
  have hmI : 4 - (S.size : Int) = (m : Int) := by omega
  have HF := Lib.hid (fun w => Flash.fill_any 0 (m : Int) m (.inl rfl) (by omega) w)
  rw [show (((0 : UInt8).toNat : Int)) = 0 from rfl] at HF
  obtain ⟨Z, hZ⟩ : ∃ Z, Z = bs (List.replicate m (0 : UInt8)) := ⟨_, rfl⟩
  rw [← hZ] at HF
  have hZs : Z.size = m := by rw [hZ, bs_size, List.length_replicate]
  obtain ⟨B2, hB2⟩ : ∃ B2, S ++ Z = B2 := ⟨_, rfl⟩
  have hB2n : B2.size = 4 := by rw [← hB2, ByteArray.size_append, hZs]; omega
  have hB2s : B2.size ≤ maxLen := by rw [hB2n]; exact hnn
  have hsum : S.size + Z.size ≤ maxLen := by rw [hZs]; unfold maxLen at hnn ⊢; omega
  unfold maxLen at hsum hbs
  have hSx : S.size ≤ B.size := hSs.2
  clear hS hZ hSl hZs hm hSs hSe
  have hy0 := Crc.vl_range b
  obtain ⟨y, hy⟩ : ∃ y, (vl b).tmod (1 + x + 1) = y := ⟨_, rfl⟩
  have hy1 : 0 ≤ y ∧ y < 1 + x + 1 := by
    rw [← hy, Int.tmod_eq_emod_of_nonneg hy0.1]
    exact ⟨Int.emod_nonneg _ (by omega), Int.emod_lt_of_pos _ (by omega)⟩
  have hne : ((1 + x + 1 : Int) == 0) = false := by rw [beq_eq_false_iff_ne]; omega
  have HQ4 := Lib.hid (fun w => Frame.refPut_any (wd y) w)
  rw [Crc.vl_wd (by omega) (by omega)] at HQ4
  obtain ⟨P4, hP4⟩ : ∃ P, P = putS (wd y) := ⟨_, rfl⟩
  rw [← hP4] at HQ4
  have p4 : P4.size = 4 := by rw [hP4]; rfl
  clear hP4 hB2n
  refine ⟨⟨4, wd (1 + x), b, P4.data.toList⟩, dlen_le (by rw [p4]; decide), fun w => ?_⟩
  simp only
  have HVX := Lib.hid (show Value.agg #[.int .i64 4, .int .u32 (vl (wd (1 + x))), .int .u32 (vl b), .string (bs P4.data.toList)] = .agg #[.int .i64 4, .int .u32 (1 + x), .int .u32 (vl b), .string P4] by rw [Crc.vl_wd (by omega) (by omega), bs_list])
  rw [HVX.out]
  go_enter Try.func8, Try.ntmps8
  go_wp2_with (first
    | (go_at_call 9; ((with_reducible refine (HP.out _).mono ?_); rintro e wsame ⟨rfl, rfl⟩; have vf1 := (show Var ((w.alloc (.cells #[.int .i64 4, .int .u32 (vl a), .int .u32 (vl b), .string B] 24)).alloc (.cells #[.int .i64 0, .int .u32 0, .int .u32 0, .string ⟨#[]⟩] 24)) (w.heap.size) 24 [.int .i64 4, .int .u32 (vl a), .int .u32 (vl b), .string B] from ((Var.new w 24 [.int .i64 4, .int .u32 (vl a), .int .u32 (vl b), .string B]).alloc _)); have c2 := vf1.cell (j := 0) rfl; have c3 := vf1.cell (j := 1) rfl; have c4 := vf1.cell (j := 2) rfl; have c5 := vf1.cell (j := 3) rfl; clear vf1; have vf6 := (show Var (((w.alloc (.cells #[.int .i64 4, .int .u32 (1 + x), .int .u32 (vl b), .string B] 24)).alloc (.cells #[.int .i64 0, .int .u32 0, .int .u32 0, .string ⟨#[]⟩] 24)).alloc (.cells #[.int .i64 0, .int .i64 0, .int .i64 (B.size : Int), .int .i64 16, .int .i64 4, .int .i64 0] 3)) (w.heap.size) 24 [.int .i64 4, .int .u32 (1 + x), .int .u32 (vl b), .string B] from (((Var.new w 24 [.int .i64 4, .int .u32 (1 + x), .int .u32 (vl b), .string B]).alloc _).alloc _)); have c7 := vf6.cell (j := 0) rfl; have c8 := vf6.cell (j := 1) rfl; have c9 := vf6.cell (j := 2) rfl; have c10 := vf6.cell (j := 3) rfl; clear vf6))
    | (go_at_call 24; ((with_reducible refine (HS.out _).mono ?_); rintro e wsame ⟨rfl, rfl⟩; have vf11 := (show Var (((w.alloc (.cells #[.int .i64 4, .int .u32 (1 + x), .int .u32 (vl b), .string S] 24)).alloc (.cells #[.int .i64 0, .int .u32 0, .int .u32 0, .string ⟨#[]⟩] 24)).alloc (.cells #[.int .i64 0, .int .i64 0, .int .i64 (B.size : Int), .int .i64 16, .int .i64 4, .int .i64 0] 3)) (w.heap.size) 24 [.int .i64 4, .int .u32 (1 + x), .int .u32 (vl b), .string S] from (((Var.new w 24 [.int .i64 4, .int .u32 (1 + x), .int .u32 (vl b), .string S]).alloc _).alloc _)); have c12 := vf11.cell (j := 0) rfl; have c13 := vf11.cell (j := 1) rfl; have c14 := vf11.cell (j := 2) rfl; have c15 := vf11.cell (j := 3) rfl; clear vf11; have vf16 := (show Var (((w.alloc (.cells #[.int .i64 4, .int .u32 (1 + x), .int .u32 (vl b), .string S] 24)).alloc (.cells #[.int .i64 0, .int .u32 0, .int .u32 0, .string ⟨#[]⟩] 24)).alloc (.cells #[.int .i64 0, .int .i64 0, .int .i64 (B.size : Int), .int .i64 16, .int .i64 4, .int .i64 0] 3)) (w.heap.size) 24 [.int .i64 4, .int .u32 (1 + x), .int .u32 (vl b), .string S] from (((Var.new w 24 [.int .i64 4, .int .u32 (1 + x), .int .u32 (vl b), .string S]).alloc _).alloc _)); have f17 := vf16.frozen 0; have f18 := vf16.frozen 1; have f19 := vf16.frozen 2; have f20 := vf16.frozen 3; clear vf16)))
  obtain ⟨w1, hw1⟩ : ∃ wx, wx = (((w.alloc (.cells #[.int .i64 4, .int .u32 (1 + x), .int .u32 (vl b), .string S] 24)).alloc (.cells #[.int .i64 0, .int .u32 0, .int .u32 0, .string ⟨#[]⟩] 24)).alloc (.cells #[.int .i64 0, .int .i64 0, .int .i64 (B.size : Int), .int .i64 16, .int .i64 4, .int .i64 0] 3)) := ⟨_, rfl⟩
  have bw1 := Lib.hid (show Below w.heap.size w w1 by rw [hw1]; exact (bel2 (bel2 (Geom.bel_alloc _ _) (Geom.bel_alloc _ _)) (Geom.bel_alloc _ _)))
  have zw1 := Lib.hid (show w.heap.size + 3 ≤ w1.heap.size by rw [hw1]; simp)
  have vw1f := Lib.hid (show Var w1 (w.heap.size) 24 [.int .i64 4, .int .u32 (1 + x), .int .u32 (vl b), .string S] by rw [hw1]; exact (((Var.new w 24 [.int .i64 4, .int .u32 (1 + x), .int .u32 (vl b), .string S]).alloc _).alloc _))
  have vw1r := Lib.hid (show Var w1 (w.heap.size + 1) 24 [.int .i64 0, .int .u32 0, .int .u32 0, .string ⟨#[]⟩] by rw [hw1]; exact ((show Var ((w.alloc (.cells #[.int .i64 4, .int .u32 (1 + x), .int .u32 (vl b), .string S] 24)).alloc (.cells #[.int .i64 0, .int .u32 0, .int .u32 0, .string ⟨#[]⟩] 24)) (w.heap.size + 1) 24 [.int .i64 0, .int .u32 0, .int .u32 0, .string ⟨#[]⟩] from by have h := Var.new (w.alloc (.cells #[.int .i64 4, .int .u32 (1 + x), .int .u32 (vl b), .string S] 24)) 24 [.int .i64 0, .int .u32 0, .int .u32 0, .string ⟨#[]⟩]; rw [show (w.alloc (.cells #[.int .i64 4, .int .u32 (1 + x), .int .u32 (vl b), .string S] 24)).heap.size = w.heap.size + 1 by simp] at h; exact h).alloc _))
  rw [← hw1]
  clear c2 c3 c4 c5 c7 c8 c9 c10 c12 c13 c14 c15 f17 f18 f19 f20
  refine wp_region_is_tail 10 [32, 33, 34, 35, 36, 37, 38, 39, 40, 41] (fun w' => Below w1.heap.size w1 w')
    [.pointer (some ⟨w.heap.size, 3, none⟩), .string S, .int .i64 4, .pointer (some ⟨w.heap.size, 3, none⟩), .string S, .int .i64 (S.size : Int), .int .i64 (m : Int), .string Z, .string B2, .pointer (some ⟨w.heap.size, 3, none⟩)] (by kernel_rfl) (by kernel_rfl) (by kernel_rfl) (by decide) rfl (by decide) (by simp) (Below.refl _ _).drew ?each ?done
  case each =>
    simp only [List.take_succ_cons, List.take_zero, Each]
    repeat' (first | exact trivial | refine And.intro ?_ ?_)
    all_goals
      intro ys wx hBx hdeps
      simp only [Deps, Region.binds, List.getD_cons_zero, List.getD_cons_succ, forall_const, and_true] at hdeps
      have q21 := (vw1f.out.below hBx vw1f.out.lt).cell (j := 3) rfl
      simp only [hdeps, fill, List.foldl_cons, List.foldl_nil, Act.put, List.setIfInBounds_toArray, List.set_cons_succ, List.set_cons_zero]
      first
        | (go_wp2_with fail; exact ⟨_, rfl, rfl, hBx, Below.refl _ _⟩)
        | (go_wp2_with (go_at_call 25; (with_reducible refine (HF.out _).mono ?_); rintro e w3 ⟨rfl, hbm⟩); exact ⟨_, rfl, rfl, hBx.trans (hbm.mono hBx.size), hbm⟩)
  case done =>
    intro ys wx hBx hV
    obtain ⟨w2, hw2⟩ : ∃ wy, wy = wx := ⟨_, rfl⟩
    rw [← hw2] at hBx ⊢
    have bw2 := Lib.hid (bel2 bw1.out hBx)
    have zw2 := Lib.hid hBx.size
    have vw2f := Lib.hid (vw1f.out.below hBx vw1f.out.lt)
    have vw2r := Lib.hid (vw1r.out.below hBx vw1r.out.lt)
    have h40 : ys 40 = .string B2 := hV 8 (by decide)
    have h41 : ys 41 = .pointer (some ⟨w.heap.size, 3, none⟩) := hV 9 (by decide)
    clear hBx hV hw2
    simp only [h40, h41, fill, List.drop_succ_cons, List.drop_zero, List.foldl_cons, List.foldl_nil, Act.put, List.setIfInBounds_toArray, List.set_cons_succ, List.set_cons_zero]
    have vf22 := (show Var w2 (w.heap.size) 24 [.int .i64 4, .int .u32 (1 + x), .int .u32 (vl b), .string S] from vw2f.out)
    have c23 := vf22.cell (j := 0) rfl
    have c24 := vf22.cell (j := 1) rfl
    have c25 := vf22.cell (j := 2) rfl
    have c26 := vf22.cell (j := 3) rfl
    clear vf22
    have vf27 := (show Var w2 (w.heap.size) 24 [.int .i64 4, .int .u32 (1 + x), .int .u32 (vl b), .string S] from vw2f.out)
    have f28 := vf27.frozen 0
    have f29 := vf27.frozen 1
    have f30 := vf27.frozen 2
    have f31 := vf27.frozen 3
    clear vf27
    have vf32 := (show Var (w2.setCell ⟨w.heap.size, 3, none⟩ (.string B2)) (w.heap.size) 24 [.int .i64 4, .int .u32 (1 + x), .int .u32 (vl b), .string B2] from (vw2f.out.set 3 (.string B2)))
    have c33 := vf32.cell (j := 0) rfl
    have c34 := vf32.cell (j := 1) rfl
    have c35 := vf32.cell (j := 2) rfl
    have c36 := vf32.cell (j := 3) rfl
    clear vf32
    have vf37 := (show Var (w2.setCell ⟨w.heap.size, 3, none⟩ (.string B2)) (w.heap.size + 1) 24 [.int .i64 0, .int .u32 0, .int .u32 0, .string ⟨#[]⟩] from (Var.othr2 vw2r.out ⟨w.heap.size, 3, none⟩ (.string B2) (by have := zw1.out; have := zw2.out; have := vw2r.out.lt; simp only; omega)))
    have c38 := vf37.cell (j := 0) rfl
    have c39 := vf37.cell (j := 1) rfl
    have c40 := vf37.cell (j := 2) rfl
    have c41 := vf37.cell (j := 3) rfl
    clear vf37
    have vf42 := (show Var (w2.setCell ⟨w.heap.size, 3, none⟩ (.string B2)) (w.heap.size) 24 [.int .i64 4, .int .u32 (1 + x), .int .u32 (vl b), .string B2] from (vw2f.out.set 3 (.string B2)))
    have f43 := vf42.frozen 0
    have f44 := vf42.frozen 1
    have f45 := vf42.frozen 2
    have f46 := vf42.frozen 3
    clear vf42
    have vf47 := (show Var (w2.setCell ⟨w.heap.size, 3, none⟩ (.string B2)) (w.heap.size + 1) 24 [.int .i64 0, .int .u32 0, .int .u32 0, .string ⟨#[]⟩] from (Var.othr2 vw2r.out ⟨w.heap.size, 3, none⟩ (.string B2) (by have := zw1.out; have := zw2.out; have := vw2r.out.lt; simp only; omega)))
    have f48 := vf47.frozen 0
    have f49 := vf47.frozen 1
    have f50 := vf47.frozen 2
    have f51 := vf47.frozen 3
    clear vf47
    go_wp2_with (first
    | (go_at_call 18; ((with_reducible refine (HQ4.out _).mono ?_); rintro e w4 ⟨rfl, bz⟩; obtain ⟨w3, hw3⟩ : ∃ wx, wx = (w2.setCell ⟨w.heap.size, 3, none⟩ (.string B2)) := ⟨_, rfl⟩; have bw3 := Lib.hid (show Below w.heap.size w w3 by rw [hw3]; exact (bw2.out.setCell (p := ⟨w.heap.size, 3, none⟩) (by have := zw1.out; have := zw2.out; simp only; omega) _)); have zw3 := Lib.hid (show w2.heap.size + 0 ≤ w3.heap.size by rw [hw3]; simp); have vw3f := Lib.hid (show Var w3 (w.heap.size) 24 [.int .i64 4, .int .u32 (1 + x), .int .u32 (vl b), .string B2] by rw [hw3]; exact (vw2f.out.set 3 (.string B2))); have vw3r := Lib.hid (show Var w3 (w.heap.size + 1) 24 [.int .i64 0, .int .u32 0, .int .u32 0, .string ⟨#[]⟩] by rw [hw3]; exact (Var.othr2 vw2r.out ⟨w.heap.size, 3, none⟩ (.string B2) (by have := zw1.out; have := zw2.out; have := vw2r.out.lt; simp only; omega))); have hbel : Below w3.heap.size w3 w4 := (by rw [hw3]; exact bz); clear bz; have bw4 := Lib.hid (bel2 bw3.out hbel); have zw4 := Lib.hid hbel.size; have vw4f := Lib.hid (vw3f.out.below hbel vw3f.out.lt); have vw4r := Lib.hid (vw3r.out.below hbel vw3r.out.lt); clear hbel; clear c23 c24 c25 c26 f28 f29 f30 f31 c33 c34 c35 c36 c38 c39 c40 c41 f43 f44 f45 f46 f48 f49 f50 f51; have vf52 := (show Var w4 (w.heap.size) 24 [.int .i64 4, .int .u32 (1 + x), .int .u32 (vl b), .string B2] from vw4f.out); have c53 := vf52.cell (j := 0) rfl; have c54 := vf52.cell (j := 1) rfl; have c55 := vf52.cell (j := 2) rfl; have c56 := vf52.cell (j := 3) rfl; clear vf52; have vf57 := (show Var w4 (w.heap.size) 24 [.int .i64 4, .int .u32 (1 + x), .int .u32 (vl b), .string B2] from vw4f.out); have f58 := vf57.frozen 0; have f59 := vf57.frozen 1; have f60 := vf57.frozen 2; have f61 := vf57.frozen 3; clear vf57; have vf62 := (show Var (w4.setCell ⟨w.heap.size, 3, none⟩ (.string P4)) (w.heap.size) 24 [.int .i64 4, .int .u32 (1 + x), .int .u32 (vl b), .string P4] from (vw4f.out.set 3 (.string P4))); have c63 := vf62.cell (j := 0) rfl; have c64 := vf62.cell (j := 1) rfl; have c65 := vf62.cell (j := 2) rfl; have c66 := vf62.cell (j := 3) rfl; clear vf62; have vf67 := (show Var (w4.setCell ⟨w.heap.size, 3, none⟩ (.string P4)) (w.heap.size + 1) 24 [.int .i64 0, .int .u32 0, .int .u32 0, .string ⟨#[]⟩] from (Var.othr2 vw4r.out ⟨w.heap.size, 3, none⟩ (.string P4) (by have := zw1.out; have := zw2.out; have := zw3.out; have := zw4.out; have := vw4r.out.lt; simp only; omega))); have c68 := vf67.cell (j := 0) rfl; have c69 := vf67.cell (j := 1) rfl; have c70 := vf67.cell (j := 2) rfl; have c71 := vf67.cell (j := 3) rfl; clear vf67; have vf72 := (show Var (w4.setCell ⟨w.heap.size, 3, none⟩ (.string P4)) (w.heap.size) 24 [.int .i64 4, .int .u32 (1 + x), .int .u32 (vl b), .string P4] from (vw4f.out.set 3 (.string P4))); have f73 := vf72.frozen 0; have f74 := vf72.frozen 1; have f75 := vf72.frozen 2; have f76 := vf72.frozen 3; clear vf72; have vf77 := (show Var (w4.setCell ⟨w.heap.size, 3, none⟩ (.string P4)) (w.heap.size + 1) 24 [.int .i64 0, .int .u32 0, .int .u32 0, .string ⟨#[]⟩] from (Var.othr2 vw4r.out ⟨w.heap.size, 3, none⟩ (.string P4) (by have := zw1.out; have := zw2.out; have := zw3.out; have := zw4.out; have := vw4r.out.lt; simp only; omega))); have f78 := vf77.frozen 0; have f79 := vf77.frozen 1; have f80 := vf77.frozen 2; have f81 := vf77.frozen 3; clear vf77)))
    have vf82 := (show Var (((((w4.setCell ⟨w.heap.size, 3, none⟩ (.string P4)).setCell ⟨w.heap.size + 1, 0, none⟩ (.int .i64 4)).setCell ⟨w.heap.size + 1, 1, none⟩ (.int .u32 (1 + x))).setCell ⟨w.heap.size + 1, 2, none⟩ (.int .u32 (vl b))).setCell ⟨w.heap.size + 1, 3, none⟩ (.string P4)) (w.heap.size + 1) 24 [.int .i64 4, .int .u32 (1 + x), .int .u32 (vl b), .string P4] from (((((Var.othr2 vw4r.out ⟨w.heap.size, 3, none⟩ (.string P4) (by have := zw1.out; have := zw2.out; have := zw3.out; have := zw4.out; have := vw4r.out.lt; simp only; omega)).set 0 (.int .i64 4)).set 1 (.int .u32 (1 + x))).set 2 (.int .u32 (vl b))).set 3 (.string P4)))
    have c83 := vf82.cell (j := 0) rfl
    have c84 := vf82.cell (j := 1) rfl
    have c85 := vf82.cell (j := 2) rfl
    have c86 := vf82.cell (j := 3) rfl
    clear vf82
    refine bodyPost_ret (v := .agg #[.int .i64 4, .int .u32 (1 + x), .int .u32 (vl b), .string P4]) (by simp [results, Try.results8, go_sem, c83, c84, c85, c86]) rfl ?_
    exact ⟨rfl, (((((bw4.out.setCell (p := ⟨w.heap.size, 3, none⟩) (by have := zw1.out; have := zw2.out; have := zw3.out; have := zw4.out; simp only; omega) _).setCell (p := ⟨w.heap.size + 1, 0, none⟩) (by have := zw1.out; have := zw2.out; have := zw3.out; have := zw4.out; simp only; omega) _).setCell (p := ⟨w.heap.size + 1, 1, none⟩) (by have := zw1.out; have := zw2.out; have := zw3.out; have := zw4.out; simp only; omega) _).setCell (p := ⟨w.heap.size + 1, 2, none⟩) (by have := zw1.out; have := zw2.out; have := zw3.out; have := zw4.out; simp only; omega) _).setCell (p := ⟨w.heap.size + 1, 3, none⟩) (by have := zw1.out; have := zw2.out; have := zw3.out; have := zw4.out; simp only; omega) _)⟩
set_option maxRecDepth 100000 in
set_option maxHeartbeats 8000000 in
theorem shaped_4_2 (f : Fr) (hs : f.body.length ≤ maxLen) (hk : f.kind % 6 = 4) : ∃ g : Fr, g.body.length ≤ maxLen ∧ ∀ w, Calls Try.prog 8 #[fV f, .int .i64 2] w fun e w' => e = .returned (fV g) ∧ Below w.heap.size w w' := by
  have HP : Hid (∀ w, Calls Try.prog 9 #[.int .i64 f.kind, .int .i64 6] w fun e w' => e = .returned (.int .i64 (f.kind % 6)) ∧ w = w') := fun w => Book.pick_any f.kind 6 (by decide) (by decide) w
  rw [hk] at HP
  obtain ⟨kd, a, b, body⟩ := f
  simp only at HP hs
  have hbs : (bs body).size ≤ maxLen := by rw [bs_size]; exact hs
  unfold fV
  simp only
  obtain ⟨B, hB⟩ : ∃ B, B = bs body := ⟨_, rfl⟩
  rw [← hB] at hbs ⊢
  clear hB hk hs
  obtain ⟨x, hx⟩ : ∃ x, (vl a).tmod 1000 = x := ⟨_, rfl⟩
  have hx1 : 0 ≤ x ∧ x ≤ 999 := by
    have := Crc.vl_range a
    rw [← hx, Int.tmod_eq_emod_of_nonneg this.1]; omega
  have hnn : 4 ≤ maxLen := by first | exact hbs | decide
  have HS := Lib.hid (fun w => shortB_big B hbs (4) hnn (4) rfl w)
  obtain ⟨S, hS⟩ : ∃ S, S = bs (B.data.toList.take (4)) := ⟨_, rfl⟩
  rw [← hS] at HS
  have hbl : B.data.toList.length = B.size := by simp
  have hSe : S.size = min (4) B.size := by rw [hS, bs_size, List.length_take, hbl]
  have hSs : S.size ≤ 4 ∧ S.size ≤ B.size := by omega
  have hSl : 4 - S.size ≤ 16 := by omega
  clear hbl
  obtain ⟨m, hm⟩ : ∃ m : Nat, m = 4 - S.size := ⟨_, rfl⟩
  have hmI : 4 - (S.size : Int) = (m : Int) := by omega
  have HF := Lib.hid (fun w => Flash.fill_any 0 (m : Int) m (.inl rfl) (by omega) w)
  rw [show (((0 : UInt8).toNat : Int)) = 0 from rfl] at HF
  obtain ⟨Z, hZ⟩ : ∃ Z, Z = bs (List.replicate m (0 : UInt8)) := ⟨_, rfl⟩
  rw [← hZ] at HF
  have hZs : Z.size = m := by rw [hZ, bs_size, List.length_replicate]
  obtain ⟨B2, hB2⟩ : ∃ B2, S ++ Z = B2 := ⟨_, rfl⟩
  have hB2n : B2.size = 4 := by rw [← hB2, ByteArray.size_append, hZs]; omega
  have hB2s : B2.size ≤ maxLen := by rw [hB2n]; exact hnn
  have hsum : S.size + Z.size ≤ maxLen := by rw [hZs]; unfold maxLen at hnn ⊢; omega
  unfold maxLen at hsum hbs
  have hSx : S.size ≤ B.size := hSs.2
  clear hS hZ hSl hZs hm hSs hSe
  clear hB2n
  refine ⟨⟨4, wd (1 + x), b, B2.data.toList⟩, dlen_le hB2s, fun w => ?_⟩
  simp only
  have HVX := Lib.hid (show Value.agg #[.int .i64 4, .int .u32 (vl (wd (1 + x))), .int .u32 (vl b), .string (bs B2.data.toList)] = .agg #[.int .i64 4, .int .u32 (1 + x), .int .u32 (vl b), .string B2] by rw [Crc.vl_wd (by omega) (by omega), bs_list])
  rw [HVX.out]
  go_enter Try.func8, Try.ntmps8
  go_wp2_with (first
    | (go_at_call 9; ((with_reducible refine (HP.out _).mono ?_); rintro e wsame ⟨rfl, rfl⟩; have vf1 := (show Var ((w.alloc (.cells #[.int .i64 4, .int .u32 (vl a), .int .u32 (vl b), .string B] 24)).alloc (.cells #[.int .i64 0, .int .u32 0, .int .u32 0, .string ⟨#[]⟩] 24)) (w.heap.size) 24 [.int .i64 4, .int .u32 (vl a), .int .u32 (vl b), .string B] from ((Var.new w 24 [.int .i64 4, .int .u32 (vl a), .int .u32 (vl b), .string B]).alloc _)); have c2 := vf1.cell (j := 0) rfl; have c3 := vf1.cell (j := 1) rfl; have c4 := vf1.cell (j := 2) rfl; have c5 := vf1.cell (j := 3) rfl; clear vf1; have vf6 := (show Var (((w.alloc (.cells #[.int .i64 4, .int .u32 (1 + x), .int .u32 (vl b), .string B] 24)).alloc (.cells #[.int .i64 0, .int .u32 0, .int .u32 0, .string ⟨#[]⟩] 24)).alloc (.cells #[.int .i64 0, .int .i64 0, .int .i64 (B.size : Int), .int .i64 16, .int .i64 4, .int .i64 0] 3)) (w.heap.size) 24 [.int .i64 4, .int .u32 (1 + x), .int .u32 (vl b), .string B] from (((Var.new w 24 [.int .i64 4, .int .u32 (1 + x), .int .u32 (vl b), .string B]).alloc _).alloc _)); have c7 := vf6.cell (j := 0) rfl; have c8 := vf6.cell (j := 1) rfl; have c9 := vf6.cell (j := 2) rfl; have c10 := vf6.cell (j := 3) rfl; clear vf6))
    | (go_at_call 24; ((with_reducible refine (HS.out _).mono ?_); rintro e wsame ⟨rfl, rfl⟩; have vf11 := (show Var (((w.alloc (.cells #[.int .i64 4, .int .u32 (1 + x), .int .u32 (vl b), .string S] 24)).alloc (.cells #[.int .i64 0, .int .u32 0, .int .u32 0, .string ⟨#[]⟩] 24)).alloc (.cells #[.int .i64 0, .int .i64 0, .int .i64 (B.size : Int), .int .i64 16, .int .i64 4, .int .i64 0] 3)) (w.heap.size) 24 [.int .i64 4, .int .u32 (1 + x), .int .u32 (vl b), .string S] from (((Var.new w 24 [.int .i64 4, .int .u32 (1 + x), .int .u32 (vl b), .string S]).alloc _).alloc _)); have c12 := vf11.cell (j := 0) rfl; have c13 := vf11.cell (j := 1) rfl; have c14 := vf11.cell (j := 2) rfl; have c15 := vf11.cell (j := 3) rfl; clear vf11; have vf16 := (show Var (((w.alloc (.cells #[.int .i64 4, .int .u32 (1 + x), .int .u32 (vl b), .string S] 24)).alloc (.cells #[.int .i64 0, .int .u32 0, .int .u32 0, .string ⟨#[]⟩] 24)).alloc (.cells #[.int .i64 0, .int .i64 0, .int .i64 (B.size : Int), .int .i64 16, .int .i64 4, .int .i64 0] 3)) (w.heap.size) 24 [.int .i64 4, .int .u32 (1 + x), .int .u32 (vl b), .string S] from (((Var.new w 24 [.int .i64 4, .int .u32 (1 + x), .int .u32 (vl b), .string S]).alloc _).alloc _)); have f17 := vf16.frozen 0; have f18 := vf16.frozen 1; have f19 := vf16.frozen 2; have f20 := vf16.frozen 3; clear vf16)))
  obtain ⟨w1, hw1⟩ : ∃ wx, wx = (((w.alloc (.cells #[.int .i64 4, .int .u32 (1 + x), .int .u32 (vl b), .string S] 24)).alloc (.cells #[.int .i64 0, .int .u32 0, .int .u32 0, .string ⟨#[]⟩] 24)).alloc (.cells #[.int .i64 0, .int .i64 0, .int .i64 (B.size : Int), .int .i64 16, .int .i64 4, .int .i64 0] 3)) := ⟨_, rfl⟩
  have bw1 := Lib.hid (show Below w.heap.size w w1 by rw [hw1]; exact (bel2 (bel2 (Geom.bel_alloc _ _) (Geom.bel_alloc _ _)) (Geom.bel_alloc _ _)))
  have zw1 := Lib.hid (show w.heap.size + 3 ≤ w1.heap.size by rw [hw1]; simp)
  have vw1f := Lib.hid (show Var w1 (w.heap.size) 24 [.int .i64 4, .int .u32 (1 + x), .int .u32 (vl b), .string S] by rw [hw1]; exact (((Var.new w 24 [.int .i64 4, .int .u32 (1 + x), .int .u32 (vl b), .string S]).alloc _).alloc _))
  have vw1r := Lib.hid (show Var w1 (w.heap.size + 1) 24 [.int .i64 0, .int .u32 0, .int .u32 0, .string ⟨#[]⟩] by rw [hw1]; exact ((show Var ((w.alloc (.cells #[.int .i64 4, .int .u32 (1 + x), .int .u32 (vl b), .string S] 24)).alloc (.cells #[.int .i64 0, .int .u32 0, .int .u32 0, .string ⟨#[]⟩] 24)) (w.heap.size + 1) 24 [.int .i64 0, .int .u32 0, .int .u32 0, .string ⟨#[]⟩] from by have h := Var.new (w.alloc (.cells #[.int .i64 4, .int .u32 (1 + x), .int .u32 (vl b), .string S] 24)) 24 [.int .i64 0, .int .u32 0, .int .u32 0, .string ⟨#[]⟩]; rw [show (w.alloc (.cells #[.int .i64 4, .int .u32 (1 + x), .int .u32 (vl b), .string S] 24)).heap.size = w.heap.size + 1 by simp] at h; exact h).alloc _))
  rw [← hw1]
  clear c2 c3 c4 c5 c7 c8 c9 c10 c12 c13 c14 c15 f17 f18 f19 f20
  refine wp_region_is_tail 10 [32, 33, 34, 35, 36, 37, 38, 39, 40, 41] (fun w' => Below w1.heap.size w1 w')
    [.pointer (some ⟨w.heap.size, 3, none⟩), .string S, .int .i64 4, .pointer (some ⟨w.heap.size, 3, none⟩), .string S, .int .i64 (S.size : Int), .int .i64 (m : Int), .string Z, .string B2, .pointer (some ⟨w.heap.size, 3, none⟩)] (by kernel_rfl) (by kernel_rfl) (by kernel_rfl) (by decide) rfl (by decide) (by simp) (Below.refl _ _).drew ?each ?done
  case each =>
    simp only [List.take_succ_cons, List.take_zero, Each]
    repeat' (first | exact trivial | refine And.intro ?_ ?_)
    all_goals
      intro ys wx hBx hdeps
      simp only [Deps, Region.binds, List.getD_cons_zero, List.getD_cons_succ, forall_const, and_true] at hdeps
      have q21 := (vw1f.out.below hBx vw1f.out.lt).cell (j := 3) rfl
      simp only [hdeps, fill, List.foldl_cons, List.foldl_nil, Act.put, List.setIfInBounds_toArray, List.set_cons_succ, List.set_cons_zero]
      first
        | (go_wp2_with fail; exact ⟨_, rfl, rfl, hBx, Below.refl _ _⟩)
        | (go_wp2_with (go_at_call 25; (with_reducible refine (HF.out _).mono ?_); rintro e w3 ⟨rfl, hbm⟩); exact ⟨_, rfl, rfl, hBx.trans (hbm.mono hBx.size), hbm⟩)
  case done =>
    intro ys wx hBx hV
    obtain ⟨w2, hw2⟩ : ∃ wy, wy = wx := ⟨_, rfl⟩
    rw [← hw2] at hBx ⊢
    have bw2 := Lib.hid (bel2 bw1.out hBx)
    have zw2 := Lib.hid hBx.size
    have vw2f := Lib.hid (vw1f.out.below hBx vw1f.out.lt)
    have vw2r := Lib.hid (vw1r.out.below hBx vw1r.out.lt)
    have h40 : ys 40 = .string B2 := hV 8 (by decide)
    have h41 : ys 41 = .pointer (some ⟨w.heap.size, 3, none⟩) := hV 9 (by decide)
    clear hBx hV hw2
    simp only [h40, h41, fill, List.drop_succ_cons, List.drop_zero, List.foldl_cons, List.foldl_nil, Act.put, List.setIfInBounds_toArray, List.set_cons_succ, List.set_cons_zero]
    have vf22 := (show Var w2 (w.heap.size) 24 [.int .i64 4, .int .u32 (1 + x), .int .u32 (vl b), .string S] from vw2f.out)
    have c23 := vf22.cell (j := 0) rfl
    have c24 := vf22.cell (j := 1) rfl
    have c25 := vf22.cell (j := 2) rfl
    have c26 := vf22.cell (j := 3) rfl
    clear vf22
    have vf27 := (show Var w2 (w.heap.size) 24 [.int .i64 4, .int .u32 (1 + x), .int .u32 (vl b), .string S] from vw2f.out)
    have f28 := vf27.frozen 0
    have f29 := vf27.frozen 1
    have f30 := vf27.frozen 2
    have f31 := vf27.frozen 3
    clear vf27
    have vf32 := (show Var (w2.setCell ⟨w.heap.size, 3, none⟩ (.string B2)) (w.heap.size) 24 [.int .i64 4, .int .u32 (1 + x), .int .u32 (vl b), .string B2] from (vw2f.out.set 3 (.string B2)))
    have c33 := vf32.cell (j := 0) rfl
    have c34 := vf32.cell (j := 1) rfl
    have c35 := vf32.cell (j := 2) rfl
    have c36 := vf32.cell (j := 3) rfl
    clear vf32
    have vf37 := (show Var (w2.setCell ⟨w.heap.size, 3, none⟩ (.string B2)) (w.heap.size + 1) 24 [.int .i64 0, .int .u32 0, .int .u32 0, .string ⟨#[]⟩] from (Var.othr2 vw2r.out ⟨w.heap.size, 3, none⟩ (.string B2) (by have := zw1.out; have := zw2.out; have := vw2r.out.lt; simp only; omega)))
    have c38 := vf37.cell (j := 0) rfl
    have c39 := vf37.cell (j := 1) rfl
    have c40 := vf37.cell (j := 2) rfl
    have c41 := vf37.cell (j := 3) rfl
    clear vf37
    have vf42 := (show Var (w2.setCell ⟨w.heap.size, 3, none⟩ (.string B2)) (w.heap.size) 24 [.int .i64 4, .int .u32 (1 + x), .int .u32 (vl b), .string B2] from (vw2f.out.set 3 (.string B2)))
    have f43 := vf42.frozen 0
    have f44 := vf42.frozen 1
    have f45 := vf42.frozen 2
    have f46 := vf42.frozen 3
    clear vf42
    have vf47 := (show Var (w2.setCell ⟨w.heap.size, 3, none⟩ (.string B2)) (w.heap.size + 1) 24 [.int .i64 0, .int .u32 0, .int .u32 0, .string ⟨#[]⟩] from (Var.othr2 vw2r.out ⟨w.heap.size, 3, none⟩ (.string B2) (by have := zw1.out; have := zw2.out; have := vw2r.out.lt; simp only; omega)))
    have f48 := vf47.frozen 0
    have f49 := vf47.frozen 1
    have f50 := vf47.frozen 2
    have f51 := vf47.frozen 3
    clear vf47
    go_wp2
    have vf52 := (show Var (((((w2.setCell ⟨w.heap.size, 3, none⟩ (.string B2)).setCell ⟨w.heap.size + 1, 0, none⟩ (.int .i64 4)).setCell ⟨w.heap.size + 1, 1, none⟩ (.int .u32 (1 + x))).setCell ⟨w.heap.size + 1, 2, none⟩ (.int .u32 (vl b))).setCell ⟨w.heap.size + 1, 3, none⟩ (.string B2)) (w.heap.size + 1) 24 [.int .i64 4, .int .u32 (1 + x), .int .u32 (vl b), .string B2] from (((((Var.othr2 vw2r.out ⟨w.heap.size, 3, none⟩ (.string B2) (by have := zw1.out; have := zw2.out; have := vw2r.out.lt; simp only; omega)).set 0 (.int .i64 4)).set 1 (.int .u32 (1 + x))).set 2 (.int .u32 (vl b))).set 3 (.string B2)))
    have c53 := vf52.cell (j := 0) rfl
    have c54 := vf52.cell (j := 1) rfl
    have c55 := vf52.cell (j := 2) rfl
    have c56 := vf52.cell (j := 3) rfl
    clear vf52
    refine bodyPost_ret (v := .agg #[.int .i64 4, .int .u32 (1 + x), .int .u32 (vl b), .string B2]) (by simp [results, Try.results8, go_sem, c53, c54, c55, c56]) rfl ?_
    exact ⟨rfl, (((((bw2.out.setCell (p := ⟨w.heap.size, 3, none⟩) (by have := zw1.out; have := zw2.out; simp only; omega) _).setCell (p := ⟨w.heap.size + 1, 0, none⟩) (by have := zw1.out; have := zw2.out; simp only; omega) _).setCell (p := ⟨w.heap.size + 1, 1, none⟩) (by have := zw1.out; have := zw2.out; simp only; omega) _).setCell (p := ⟨w.heap.size + 1, 2, none⟩) (by have := zw1.out; have := zw2.out; simp only; omega) _).setCell (p := ⟨w.heap.size + 1, 3, none⟩) (by have := zw1.out; have := zw2.out; simp only; omega) _)⟩
set_option maxRecDepth 100000 in
set_option maxHeartbeats 8000000 in
theorem shaped_5_1 (f : Fr) (hs : f.body.length ≤ maxLen) (hk : f.kind % 6 = 5) : ∃ g : Fr, g.body.length ≤ maxLen ∧ ∀ w, Calls Try.prog 8 #[fV f, .int .i64 1] w fun e w' => e = .returned (fV g) ∧ Below w.heap.size w w' := by
  have HP : Hid (∀ w, Calls Try.prog 9 #[.int .i64 f.kind, .int .i64 6] w fun e w' => e = .returned (.int .i64 (f.kind % 6)) ∧ w = w') := fun w => Book.pick_any f.kind 6 (by decide) (by decide) w
  rw [hk] at HP
  obtain ⟨kd, a, b, body⟩ := f
  simp only at HP hs
  have hbs : (bs body).size ≤ maxLen := by rw [bs_size]; exact hs
  unfold fV
  simp only
  obtain ⟨B, hB⟩ : ∃ B, B = bs body := ⟨_, rfl⟩
  rw [← hB] at hbs ⊢
  clear hB hk hs
  obtain ⟨x, hx⟩ : ∃ x, (vl a).tmod 1000 = x := ⟨_, rfl⟩
  have hx1 : 0 ≤ x ∧ x ≤ 999 := by
    have := Crc.vl_range a
    rw [← hx, Int.tmod_eq_emod_of_nonneg this.1]; omega
  have hnn : 0 ≤ maxLen := by first | exact hbs | decide
  have HS := Lib.hid (fun w => shortB_big B hbs (0) hnn (0) rfl w)
  obtain ⟨S, hS⟩ : ∃ S, S = bs (B.data.toList.take (0)) := ⟨_, rfl⟩
  rw [← hS] at HS
  have hbl : B.data.toList.length = B.size := by simp
  have hSe : S.size = min (0) B.size := by rw [hS, bs_size, List.length_take, hbl]
  have hSs : S.size ≤ 0 ∧ S.size ≤ B.size := by omega
  have hSl : 0 - S.size ≤ 16 := by omega
  clear hbl
  obtain ⟨m, hm⟩ : ∃ m : Nat, m = 0 - S.size := ⟨_, rfl⟩
  have hmI : 0 - (S.size : Int) = (m : Int) := by omega
  have HF := Lib.hid (fun w => Flash.fill_any 0 (m : Int) m (.inl rfl) (by omega) w)
  rw [show (((0 : UInt8).toNat : Int)) = 0 from rfl] at HF
  obtain ⟨Z, hZ⟩ : ∃ Z, Z = bs (List.replicate m (0 : UInt8)) := ⟨_, rfl⟩
  rw [← hZ] at HF
  have hZs : Z.size = m := by rw [hZ, bs_size, List.length_replicate]
  obtain ⟨B2, hB2⟩ : ∃ B2, S ++ Z = B2 := ⟨_, rfl⟩
  have hB2n : B2.size = 0 := by rw [← hB2, ByteArray.size_append, hZs]; omega
  have hB2s : B2.size ≤ maxLen := by rw [hB2n]; exact hnn
  have hsum : S.size + Z.size ≤ maxLen := by rw [hZs]; unfold maxLen at hnn ⊢; omega
  unfold maxLen at hsum hbs
  have hSx : S.size ≤ B.size := hSs.2
  clear hS hZ hSl hZs hm hSs hSe
  clear hB2n
  refine ⟨⟨5, wd (1 + x), b, B2.data.toList⟩, dlen_le hB2s, fun w => ?_⟩
  simp only
  have HVX := Lib.hid (show Value.agg #[.int .i64 5, .int .u32 (vl (wd (1 + x))), .int .u32 (vl b), .string (bs B2.data.toList)] = .agg #[.int .i64 5, .int .u32 (1 + x), .int .u32 (vl b), .string B2] by rw [Crc.vl_wd (by omega) (by omega), bs_list])
  rw [HVX.out]
  go_enter Try.func8, Try.ntmps8
  go_wp2_with (first
    | (go_at_call 9; ((with_reducible refine (HP.out _).mono ?_); rintro e wsame ⟨rfl, rfl⟩; have vf1 := (show Var ((w.alloc (.cells #[.int .i64 5, .int .u32 (vl a), .int .u32 (vl b), .string B] 24)).alloc (.cells #[.int .i64 0, .int .u32 0, .int .u32 0, .string ⟨#[]⟩] 24)) (w.heap.size) 24 [.int .i64 5, .int .u32 (vl a), .int .u32 (vl b), .string B] from ((Var.new w 24 [.int .i64 5, .int .u32 (vl a), .int .u32 (vl b), .string B]).alloc _)); have c2 := vf1.cell (j := 0) rfl; have c3 := vf1.cell (j := 1) rfl; have c4 := vf1.cell (j := 2) rfl; have c5 := vf1.cell (j := 3) rfl; clear vf1; have vf6 := (show Var (((w.alloc (.cells #[.int .i64 5, .int .u32 (1 + x), .int .u32 (vl b), .string B] 24)).alloc (.cells #[.int .i64 0, .int .u32 0, .int .u32 0, .string ⟨#[]⟩] 24)).alloc (.cells #[.int .i64 0, .int .i64 0, .int .i64 (B.size : Int), .int .i64 16, .int .i64 4, .int .i64 0] 3)) (w.heap.size) 24 [.int .i64 5, .int .u32 (1 + x), .int .u32 (vl b), .string B] from (((Var.new w 24 [.int .i64 5, .int .u32 (1 + x), .int .u32 (vl b), .string B]).alloc _).alloc _)); have c7 := vf6.cell (j := 0) rfl; have c8 := vf6.cell (j := 1) rfl; have c9 := vf6.cell (j := 2) rfl; have c10 := vf6.cell (j := 3) rfl; clear vf6))
    | (go_at_call 24; ((with_reducible refine (HS.out _).mono ?_); rintro e wsame ⟨rfl, rfl⟩; have vf11 := (show Var (((w.alloc (.cells #[.int .i64 5, .int .u32 (1 + x), .int .u32 (vl b), .string S] 24)).alloc (.cells #[.int .i64 0, .int .u32 0, .int .u32 0, .string ⟨#[]⟩] 24)).alloc (.cells #[.int .i64 0, .int .i64 0, .int .i64 (B.size : Int), .int .i64 16, .int .i64 4, .int .i64 0] 3)) (w.heap.size) 24 [.int .i64 5, .int .u32 (1 + x), .int .u32 (vl b), .string S] from (((Var.new w 24 [.int .i64 5, .int .u32 (1 + x), .int .u32 (vl b), .string S]).alloc _).alloc _)); have c12 := vf11.cell (j := 0) rfl; have c13 := vf11.cell (j := 1) rfl; have c14 := vf11.cell (j := 2) rfl; have c15 := vf11.cell (j := 3) rfl; clear vf11; have vf16 := (show Var (((w.alloc (.cells #[.int .i64 5, .int .u32 (1 + x), .int .u32 (vl b), .string S] 24)).alloc (.cells #[.int .i64 0, .int .u32 0, .int .u32 0, .string ⟨#[]⟩] 24)).alloc (.cells #[.int .i64 0, .int .i64 0, .int .i64 (B.size : Int), .int .i64 16, .int .i64 4, .int .i64 0] 3)) (w.heap.size) 24 [.int .i64 5, .int .u32 (1 + x), .int .u32 (vl b), .string S] from (((Var.new w 24 [.int .i64 5, .int .u32 (1 + x), .int .u32 (vl b), .string S]).alloc _).alloc _)); have f17 := vf16.frozen 0; have f18 := vf16.frozen 1; have f19 := vf16.frozen 2; have f20 := vf16.frozen 3; clear vf16)))
  obtain ⟨w1, hw1⟩ : ∃ wx, wx = (((w.alloc (.cells #[.int .i64 5, .int .u32 (1 + x), .int .u32 (vl b), .string S] 24)).alloc (.cells #[.int .i64 0, .int .u32 0, .int .u32 0, .string ⟨#[]⟩] 24)).alloc (.cells #[.int .i64 0, .int .i64 0, .int .i64 (B.size : Int), .int .i64 16, .int .i64 4, .int .i64 0] 3)) := ⟨_, rfl⟩
  have bw1 := Lib.hid (show Below w.heap.size w w1 by rw [hw1]; exact (bel2 (bel2 (Geom.bel_alloc _ _) (Geom.bel_alloc _ _)) (Geom.bel_alloc _ _)))
  have zw1 := Lib.hid (show w.heap.size + 3 ≤ w1.heap.size by rw [hw1]; simp)
  have vw1f := Lib.hid (show Var w1 (w.heap.size) 24 [.int .i64 5, .int .u32 (1 + x), .int .u32 (vl b), .string S] by rw [hw1]; exact (((Var.new w 24 [.int .i64 5, .int .u32 (1 + x), .int .u32 (vl b), .string S]).alloc _).alloc _))
  have vw1r := Lib.hid (show Var w1 (w.heap.size + 1) 24 [.int .i64 0, .int .u32 0, .int .u32 0, .string ⟨#[]⟩] by rw [hw1]; exact ((show Var ((w.alloc (.cells #[.int .i64 5, .int .u32 (1 + x), .int .u32 (vl b), .string S] 24)).alloc (.cells #[.int .i64 0, .int .u32 0, .int .u32 0, .string ⟨#[]⟩] 24)) (w.heap.size + 1) 24 [.int .i64 0, .int .u32 0, .int .u32 0, .string ⟨#[]⟩] from by have h := Var.new (w.alloc (.cells #[.int .i64 5, .int .u32 (1 + x), .int .u32 (vl b), .string S] 24)) 24 [.int .i64 0, .int .u32 0, .int .u32 0, .string ⟨#[]⟩]; rw [show (w.alloc (.cells #[.int .i64 5, .int .u32 (1 + x), .int .u32 (vl b), .string S] 24)).heap.size = w.heap.size + 1 by simp] at h; exact h).alloc _))
  rw [← hw1]
  clear c2 c3 c4 c5 c7 c8 c9 c10 c12 c13 c14 c15 f17 f18 f19 f20
  refine wp_region_is_tail 10 [32, 33, 34, 35, 36, 37, 38, 39, 40, 41] (fun w' => Below w1.heap.size w1 w')
    [.pointer (some ⟨w.heap.size, 3, none⟩), .string S, .int .i64 0, .pointer (some ⟨w.heap.size, 3, none⟩), .string S, .int .i64 (S.size : Int), .int .i64 (m : Int), .string Z, .string B2, .pointer (some ⟨w.heap.size, 3, none⟩)] (by kernel_rfl) (by kernel_rfl) (by kernel_rfl) (by decide) rfl (by decide) (by simp) (Below.refl _ _).drew ?each ?done
  case each =>
    simp only [List.take_succ_cons, List.take_zero, Each]
    repeat' (first | exact trivial | refine And.intro ?_ ?_)
    all_goals
      intro ys wx hBx hdeps
      simp only [Deps, Region.binds, List.getD_cons_zero, List.getD_cons_succ, forall_const, and_true] at hdeps
      have q21 := (vw1f.out.below hBx vw1f.out.lt).cell (j := 3) rfl
      simp only [hdeps, fill, List.foldl_cons, List.foldl_nil, Act.put, List.setIfInBounds_toArray, List.set_cons_succ, List.set_cons_zero]
      first
        | (go_wp2_with fail; exact ⟨_, rfl, rfl, hBx, Below.refl _ _⟩)
        | (go_wp2_with (go_at_call 25; (with_reducible refine (HF.out _).mono ?_); rintro e w3 ⟨rfl, hbm⟩); exact ⟨_, rfl, rfl, hBx.trans (hbm.mono hBx.size), hbm⟩)
  case done =>
    intro ys wx hBx hV
    obtain ⟨w2, hw2⟩ : ∃ wy, wy = wx := ⟨_, rfl⟩
    rw [← hw2] at hBx ⊢
    have bw2 := Lib.hid (bel2 bw1.out hBx)
    have zw2 := Lib.hid hBx.size
    have vw2f := Lib.hid (vw1f.out.below hBx vw1f.out.lt)
    have vw2r := Lib.hid (vw1r.out.below hBx vw1r.out.lt)
    have h40 : ys 40 = .string B2 := hV 8 (by decide)
    have h41 : ys 41 = .pointer (some ⟨w.heap.size, 3, none⟩) := hV 9 (by decide)
    clear hBx hV hw2
    simp only [h40, h41, fill, List.drop_succ_cons, List.drop_zero, List.foldl_cons, List.foldl_nil, Act.put, List.setIfInBounds_toArray, List.set_cons_succ, List.set_cons_zero]
    have vf22 := (show Var w2 (w.heap.size) 24 [.int .i64 5, .int .u32 (1 + x), .int .u32 (vl b), .string S] from vw2f.out)
    have c23 := vf22.cell (j := 0) rfl
    have c24 := vf22.cell (j := 1) rfl
    have c25 := vf22.cell (j := 2) rfl
    have c26 := vf22.cell (j := 3) rfl
    clear vf22
    have vf27 := (show Var w2 (w.heap.size) 24 [.int .i64 5, .int .u32 (1 + x), .int .u32 (vl b), .string S] from vw2f.out)
    have f28 := vf27.frozen 0
    have f29 := vf27.frozen 1
    have f30 := vf27.frozen 2
    have f31 := vf27.frozen 3
    clear vf27
    have vf32 := (show Var (w2.setCell ⟨w.heap.size, 3, none⟩ (.string B2)) (w.heap.size) 24 [.int .i64 5, .int .u32 (1 + x), .int .u32 (vl b), .string B2] from (vw2f.out.set 3 (.string B2)))
    have c33 := vf32.cell (j := 0) rfl
    have c34 := vf32.cell (j := 1) rfl
    have c35 := vf32.cell (j := 2) rfl
    have c36 := vf32.cell (j := 3) rfl
    clear vf32
    have vf37 := (show Var (w2.setCell ⟨w.heap.size, 3, none⟩ (.string B2)) (w.heap.size + 1) 24 [.int .i64 0, .int .u32 0, .int .u32 0, .string ⟨#[]⟩] from (Var.othr2 vw2r.out ⟨w.heap.size, 3, none⟩ (.string B2) (by have := zw1.out; have := zw2.out; have := vw2r.out.lt; simp only; omega)))
    have c38 := vf37.cell (j := 0) rfl
    have c39 := vf37.cell (j := 1) rfl
    have c40 := vf37.cell (j := 2) rfl
    have c41 := vf37.cell (j := 3) rfl
    clear vf37
    have vf42 := (show Var (w2.setCell ⟨w.heap.size, 3, none⟩ (.string B2)) (w.heap.size) 24 [.int .i64 5, .int .u32 (1 + x), .int .u32 (vl b), .string B2] from (vw2f.out.set 3 (.string B2)))
    have f43 := vf42.frozen 0
    have f44 := vf42.frozen 1
    have f45 := vf42.frozen 2
    have f46 := vf42.frozen 3
    clear vf42
    have vf47 := (show Var (w2.setCell ⟨w.heap.size, 3, none⟩ (.string B2)) (w.heap.size + 1) 24 [.int .i64 0, .int .u32 0, .int .u32 0, .string ⟨#[]⟩] from (Var.othr2 vw2r.out ⟨w.heap.size, 3, none⟩ (.string B2) (by have := zw1.out; have := zw2.out; have := vw2r.out.lt; simp only; omega)))
    have f48 := vf47.frozen 0
    have f49 := vf47.frozen 1
    have f50 := vf47.frozen 2
    have f51 := vf47.frozen 3
    clear vf47
    go_wp2
    have vf52 := (show Var (((((w2.setCell ⟨w.heap.size, 3, none⟩ (.string B2)).setCell ⟨w.heap.size + 1, 0, none⟩ (.int .i64 5)).setCell ⟨w.heap.size + 1, 1, none⟩ (.int .u32 (1 + x))).setCell ⟨w.heap.size + 1, 2, none⟩ (.int .u32 (vl b))).setCell ⟨w.heap.size + 1, 3, none⟩ (.string B2)) (w.heap.size + 1) 24 [.int .i64 5, .int .u32 (1 + x), .int .u32 (vl b), .string B2] from (((((Var.othr2 vw2r.out ⟨w.heap.size, 3, none⟩ (.string B2) (by have := zw1.out; have := zw2.out; have := vw2r.out.lt; simp only; omega)).set 0 (.int .i64 5)).set 1 (.int .u32 (1 + x))).set 2 (.int .u32 (vl b))).set 3 (.string B2)))
    have c53 := vf52.cell (j := 0) rfl
    have c54 := vf52.cell (j := 1) rfl
    have c55 := vf52.cell (j := 2) rfl
    have c56 := vf52.cell (j := 3) rfl
    clear vf52
    refine bodyPost_ret (v := .agg #[.int .i64 5, .int .u32 (1 + x), .int .u32 (vl b), .string B2]) (by simp [results, Try.results8, go_sem, c53, c54, c55, c56]) rfl ?_
    exact ⟨rfl, (((((bw2.out.setCell (p := ⟨w.heap.size, 3, none⟩) (by have := zw1.out; have := zw2.out; simp only; omega) _).setCell (p := ⟨w.heap.size + 1, 0, none⟩) (by have := zw1.out; have := zw2.out; simp only; omega) _).setCell (p := ⟨w.heap.size + 1, 1, none⟩) (by have := zw1.out; have := zw2.out; simp only; omega) _).setCell (p := ⟨w.heap.size + 1, 2, none⟩) (by have := zw1.out; have := zw2.out; simp only; omega) _).setCell (p := ⟨w.heap.size + 1, 3, none⟩) (by have := zw1.out; have := zw2.out; simp only; omega) _)⟩
set_option maxRecDepth 100000 in
set_option maxHeartbeats 8000000 in
theorem shaped_5_2 (f : Fr) (hs : f.body.length ≤ maxLen) (hk : f.kind % 6 = 5) : ∃ g : Fr, g.body.length ≤ maxLen ∧ ∀ w, Calls Try.prog 8 #[fV f, .int .i64 2] w fun e w' => e = .returned (fV g) ∧ Below w.heap.size w w' := by
  have HP : Hid (∀ w, Calls Try.prog 9 #[.int .i64 f.kind, .int .i64 6] w fun e w' => e = .returned (.int .i64 (f.kind % 6)) ∧ w = w') := fun w => Book.pick_any f.kind 6 (by decide) (by decide) w
  rw [hk] at HP
  obtain ⟨kd, a, b, body⟩ := f
  simp only at HP hs
  have hbs : (bs body).size ≤ maxLen := by rw [bs_size]; exact hs
  unfold fV
  simp only
  obtain ⟨B, hB⟩ : ∃ B, B = bs body := ⟨_, rfl⟩
  rw [← hB] at hbs ⊢
  clear hB hk hs
  obtain ⟨x, hx⟩ : ∃ x, (vl a).tmod 1000 = x := ⟨_, rfl⟩
  have hx1 : 0 ≤ x ∧ x ≤ 999 := by
    have := Crc.vl_range a
    rw [← hx, Int.tmod_eq_emod_of_nonneg this.1]; omega
  have hnn : 0 ≤ maxLen := by first | exact hbs | decide
  have HS := Lib.hid (fun w => shortB_big B hbs (0) hnn (0) rfl w)
  obtain ⟨S, hS⟩ : ∃ S, S = bs (B.data.toList.take (0)) := ⟨_, rfl⟩
  rw [← hS] at HS
  have hbl : B.data.toList.length = B.size := by simp
  have hSe : S.size = min (0) B.size := by rw [hS, bs_size, List.length_take, hbl]
  have hSs : S.size ≤ 0 ∧ S.size ≤ B.size := by omega
  have hSl : 0 - S.size ≤ 16 := by omega
  clear hbl
  obtain ⟨m, hm⟩ : ∃ m : Nat, m = 0 - S.size := ⟨_, rfl⟩
  have hmI : 0 - (S.size : Int) = (m : Int) := by omega
  have HF := Lib.hid (fun w => Flash.fill_any 0 (m : Int) m (.inl rfl) (by omega) w)
  rw [show (((0 : UInt8).toNat : Int)) = 0 from rfl] at HF
  obtain ⟨Z, hZ⟩ : ∃ Z, Z = bs (List.replicate m (0 : UInt8)) := ⟨_, rfl⟩
  rw [← hZ] at HF
  have hZs : Z.size = m := by rw [hZ, bs_size, List.length_replicate]
  obtain ⟨B2, hB2⟩ : ∃ B2, S ++ Z = B2 := ⟨_, rfl⟩
  have hB2n : B2.size = 0 := by rw [← hB2, ByteArray.size_append, hZs]; omega
  have hB2s : B2.size ≤ maxLen := by rw [hB2n]; exact hnn
  have hsum : S.size + Z.size ≤ maxLen := by rw [hZs]; unfold maxLen at hnn ⊢; omega
  unfold maxLen at hsum hbs
  have hSx : S.size ≤ B.size := hSs.2
  clear hS hZ hSl hZs hm hSs hSe
  clear hB2n
  refine ⟨⟨5, wd (1 + x), b, B2.data.toList⟩, dlen_le hB2s, fun w => ?_⟩
  simp only
  have HVX := Lib.hid (show Value.agg #[.int .i64 5, .int .u32 (vl (wd (1 + x))), .int .u32 (vl b), .string (bs B2.data.toList)] = .agg #[.int .i64 5, .int .u32 (1 + x), .int .u32 (vl b), .string B2] by rw [Crc.vl_wd (by omega) (by omega), bs_list])
  rw [HVX.out]
  go_enter Try.func8, Try.ntmps8
  go_wp2_with (first
    | (go_at_call 9; ((with_reducible refine (HP.out _).mono ?_); rintro e wsame ⟨rfl, rfl⟩; have vf1 := (show Var ((w.alloc (.cells #[.int .i64 5, .int .u32 (vl a), .int .u32 (vl b), .string B] 24)).alloc (.cells #[.int .i64 0, .int .u32 0, .int .u32 0, .string ⟨#[]⟩] 24)) (w.heap.size) 24 [.int .i64 5, .int .u32 (vl a), .int .u32 (vl b), .string B] from ((Var.new w 24 [.int .i64 5, .int .u32 (vl a), .int .u32 (vl b), .string B]).alloc _)); have c2 := vf1.cell (j := 0) rfl; have c3 := vf1.cell (j := 1) rfl; have c4 := vf1.cell (j := 2) rfl; have c5 := vf1.cell (j := 3) rfl; clear vf1; have vf6 := (show Var (((w.alloc (.cells #[.int .i64 5, .int .u32 (1 + x), .int .u32 (vl b), .string B] 24)).alloc (.cells #[.int .i64 0, .int .u32 0, .int .u32 0, .string ⟨#[]⟩] 24)).alloc (.cells #[.int .i64 0, .int .i64 0, .int .i64 (B.size : Int), .int .i64 16, .int .i64 4, .int .i64 0] 3)) (w.heap.size) 24 [.int .i64 5, .int .u32 (1 + x), .int .u32 (vl b), .string B] from (((Var.new w 24 [.int .i64 5, .int .u32 (1 + x), .int .u32 (vl b), .string B]).alloc _).alloc _)); have c7 := vf6.cell (j := 0) rfl; have c8 := vf6.cell (j := 1) rfl; have c9 := vf6.cell (j := 2) rfl; have c10 := vf6.cell (j := 3) rfl; clear vf6))
    | (go_at_call 24; ((with_reducible refine (HS.out _).mono ?_); rintro e wsame ⟨rfl, rfl⟩; have vf11 := (show Var (((w.alloc (.cells #[.int .i64 5, .int .u32 (1 + x), .int .u32 (vl b), .string S] 24)).alloc (.cells #[.int .i64 0, .int .u32 0, .int .u32 0, .string ⟨#[]⟩] 24)).alloc (.cells #[.int .i64 0, .int .i64 0, .int .i64 (B.size : Int), .int .i64 16, .int .i64 4, .int .i64 0] 3)) (w.heap.size) 24 [.int .i64 5, .int .u32 (1 + x), .int .u32 (vl b), .string S] from (((Var.new w 24 [.int .i64 5, .int .u32 (1 + x), .int .u32 (vl b), .string S]).alloc _).alloc _)); have c12 := vf11.cell (j := 0) rfl; have c13 := vf11.cell (j := 1) rfl; have c14 := vf11.cell (j := 2) rfl; have c15 := vf11.cell (j := 3) rfl; clear vf11; have vf16 := (show Var (((w.alloc (.cells #[.int .i64 5, .int .u32 (1 + x), .int .u32 (vl b), .string S] 24)).alloc (.cells #[.int .i64 0, .int .u32 0, .int .u32 0, .string ⟨#[]⟩] 24)).alloc (.cells #[.int .i64 0, .int .i64 0, .int .i64 (B.size : Int), .int .i64 16, .int .i64 4, .int .i64 0] 3)) (w.heap.size) 24 [.int .i64 5, .int .u32 (1 + x), .int .u32 (vl b), .string S] from (((Var.new w 24 [.int .i64 5, .int .u32 (1 + x), .int .u32 (vl b), .string S]).alloc _).alloc _)); have f17 := vf16.frozen 0; have f18 := vf16.frozen 1; have f19 := vf16.frozen 2; have f20 := vf16.frozen 3; clear vf16)))
  obtain ⟨w1, hw1⟩ : ∃ wx, wx = (((w.alloc (.cells #[.int .i64 5, .int .u32 (1 + x), .int .u32 (vl b), .string S] 24)).alloc (.cells #[.int .i64 0, .int .u32 0, .int .u32 0, .string ⟨#[]⟩] 24)).alloc (.cells #[.int .i64 0, .int .i64 0, .int .i64 (B.size : Int), .int .i64 16, .int .i64 4, .int .i64 0] 3)) := ⟨_, rfl⟩
  have bw1 := Lib.hid (show Below w.heap.size w w1 by rw [hw1]; exact (bel2 (bel2 (Geom.bel_alloc _ _) (Geom.bel_alloc _ _)) (Geom.bel_alloc _ _)))
  have zw1 := Lib.hid (show w.heap.size + 3 ≤ w1.heap.size by rw [hw1]; simp)
  have vw1f := Lib.hid (show Var w1 (w.heap.size) 24 [.int .i64 5, .int .u32 (1 + x), .int .u32 (vl b), .string S] by rw [hw1]; exact (((Var.new w 24 [.int .i64 5, .int .u32 (1 + x), .int .u32 (vl b), .string S]).alloc _).alloc _))
  have vw1r := Lib.hid (show Var w1 (w.heap.size + 1) 24 [.int .i64 0, .int .u32 0, .int .u32 0, .string ⟨#[]⟩] by rw [hw1]; exact ((show Var ((w.alloc (.cells #[.int .i64 5, .int .u32 (1 + x), .int .u32 (vl b), .string S] 24)).alloc (.cells #[.int .i64 0, .int .u32 0, .int .u32 0, .string ⟨#[]⟩] 24)) (w.heap.size + 1) 24 [.int .i64 0, .int .u32 0, .int .u32 0, .string ⟨#[]⟩] from by have h := Var.new (w.alloc (.cells #[.int .i64 5, .int .u32 (1 + x), .int .u32 (vl b), .string S] 24)) 24 [.int .i64 0, .int .u32 0, .int .u32 0, .string ⟨#[]⟩]; rw [show (w.alloc (.cells #[.int .i64 5, .int .u32 (1 + x), .int .u32 (vl b), .string S] 24)).heap.size = w.heap.size + 1 by simp] at h; exact h).alloc _))
  rw [← hw1]
  clear c2 c3 c4 c5 c7 c8 c9 c10 c12 c13 c14 c15 f17 f18 f19 f20
  refine wp_region_is_tail 10 [32, 33, 34, 35, 36, 37, 38, 39, 40, 41] (fun w' => Below w1.heap.size w1 w')
    [.pointer (some ⟨w.heap.size, 3, none⟩), .string S, .int .i64 0, .pointer (some ⟨w.heap.size, 3, none⟩), .string S, .int .i64 (S.size : Int), .int .i64 (m : Int), .string Z, .string B2, .pointer (some ⟨w.heap.size, 3, none⟩)] (by kernel_rfl) (by kernel_rfl) (by kernel_rfl) (by decide) rfl (by decide) (by simp) (Below.refl _ _).drew ?each ?done
  case each =>
    simp only [List.take_succ_cons, List.take_zero, Each]
    repeat' (first | exact trivial | refine And.intro ?_ ?_)
    all_goals
      intro ys wx hBx hdeps
      simp only [Deps, Region.binds, List.getD_cons_zero, List.getD_cons_succ, forall_const, and_true] at hdeps
      have q21 := (vw1f.out.below hBx vw1f.out.lt).cell (j := 3) rfl
      simp only [hdeps, fill, List.foldl_cons, List.foldl_nil, Act.put, List.setIfInBounds_toArray, List.set_cons_succ, List.set_cons_zero]
      first
        | (go_wp2_with fail; exact ⟨_, rfl, rfl, hBx, Below.refl _ _⟩)
        | (go_wp2_with (go_at_call 25; (with_reducible refine (HF.out _).mono ?_); rintro e w3 ⟨rfl, hbm⟩); exact ⟨_, rfl, rfl, hBx.trans (hbm.mono hBx.size), hbm⟩)
  case done =>
    intro ys wx hBx hV
    obtain ⟨w2, hw2⟩ : ∃ wy, wy = wx := ⟨_, rfl⟩
    rw [← hw2] at hBx ⊢
    have bw2 := Lib.hid (bel2 bw1.out hBx)
    have zw2 := Lib.hid hBx.size
    have vw2f := Lib.hid (vw1f.out.below hBx vw1f.out.lt)
    have vw2r := Lib.hid (vw1r.out.below hBx vw1r.out.lt)
    have h40 : ys 40 = .string B2 := hV 8 (by decide)
    have h41 : ys 41 = .pointer (some ⟨w.heap.size, 3, none⟩) := hV 9 (by decide)
    clear hBx hV hw2
    simp only [h40, h41, fill, List.drop_succ_cons, List.drop_zero, List.foldl_cons, List.foldl_nil, Act.put, List.setIfInBounds_toArray, List.set_cons_succ, List.set_cons_zero]
    have vf22 := (show Var w2 (w.heap.size) 24 [.int .i64 5, .int .u32 (1 + x), .int .u32 (vl b), .string S] from vw2f.out)
    have c23 := vf22.cell (j := 0) rfl
    have c24 := vf22.cell (j := 1) rfl
    have c25 := vf22.cell (j := 2) rfl
    have c26 := vf22.cell (j := 3) rfl
    clear vf22
    have vf27 := (show Var w2 (w.heap.size) 24 [.int .i64 5, .int .u32 (1 + x), .int .u32 (vl b), .string S] from vw2f.out)
    have f28 := vf27.frozen 0
    have f29 := vf27.frozen 1
    have f30 := vf27.frozen 2
    have f31 := vf27.frozen 3
    clear vf27
    have vf32 := (show Var (w2.setCell ⟨w.heap.size, 3, none⟩ (.string B2)) (w.heap.size) 24 [.int .i64 5, .int .u32 (1 + x), .int .u32 (vl b), .string B2] from (vw2f.out.set 3 (.string B2)))
    have c33 := vf32.cell (j := 0) rfl
    have c34 := vf32.cell (j := 1) rfl
    have c35 := vf32.cell (j := 2) rfl
    have c36 := vf32.cell (j := 3) rfl
    clear vf32
    have vf37 := (show Var (w2.setCell ⟨w.heap.size, 3, none⟩ (.string B2)) (w.heap.size + 1) 24 [.int .i64 0, .int .u32 0, .int .u32 0, .string ⟨#[]⟩] from (Var.othr2 vw2r.out ⟨w.heap.size, 3, none⟩ (.string B2) (by have := zw1.out; have := zw2.out; have := vw2r.out.lt; simp only; omega)))
    have c38 := vf37.cell (j := 0) rfl
    have c39 := vf37.cell (j := 1) rfl
    have c40 := vf37.cell (j := 2) rfl
    have c41 := vf37.cell (j := 3) rfl
    clear vf37
    have vf42 := (show Var (w2.setCell ⟨w.heap.size, 3, none⟩ (.string B2)) (w.heap.size) 24 [.int .i64 5, .int .u32 (1 + x), .int .u32 (vl b), .string B2] from (vw2f.out.set 3 (.string B2)))
    have f43 := vf42.frozen 0
    have f44 := vf42.frozen 1
    have f45 := vf42.frozen 2
    have f46 := vf42.frozen 3
    clear vf42
    have vf47 := (show Var (w2.setCell ⟨w.heap.size, 3, none⟩ (.string B2)) (w.heap.size + 1) 24 [.int .i64 0, .int .u32 0, .int .u32 0, .string ⟨#[]⟩] from (Var.othr2 vw2r.out ⟨w.heap.size, 3, none⟩ (.string B2) (by have := zw1.out; have := zw2.out; have := vw2r.out.lt; simp only; omega)))
    have f48 := vf47.frozen 0
    have f49 := vf47.frozen 1
    have f50 := vf47.frozen 2
    have f51 := vf47.frozen 3
    clear vf47
    go_wp2
    have vf52 := (show Var (((((w2.setCell ⟨w.heap.size, 3, none⟩ (.string B2)).setCell ⟨w.heap.size + 1, 0, none⟩ (.int .i64 5)).setCell ⟨w.heap.size + 1, 1, none⟩ (.int .u32 (1 + x))).setCell ⟨w.heap.size + 1, 2, none⟩ (.int .u32 (vl b))).setCell ⟨w.heap.size + 1, 3, none⟩ (.string B2)) (w.heap.size + 1) 24 [.int .i64 5, .int .u32 (1 + x), .int .u32 (vl b), .string B2] from (((((Var.othr2 vw2r.out ⟨w.heap.size, 3, none⟩ (.string B2) (by have := zw1.out; have := zw2.out; have := vw2r.out.lt; simp only; omega)).set 0 (.int .i64 5)).set 1 (.int .u32 (1 + x))).set 2 (.int .u32 (vl b))).set 3 (.string B2)))
    have c53 := vf52.cell (j := 0) rfl
    have c54 := vf52.cell (j := 1) rfl
    have c55 := vf52.cell (j := 2) rfl
    have c56 := vf52.cell (j := 3) rfl
    clear vf52
    refine bodyPost_ret (v := .agg #[.int .i64 5, .int .u32 (1 + x), .int .u32 (vl b), .string B2]) (by simp [results, Try.results8, go_sem, c53, c54, c55, c56]) rfl ?_
    exact ⟨rfl, (((((bw2.out.setCell (p := ⟨w.heap.size, 3, none⟩) (by have := zw1.out; have := zw2.out; simp only; omega) _).setCell (p := ⟨w.heap.size + 1, 0, none⟩) (by have := zw1.out; have := zw2.out; simp only; omega) _).setCell (p := ⟨w.heap.size + 1, 1, none⟩) (by have := zw1.out; have := zw2.out; simp only; omega) _).setCell (p := ⟨w.heap.size + 1, 2, none⟩) (by have := zw1.out; have := zw2.out; simp only; omega) _).setCell (p := ⟨w.heap.size + 1, 3, none⟩) (by have := zw1.out; have := zw2.out; simp only; omega) _)⟩
theorem shaped_any (f : Fr) (hs : f.body.length ≤ maxLen) (how : Int) (h0 : 0 ≤ how) (h2 : how < 3) : ∃ g : Fr, g.body.length ≤ maxLen ∧ ∀ w, Calls Try.prog 8 #[fV f, .int .i64 how] w fun e w' => e = .returned (fV g) ∧ Below w.heap.size w w' := by
  rcases show how = 0 ∨ how = 1 ∨ how = 2 by omega with rfl | rfl | rfl
  · exact shaped_0 f hs
  · rcases show f.kind % 6 = 0 ∨ f.kind % 6 = 1 ∨ f.kind % 6 = 2 ∨ f.kind % 6 = 3 ∨ f.kind % 6 = 4 ∨ f.kind % 6 = 5 by omega with h | h | h | h | h | h
    · exact shaped_0_1 f hs h
    · exact shaped_1_1 f hs h
    · exact shaped_2_1 f hs h
    · exact shaped_3_1 f hs h
    · exact shaped_4_1 f hs h
    · exact shaped_5_1 f hs h
  · rcases show f.kind % 6 = 0 ∨ f.kind % 6 = 1 ∨ f.kind % 6 = 2 ∨ f.kind % 6 = 3 ∨ f.kind % 6 = 4 ∨ f.kind % 6 = 5 by omega with h | h | h | h | h | h
    · exact shaped_0_2 f hs h
    · exact shaped_1_2 f hs h
    · exact shaped_2_2 f hs h
    · exact shaped_3_2 f hs h
    · exact shaped_4_2 f hs h
    · exact shaped_5_2 f hs h
end Go.Proofs.Ytdbfclngllhdlaa.Piece
