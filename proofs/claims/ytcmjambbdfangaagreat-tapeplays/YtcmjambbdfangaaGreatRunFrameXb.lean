/-
  Joined texts: FrameXb, FrameX.
-/
import Derived.Test.YtcmjambbdfangaaGreatRunTapeM
import Derived.Test.YtcmjambbdfangaaGreatRunGeomA
import Derived.Test.YtcmjambbdfangaaGreatRunBuild
import Derived.Test.YtcmjambbdfangaaGreatRunRefPiece
/-
  What package frame's Bytes answers.
-/
set_option linter.unusedVariables false
set_option linter.unusedSimpArgs false
namespace Go.Proofs.YtcmjambbdfangaaGreat.Frame
open Go.RowKit
open CrcM (W)
open Crc (le4 sumOf vl wd putS)
open Flash (bs bs_size bs_list list_bs)
open Tup Bytes
open Build (Bld TB TY Stays Wr)
open Go.Proofs.YtcmjambbdfangaaGreat.Region (fill Then Deps Each wp_region_is wp_region_is_tail wp_region_each wp_region_tail)

set_option maxRecDepth 100000 in
set_option maxHeartbeats 8000000 in
theorem bytes_wrong (g : Geom.Gm) (f : Fr) (hs : f.body.length ≤ maxLen) (w : World) (hr : Geom.rightG g = false) :
    Calls Tryz.prog 44 #[Geom.gV g, fV f] w fun e w' => e = .returned (.tuple #[.string (bs (bytesG g f).1), .int .i64 ((bytesG g f).2 : Int)]) ∧ Below w.heap.size w w' := by
  unfold maxLen at hs
  have HE := Lib.hid (bytesG_right (f := f) hr)
  have HR := Lib.hid (fun w => Geom.right_any g w)
  rw [hr] at HR
  rw [HE.out]
  clear hr HE
  obtain ⟨gp, gs, gr⟩ := g
  obtain ⟨kd, a, b, body⟩ := f
  obtain ⟨B, hB⟩ : ∃ B, B = bs body := ⟨_, rfl⟩
  unfold Geom.gV at HR ⊢
  unfold fV
  simp only at hs ⊢
  rw [← hB]
  have HG := Lib.hid ((Var.new w 23 [.int .i64 gp, .int .i64 gs, .int .i64 gr]).alloc (.cells #[.int .i64 kd, .int .u32 (vl a), .int .u32 (vl b), .string B] 31))
  have HF := Lib.hid (Var.new (w.alloc (.cells #[.int .i64 gp, .int .i64 gs, .int .i64 gr] 23)) 31 [.int .i64 kd, .int .u32 (vl a), .int .u32 (vl b), .string B])
  have hsz1 : (w.alloc (.cells #[.int .i64 gp, .int .i64 gs, .int .i64 gr] 23)).heap.size = w.heap.size + 1 := by simp
  rw [hsz1] at HF
  obtain ⟨w1, hw1⟩ : ∃ w1, w1 = (w.alloc (.cells #[.int .i64 gp, .int .i64 gs, .int .i64 gr] 23)).alloc (.cells #[.int .i64 kd, .int .u32 (vl a), .int .u32 (vl b), .string B] 31) := ⟨_, rfl⟩
  have HB1 := Lib.hid (show Below w.heap.size w w1 by rw [hw1]; exact bel2 (Geom.bel_alloc _ _) (Geom.bel_alloc _ _))
  have HG1 := Lib.hid (show Var w1 w.heap.size 23 [.int .i64 gp, .int .i64 gs, .int .i64 gr] by rw [hw1]; exact HG.out)
  have HF1 := Lib.hid (show Var w1 (w.heap.size + 1) 31 [.int .i64 kd, .int .u32 (vl a), .int .u32 (vl b), .string B] by rw [hw1]; exact HF.out)
  clear hB
  go_enter Tryz.func44, Tryz.ntmps44
  go_wp2_with (go_at_call 57; (with_reducible refine (HR.out _).mono ?_); rintro e w3 ⟨rfl, hn3⟩; have hn4 : Below w1.heap.size w1 w3 := (by rw [hw1]; exact hn3); have k0 := (HF1.out.below hn4 HF1.out.lt).cell (j := 0) rfl; have HN4 := Lib.hid hn4; clear hn3 hn4)
  go_ret2
  exact ⟨rfl, bel2 HB1.out HN4.out⟩
set_option maxRecDepth 100000 in
set_option maxHeartbeats 8000000 in
theorem bytes_kind (g : Geom.Gm) (f : Fr) (hs : f.body.length ≤ maxLen) (w : World) (hr : Geom.rightG g = true) (hk : f.kind < 1 ∨ 4 < f.kind) :
    Calls Tryz.prog 44 #[Geom.gV g, fV f] w fun e w' => e = .returned (.tuple #[.string (bs (bytesG g f).1), .int .i64 ((bytesG g f).2 : Int)]) ∧ Below w.heap.size w w' := by
  unfold maxLen at hs
  have HE := Lib.hid (bytesG_kind hr hk)
  have HR := Lib.hid (fun w => Geom.right_any g w)
  have HK := Lib.hid (fun w => isKind_any f.kind w)
  rw [show isKindB f.kind = false by
    unfold isKindB
    rcases hk with h | h
    · rw [decide_eq_false (show ¬ (1 ≤ f.kind) by omega)]; rfl
    · rw [decide_eq_false (show ¬ (f.kind ≤ 4) by omega), Bool.and_false]] at HK
  rw [hr] at HR
  rw [HE.out]
  clear hr HE hk
  obtain ⟨gp, gs, gr⟩ := g
  obtain ⟨kd, a, b, body⟩ := f
  obtain ⟨B, hB⟩ : ∃ B, B = bs body := ⟨_, rfl⟩
  unfold Geom.gV at HR ⊢
  unfold fV
  simp only at hs HK ⊢
  rw [← hB]
  have HG := Lib.hid ((Var.new w 23 [.int .i64 gp, .int .i64 gs, .int .i64 gr]).alloc (.cells #[.int .i64 kd, .int .u32 (vl a), .int .u32 (vl b), .string B] 31))
  have HF := Lib.hid (Var.new (w.alloc (.cells #[.int .i64 gp, .int .i64 gs, .int .i64 gr] 23)) 31 [.int .i64 kd, .int .u32 (vl a), .int .u32 (vl b), .string B])
  have hsz1 : (w.alloc (.cells #[.int .i64 gp, .int .i64 gs, .int .i64 gr] 23)).heap.size = w.heap.size + 1 := by simp
  rw [hsz1] at HF
  obtain ⟨w1, hw1⟩ : ∃ w1, w1 = (w.alloc (.cells #[.int .i64 gp, .int .i64 gs, .int .i64 gr] 23)).alloc (.cells #[.int .i64 kd, .int .u32 (vl a), .int .u32 (vl b), .string B] 31) := ⟨_, rfl⟩
  have HB1 := Lib.hid (show Below w.heap.size w w1 by rw [hw1]; exact bel2 (Geom.bel_alloc _ _) (Geom.bel_alloc _ _))
  have HG1 := Lib.hid (show Var w1 w.heap.size 23 [.int .i64 gp, .int .i64 gs, .int .i64 gr] by rw [hw1]; exact HG.out)
  have HF1 := Lib.hid (show Var w1 (w.heap.size + 1) 31 [.int .i64 kd, .int .u32 (vl a), .int .u32 (vl b), .string B] by rw [hw1]; exact HF.out)
  clear hB
  go_enter Tryz.func44, Tryz.ntmps44
  go_wp2_with (first | (go_at_call 57; (with_reducible refine (HR.out _).mono ?_); rintro e w3 ⟨rfl, hn3⟩; have hn4 : Below w1.heap.size w1 w3 := (by rw [hw1]; exact hn3); have k0 := (HF1.out.below hn4 HF1.out.lt).cell (j := 0) rfl; have HN4 := Lib.hid hn4; clear hn3 hn4) | (go_at_call 78; (with_reducible refine (HK.out _).mono ?_); rintro e w5 ⟨rfl, rfl⟩))
  go_ret2
  exact ⟨rfl, bel2 HB1.out HN4.out⟩
set_option maxRecDepth 100000 in
set_option maxHeartbeats 8000000 in
theorem bytes_long (g : Geom.Gm) (f : Fr) (hs : f.body.length ≤ maxLen) (w : World) (hr : Geom.rightG g = true) (hk : ¬ (f.kind < 1 ∨ 4 < f.kind)) (hl : g.page.toNat - 15 < f.body.length) :
    Calls Tryz.prog 44 #[Geom.gV g, fV f] w fun e w' => e = .returned (.tuple #[.string (bs (bytesG g f).1), .int .i64 ((bytesG g f).2 : Int)]) ∧ Below w.heap.size w w' := by
  unfold maxLen at hs
  have HE := Lib.hid (bytesG_long hr hk hl)
  have HR := Lib.hid (fun w => Geom.right_any g w)
  have HRM := Lib.hid (fun w => Geom.room_any g w)
  have HK := Lib.hid (fun w => isKind_any f.kind w)
  rw [show isKindB f.kind = true by unfold isKindB; rw [decide_eq_true (show 1 ≤ f.kind by omega), decide_eq_true (show f.kind ≤ 4 by omega)]; rfl] at HK
  have hsm := Geom.right_small.mp hr
  obtain ⟨p0, p1, -⟩ := hsm
  rw [hr] at HR
  rw [hr, if_pos rfl] at HRM
  rw [HE.out]
  clear hr HE
  obtain ⟨gp, gs, gr⟩ := g
  obtain ⟨kd, a, b, body⟩ := f
  obtain ⟨B, hB⟩ : ∃ B, B = bs body := ⟨_, rfl⟩
  unfold Geom.gV at HR ⊢
  unfold fV
  simp only at hs HK hl p0 p1 hk ⊢
  rw [← hB]
  have HG := Lib.hid ((Var.new w 23 [.int .i64 gp, .int .i64 gs, .int .i64 gr]).alloc (.cells #[.int .i64 kd, .int .u32 (vl a), .int .u32 (vl b), .string B] 31))
  have HF := Lib.hid (Var.new (w.alloc (.cells #[.int .i64 gp, .int .i64 gs, .int .i64 gr] 23)) 31 [.int .i64 kd, .int .u32 (vl a), .int .u32 (vl b), .string B])
  have hsz1 : (w.alloc (.cells #[.int .i64 gp, .int .i64 gs, .int .i64 gr] 23)).heap.size = w.heap.size + 1 := by simp
  rw [hsz1] at HF
  obtain ⟨w1, hw1⟩ : ∃ w1, w1 = (w.alloc (.cells #[.int .i64 gp, .int .i64 gs, .int .i64 gr] 23)).alloc (.cells #[.int .i64 kd, .int .u32 (vl a), .int .u32 (vl b), .string B] 31) := ⟨_, rfl⟩
  have HB1 := Lib.hid (show Below w.heap.size w w1 by rw [hw1]; exact bel2 (Geom.bel_alloc _ _) (Geom.bel_alloc _ _))
  have HG1 := Lib.hid (show Var w1 w.heap.size 23 [.int .i64 gp, .int .i64 gs, .int .i64 gr] by rw [hw1]; exact HG.out)
  have HF1 := Lib.hid (show Var w1 (w.heap.size + 1) 31 [.int .i64 kd, .int .u32 (vl a), .int .u32 (vl b), .string B] by rw [hw1]; exact HF.out)
  unfold Geom.gV Geom.roomG at HRM
  simp only at HRM
  obtain ⟨n, hn⟩ : ∃ n, n = body.length := ⟨_, rfl⟩
  rw [← hn] at hl hs
  have hBn : B.size = n := by rw [hB, bs_size, hn]
  have d3 : decide (gp - 15 < (n : Int)) = true := decide_eq_true (by omega)
  clear hB hn hk
  go_enter Tryz.func44, Tryz.ntmps44
  go_wp2_with (first | (go_at_call 57; (with_reducible refine (HR.out _).mono ?_); rintro e w3 ⟨rfl, hn3⟩; have hn4 : Below w1.heap.size w1 w3 := (by rw [hw1]; exact hn3); have k0 := (HF1.out.below hn4 HF1.out.lt).cell (j := 0) rfl; have HN4 := Lib.hid hn4; clear hn3 hn4) | (go_at_call 78; (with_reducible refine (HK.out _).mono ?_); rintro e w5 ⟨rfl, rfl⟩))
  have HG3 := Lib.hid (HG1.out.below HN4.out HG1.out.lt)
  have HF3 := Lib.hid (HF1.out.below HN4.out HF1.out.lt)
  have HB3 := Lib.hid (bel2 HB1.out HN4.out)
  obtain ⟨w4, hw4⟩ : ∃ w4, w4 = w3 := ⟨_, rfl⟩
  rw [← hw4] at HG3 HF3 HB3
  rw [← hw4]
  clear hw4 k0 HN4
  refine wp_region_is [17, 18, 19, 20, 21, 22, 16] (fun w' => Below w4.heap.size w4 w')
    [.pointer (some ⟨w.heap.size + 1, 3, none⟩), .string B, .int .i64 (n : Int), .agg #[.int .i64 gp, .int .i64 gs, .int .i64 gr], .int .i64 (gp - 15), .bool true, .bool true] (by kernel_rfl) (by kernel_rfl) rfl (by decide) (by simp) (Below.refl _ _).drew ?each ?done
  case each =>
    simp only [Each]
    repeat' (first | exact trivial | refine And.intro ?_ ?_)
    all_goals
      intro ys wx hBx hdeps
      simp only [Deps, Region.binds, List.getD_cons_zero, List.getD_cons_succ, forall_const, and_true] at hdeps
      have q3 := (HF3.out.below hBx HF3.out.lt).cell (j := 3) rfl
      have q0 := (HG3.out.below hBx HG3.out.lt).cell (j := 0) rfl
      have q1 := (HG3.out.below hBx HG3.out.lt).cell (j := 1) rfl
      have q2 := (HG3.out.below hBx HG3.out.lt).cell (j := 2) rfl
      simp only [hdeps, fill, List.foldl_cons, List.foldl_nil, Act.put, List.setIfInBounds_toArray, List.set_cons_succ, List.set_cons_zero]
      first
        | (go_wp2_with fail; exact ⟨_, rfl, rfl, hBx, Below.refl _ _⟩)
        | (go_wp2_with (go_at_call 79; (with_reducible refine (HRM.out _).mono ?_); rintro e w3 ⟨rfl, hm⟩); exact ⟨_, rfl, rfl, hBx.trans (hm.mono hBx.size), hm⟩)
  case done =>
    intro ys wx hBx hV
    have h16 : ys 16 = .bool true := hV 6 (by decide)
    have HBx := Lib.hid (bel2 HB3.out hBx)
    clear hBx hV
    simp only [h16, fill, List.drop_succ_cons, List.drop_zero, List.foldl_cons, List.foldl_nil, Act.put, List.setIfInBounds_toArray, List.set_cons_succ, List.set_cons_zero]
    go_wp2
    go_ret2
    exact ⟨rfl, HBx.out⟩
theorem hd_split {K n : Nat} {a b : W} {body : List UInt8} {z : Nat} : [u8 K] ++ CrcM.put a.toNat ++ CrcM.put b.toNat ++ [u8 (n % 256)] ++ [u8 (n / 256)] ++ body ++ List.replicate z (0 : UInt8) = u8 K :: (CrcM.put a.toNat ++ (CrcM.put b.toNat ++ [u8 (n % 256), u8 (n / 256)])) ++ body ++ List.replicate z 0 := by simp
theorem rep_snoc (l : List UInt8) (j : Nat) : l ++ List.replicate j (0 : UInt8) ++ [0] = l ++ List.replicate (j + 1) 0 := by rw [List.append_assoc, List.replicate_succ']
set_option maxRecDepth 100000 in
set_option maxHeartbeats 16000000 in
theorem bytes_ok (g : Geom.Gm) (f : Fr) (hs : f.body.length ≤ maxLen) (w : World) (hr : Geom.rightG g = true) (hk : ¬ (f.kind < 1 ∨ 4 < f.kind)) (hl : ¬ g.page.toNat - 15 < f.body.length) :
    Calls Tryz.prog 44 #[Geom.gV g, fV f] w fun e w' => e = .returned (.tuple #[.string (bs (bytesG g f).1), .int .i64 ((bytesG g f).2 : Int)]) ∧ Below w.heap.size w w' := by
  unfold maxLen at hs
  have HE := Lib.hid (bytesG_ok hr hk hl)
  have HR := Lib.hid (fun w => Geom.right_any g w)
  have HRM := Lib.hid (fun w => Geom.room_any g w)
  have HK := Lib.hid (fun w => isKind_any f.kind w)
  rw [show isKindB f.kind = true by unfold isKindB; rw [decide_eq_true (show 1 ≤ f.kind by omega), decide_eq_true (show f.kind ≤ 4 by omega)]; rfl] at HK
  have hsm := Geom.right_small.mp hr
  obtain ⟨p0, p1, -⟩ := hsm
  rw [hr] at HR
  rw [hr, if_pos rfl] at HRM
  rw [HE.out]
  obtain ⟨CO, hCO⟩ : ∃ CO, CO = core g.page.toNat f := ⟨_, rfl⟩
  have hcl : CO.length = g.page.toNat - 4 := by rw [hCO]; exact core_length ⟨by omega, by omega, by omega, by omega, by omega⟩
  have HPG := Lib.hid (show CO ++ CrcM.put (CrcM.sum CO).toNat = page g.page.toNat f by rw [hCO]; rfl)
  rw [← HPG.out]
  clear hr HE HPG
  obtain ⟨gp, gs, gr⟩ := g
  obtain ⟨kd, a, b, body⟩ := f
  obtain ⟨B, hB⟩ : ∃ B, B = bs body := ⟨_, rfl⟩
  unfold Geom.gV at HR ⊢
  unfold fV
  simp only at hs HK hl p0 p1 hk hCO hcl ⊢
  rw [← hB]
  have HG := Lib.hid ((Var.new w 23 [.int .i64 gp, .int .i64 gs, .int .i64 gr]).alloc (.cells #[.int .i64 kd, .int .u32 (vl a), .int .u32 (vl b), .string B] 31))
  have HF := Lib.hid (Var.new (w.alloc (.cells #[.int .i64 gp, .int .i64 gs, .int .i64 gr] 23)) 31 [.int .i64 kd, .int .u32 (vl a), .int .u32 (vl b), .string B])
  have hsz1 : (w.alloc (.cells #[.int .i64 gp, .int .i64 gs, .int .i64 gr] 23)).heap.size = w.heap.size + 1 := by simp
  rw [hsz1] at HF
  obtain ⟨w1, hw1⟩ : ∃ w1, w1 = (w.alloc (.cells #[.int .i64 gp, .int .i64 gs, .int .i64 gr] 23)).alloc (.cells #[.int .i64 kd, .int .u32 (vl a), .int .u32 (vl b), .string B] 31) := ⟨_, rfl⟩
  have HB1 := Lib.hid (show Below w.heap.size w w1 by rw [hw1]; exact bel2 (Geom.bel_alloc _ _) (Geom.bel_alloc _ _))
  have HG1 := Lib.hid (show Var w1 w.heap.size 23 [.int .i64 gp, .int .i64 gs, .int .i64 gr] by rw [hw1]; exact HG.out)
  have HF1 := Lib.hid (show Var w1 (w.heap.size + 1) 31 [.int .i64 kd, .int .u32 (vl a), .int .u32 (vl b), .string B] by rw [hw1]; exact HF.out)
  unfold Geom.gV Geom.roomG at HRM
  simp only at HRM
  obtain ⟨n, hn⟩ : ∃ n, n = body.length := ⟨_, rfl⟩
  rw [← hn] at hl hs
  have hBn : B.size = n := by rw [hB, bs_size, hn]
  have d3 : decide (gp - 15 < (n : Int)) = false := decide_eq_false (by omega)
  obtain ⟨K, rfl⟩ : ∃ K : Nat, kd = (K : Int) := ⟨kd.toNat, by omega⟩
  have hK : K < 256 := by omega
  have hn8 : n < 256 := by omega
  obtain ⟨pg, rfl⟩ : ∃ pg : Nat, gp = (pg : Int) := ⟨gp.toNat, by omega⟩
  rw [Int.toNat_natCast] at hl hcl hCO
  have HPA := Lib.hid (fun w => Crc.put_any a w)
  have HPB := Lib.hid (fun w => Crc.put_any b w)
  obtain ⟨z, hz⟩ : ∃ z, z = pg - 15 - n := ⟨_, rfl⟩
  have HBD := Lib.hid (show B.data.toList = body by rw [hB, list_bs])
  have HCO := Lib.hid (show [u8 K] ++ CrcM.put a.toNat ++ CrcM.put b.toNat ++ [u8 (n % 256)] ++ [u8 (n / 256)] ++ body ++ List.replicate z (0 : UInt8) = CO by
    rw [hCO, hd_split]
    unfold core head
    simp only [← hn, ← hz, Int.toNat_natCast])
  have hbl : body.length = n := hn.symm
  clear hB hn hk hCO
  go_enter Tryz.func44, Tryz.ntmps44
  go_wp2_with (first | (go_at_call 57; (with_reducible refine (HR.out _).mono ?_); rintro e w3 ⟨rfl, hn3⟩; have hn4 : Below w1.heap.size w1 w3 := (by rw [hw1]; exact hn3); have k0 := (HF1.out.below hn4 HF1.out.lt).cell (j := 0) rfl; have HN4 := Lib.hid hn4; clear hn3 hn4) | (go_at_call 78; (with_reducible refine (HK.out _).mono ?_); rintro e w5 ⟨rfl, rfl⟩))
  have HG3 := Lib.hid (HG1.out.below HN4.out HG1.out.lt)
  have HF3 := Lib.hid (HF1.out.below HN4.out HF1.out.lt)
  have HB3 := Lib.hid (bel2 HB1.out HN4.out)
  obtain ⟨w4, hw4⟩ : ∃ w4, w4 = w3 := ⟨_, rfl⟩
  rw [← hw4] at HG3 HF3 HB3
  rw [← hw4]
  clear hw4 k0 HN4
  refine wp_region_is [17, 18, 19, 20, 21, 22, 16] (fun w' => Below w4.heap.size w4 w')
    [.pointer (some ⟨w.heap.size + 1, 3, none⟩), .string B, .int .i64 (n : Int), .agg #[.int .i64 (pg : Int), .int .i64 gs, .int .i64 gr], .int .i64 ((pg : Int) - 15), .bool false, .bool false] (by kernel_rfl) (by kernel_rfl) rfl (by decide) (by simp) (Below.refl _ _).drew ?each ?done
  case each =>
    simp only [Each]
    repeat' (first | exact trivial | refine And.intro ?_ ?_)
    all_goals
      intro ys wx hBx hdeps
      simp only [Deps, Region.binds, List.getD_cons_zero, List.getD_cons_succ, forall_const, and_true] at hdeps
      have q3 := (HF3.out.below hBx HF3.out.lt).cell (j := 3) rfl
      have q0 := (HG3.out.below hBx HG3.out.lt).cell (j := 0) rfl
      have q1 := (HG3.out.below hBx HG3.out.lt).cell (j := 1) rfl
      have q2 := (HG3.out.below hBx HG3.out.lt).cell (j := 2) rfl
      simp only [hdeps, fill, List.foldl_cons, List.foldl_nil, Act.put, List.setIfInBounds_toArray, List.set_cons_succ, List.set_cons_zero]
      first
        | (go_wp2_with fail; exact ⟨_, rfl, rfl, hBx, Below.refl _ _⟩)
        | (go_wp2_with (go_at_call 79; (with_reducible refine (HRM.out _).mono ?_); rintro e w3 ⟨rfl, hm⟩); exact ⟨_, rfl, rfl, hBx.trans (hm.mono hBx.size), hm⟩)
  case done =>
    intro ys wx hBx hV
    have h16 : ys 16 = .bool false := hV 6 (by decide)
    have HBx := Lib.hid (bel2 HB3.out hBx)
    have HG4 := Lib.hid (HG3.out.below hBx HG3.out.lt)
    have HF4 := Lib.hid (HF3.out.below hBx HF3.out.lt)
    obtain ⟨v, hv⟩ : ∃ v, v = wx := ⟨_, rfl⟩
    rw [← hv] at HBx HG4 HF4
    clear hBx hV HB3 HG3 HF3 HB1 HG1 HF1
    simp only [h16, fill, List.drop_succ_cons, List.drop_zero, List.foldl_cons, List.foldl_nil, Act.put, List.setIfInBounds_toArray, List.set_cons_succ, List.set_cons_zero]
    rw [← hv]
    clear hv
    have HW0 := Lib.hid (Build.Wr.new v)
    have c0 := (HF4.out.below HW0.out.below HF4.out.lt).cell (j := 0) rfl
    go_wp2_with fail
    go_at_call 80
    (with_reducible refine (HW0.out.byte (u8 K) _ ?hci (by simp)).mono ?_)
    case hci => rw [u8_int hK]
    rintro e w6 ⟨rfl, hw6⟩
    have HW1 := Lib.hid hw6
    clear hw6 HW0 c0
    have c1 := (HF4.out.below HW1.out.below HF4.out.lt).cell (j := 1) rfl
    go_wp2_with fail
    go_at_call 67
    (with_reducible refine (HPA.out _).mono ?_)
    rintro e w7 ⟨rfl, hb7⟩
    have HW2 := Lib.hid (HW1.out.grow hb7)
    clear hb7 HW1 c1
    go_wp2_with fail
    go_at_call 81
    (with_reducible refine (HW2.out.text (putS a) (by simp [putS, CrcM.put, ByteArray.size])).mono ?_)
    rintro e w8 ⟨rfl, hw8⟩
    have HW3 := Lib.hid hw8
    clear hw8 HW2
    have c2 := (HF4.out.below HW3.out.below HF4.out.lt).cell (j := 2) rfl
    go_wp2_with fail
    go_at_call 67
    (with_reducible refine (HPB.out _).mono ?_)
    rintro e w7 ⟨rfl, hb7⟩
    have HW4 := Lib.hid (HW3.out.grow hb7)
    clear hb7 HW3 c2
    go_wp2_with fail
    go_at_call 81
    (with_reducible refine (HW4.out.text (putS b) (by simp [putS, CrcM.put, ByteArray.size])).mono ?_)
    rintro e w8 ⟨rfl, hw8⟩
    have HW5 := Lib.hid hw8
    clear hw8 HW4
    have c3 := (HF4.out.below HW5.out.below HF4.out.lt).cell (j := 3) rfl
    go_wp2_with fail
    go_at_call 80
    (with_reducible refine (HW5.out.byte (u8 (n % 256)) _ ?hci (by simp [putS, CrcM.put])).mono ?_)
    case hci => rw [u8_int (by omega)]; first | rfl | omega
    rintro e w9 ⟨rfl, hw9⟩
    have HW6 := Lib.hid hw9
    clear hw9 HW5 c3
    have c3 := (HF4.out.below HW6.out.below HF4.out.lt).cell (j := 3) rfl
    go_wp2_with fail
    go_at_call 80
    (with_reducible refine (HW6.out.byte (u8 (n / 256)) _ ?hci (by simp [putS, CrcM.put])).mono ?_)
    case hci => rw [u8_int (by omega)]; first | rfl | omega
    rintro e w9 ⟨rfl, hw9⟩
    have HW7 := Lib.hid hw9
    clear hw9 HW6 c3
    have c3 := (HF4.out.below HW7.out.below HF4.out.lt).cell (j := 3) rfl
    go_wp2_with fail
    go_at_call 81
    (with_reducible refine (HW7.out.text B (by simp [putS, CrcM.put]; omega)).mono ?_)
    rintro e w10 ⟨rfl, hw10⟩
    rw [HBD.out] at hw10
    have HW8 := Lib.hid hw10
    clear hw10 HW7 c3
    have hpre : ([] ++ [u8 K] ++ (putS a).data.toList ++ (putS b).data.toList ++ [u8 (n % 256)] ++ [u8 (n / 256)] ++ body : List UInt8) = [u8 K] ++ CrcM.put a.toNat ++ CrcM.put b.toNat ++ [u8 (n % 256)] ++ [u8 (n / 256)] ++ body := by simp [putS]
    rw [hpre] at HW8
    clear hpre
    obtain ⟨PR, hPR⟩ : ∃ PR, PR = [u8 K] ++ CrcM.put a.toNat ++ CrcM.put b.toNat ++ [u8 (n % 256)] ++ [u8 (n / 256)] ++ body := ⟨_, rfl⟩
    rw [← hPR] at HW8 HCO
    have hPRl : PR.length = 11 + n := by rw [hPR]; simp only [List.length_append, List.length_singleton, put_length, hbl]
    clear hPR
    go_wp2
    go_loopw [] (fun wr => ∃ j, j ≤ z ∧ Wr v (PR ++ List.replicate j 0) wr) (fun wr => pg - 4 - Build.bldLen v.heap.size wr)
    case atStart => exact ⟨0, Nat.zero_le _, by simpa using HW8.out⟩
    case round =>
      obtain ⟨j, hj, hwr⟩ := hrel
      have hln : (PR ++ List.replicate j (0 : UInt8)).length = 11 + n + j := by simp only [List.length_append, List.length_replicate, hPRl]
      obtain ⟨m, hm⟩ : ∃ m, m = 11 + n + j := ⟨_, rfl⟩
      rw [← hm] at hln
      have HWR := Lib.hid hwr
      clear hwr
      by_cases hlt : j < z
      · have d4 : decide ((m : Int) < (pg : Int) - 4) = true := decide_eq_true (by omega)
        have HM := Lib.hid (show m < pg - 4 by omega)
        have hm2 : m ≤ 200 := by omega
        have HME := Lib.hid hm
        clear hm hz
        go_wp2
        refine wp_region_is [49, 50, 51, 52, 53] (fun w' => Below wr.heap.size wr w')
          [.int .i64 (m : Int), .pointer (some ⟨w.heap.size, 0, none⟩), .int .i64 (pg : Int), .int .i64 ((pg : Int) - 4), .bool true] (by kernel_rfl) (by kernel_rfl) rfl (by decide) (by simp) (Below.refl _ _).drew ?each ?done
        case each =>
          simp only [Each]
          repeat' (first | exact trivial | refine And.intro ?_ ?_)
          all_goals
            intro ys wx hBx hdeps
            simp only [Deps, Region.binds, List.getD_cons_zero, List.getD_cons_succ, forall_const, and_true] at hdeps
            have q0 := (HG4.out.below (HWR.out.grow hBx).below HG4.out.lt).cell (j := 0) rfl
            have HLN := Lib.hid (HWR.out.grow hBx).len
            rw [hln] at HLN
            simp only [hdeps, fill, List.foldl_cons, List.foldl_nil, Act.put, List.setIfInBounds_toArray, List.set_cons_succ, List.set_cons_zero]
            first
              | (go_wp2_with fail; exact ⟨_, rfl, rfl, hBx, Below.refl _ _⟩)
              | (go_wp2_with (go_at_call 82; (with_reducible refine HLN.out.mono ?_); rintro e w3 ⟨rfl, rfl⟩); exact ⟨_, rfl, rfl, hBx, Below.refl _ _⟩)
        case done =>
          intro ys wx hBx hV
          have h53 : ys 53 = .bool true := hV 4 (by decide)
          simp only [h53, fill, List.drop_succ_cons, List.drop_zero, List.foldl_cons, List.foldl_nil, Act.put, List.setIfInBounds_toArray, List.set_cons_succ, List.set_cons_zero]
          have HWX := Lib.hid (HWR.out.grow hBx)
          have HML := Lib.hid HWR.out.bld.len
          clear hBx hV HWR
          have HJ := Lib.hid (rep_snoc PR j)
          go_wp2_with fail
          go_at_call 80
          (with_reducible refine (HWX.out.byte 0 0 rfl (by rw [hln]; omega)).mono ?_)
          rintro e w11 ⟨rfl, hw11⟩
          rw [HJ.out] at hw11
          have HW11 := Lib.hid hw11
          clear hw11 HJ
          go_wp2
          go_roundw
          case rel => exact ⟨j + 1, hlt, HW11.out⟩
          case measure =>
            rw [HW11.out.bld.len, HML.out, hln]
            simp only [List.length_append, List.length_replicate, hPRl]
            have h1 := HM.out
            have h2 := HME.out
            omega
      · obtain rfl : j = z := by omega
        have d4 : decide ((m : Int) < (pg : Int) - 4) = false := decide_eq_false (by omega)
        clear hm hz
        go_wp2
        refine wp_region_is [49, 50, 51, 52, 53] (fun w' => Below wr.heap.size wr w')
          [.int .i64 (m : Int), .pointer (some ⟨w.heap.size, 0, none⟩), .int .i64 (pg : Int), .int .i64 ((pg : Int) - 4), .bool false] (by kernel_rfl) (by kernel_rfl) rfl (by decide) (by simp) (Below.refl _ _).drew ?eachB ?doneB
        case eachB =>
          simp only [Each]
          repeat' (first | exact trivial | refine And.intro ?_ ?_)
          all_goals
            intro ys wx hBx hdeps
            simp only [Deps, Region.binds, List.getD_cons_zero, List.getD_cons_succ, forall_const, and_true] at hdeps
            have q0 := (HG4.out.below (HWR.out.grow hBx).below HG4.out.lt).cell (j := 0) rfl
            have HLN := Lib.hid (HWR.out.grow hBx).len
            rw [hln] at HLN
            simp only [hdeps, fill, List.foldl_cons, List.foldl_nil, Act.put, List.setIfInBounds_toArray, List.set_cons_succ, List.set_cons_zero]
            first
              | (go_wp2_with fail; exact ⟨_, rfl, rfl, hBx, Below.refl _ _⟩)
              | (go_wp2_with (go_at_call 82; (with_reducible refine HLN.out.mono ?_); rintro e w3 ⟨rfl, rfl⟩); exact ⟨_, rfl, rfl, hBx, Below.refl _ _⟩)
        case doneB =>
          intro ys wx hBx hV
          have h53 : ys 53 = .bool false := hV 4 (by decide)
          simp only [h53, fill, List.drop_succ_cons, List.drop_zero, List.foldl_cons, List.foldl_nil, Act.put, List.setIfInBounds_toArray, List.set_cons_succ, List.set_cons_zero]
          have HWX := Lib.hid (HWR.out.grow hBx)
          have HML := Lib.hid HWR.out.bld.len
          clear hBx hV HWR
          rw [HCO.out] at HWX
          clear HML
          go_wp2_with fail
          go_at_call 83
          (with_reducible refine HWX.out.str.mono ?_)
          rintro e w12 ⟨rfl, hw12⟩
          have HW12 := Lib.hid (hw12.grow ((Below.refl _ _).alloc (Nat.le_refl _) (.cells #[.string ⟨CO.toArray⟩] 9)))
          have hcl2 : CO.toArray.size ≤ maxLen := by unfold maxLen; simp; omega
          have HSU := Lib.hid (Crc.sum_one ⟨CO.toArray⟩ w12.heap.size 1 (w12.alloc (.cells #[.string ⟨CO.toArray⟩] 9)) hcl2 (by simp))
          rw [show (⟨CO.toArray⟩ : ByteArray).data.toList = CO from rfl] at HSU
          unfold sumOf at HSU
          have HPS := Lib.hid (fun w => Crc.put_any (CrcM.sum CO) w)
          clear hw12 HWX
          go_wp2_with fail
          go_at_call 68
          (with_reducible refine HSU.out.mono ?_)
          rintro e w13 ⟨rfl, rfl⟩
          go_wp2_with fail
          go_at_call 67
          (with_reducible refine (HPS.out _).mono ?_)
          rintro e w14 ⟨rfl, hb14⟩
          have HW14 := Lib.hid (HW12.out.grow hb14)
          clear hb14 HW12 HSU HPS
          go_wp2_with fail
          go_at_call 81
          (with_reducible refine (HW14.out.text (putS (CrcM.sum CO)) (by rw [hcl]; simp [putS, CrcM.put, ByteArray.size]; omega)).mono ?_)
          rintro e w15 ⟨rfl, hw15⟩
          have HW15 := Lib.hid hw15
          clear hw15 HW14
          go_wp2_with fail
          go_at_call 83
          (with_reducible refine HW15.out.str.mono ?_)
          rintro e w16 ⟨rfl, hw16⟩
          have HW16 := Lib.hid hw16
          clear hw16 HW15
          go_wp2
          go_ret2
          exact ⟨rfl, HBx.out.trans (HW16.out.below.mono HBx.out.size)⟩
theorem fBytes_any (g : Geom.Gm) (f : Fr) (hs : f.body.length ≤ maxLen) (w : World) :
    Calls Tryz.prog 44 #[Geom.gV g, fV f] w fun e w' => e = .returned (.tuple #[.string (bs (bytesG g f).1), .int .i64 ((bytesG g f).2 : Int)]) ∧ Below w.heap.size w w' := by
  rcases hr : Geom.rightG g with _ | _
  · exact bytes_wrong g f hs w hr
  · by_cases hk : f.kind < 1 ∨ 4 < f.kind
    · exact bytes_kind g f hs w hr hk
    · by_cases hl : g.page.toNat - 15 < f.body.length
      · exact bytes_long g f hs w hr hk hl
      · exact bytes_ok g f hs w hr hk hl
end Go.Proofs.YtcmjambbdfangaaGreat.Frame
/-
  What package frame's Read answers: its contracts.
-/
set_option linter.unusedVariables false
set_option linter.unusedSimpArgs false
namespace Go.Proofs.YtcmjambbdfangaaGreat.Frame
open Go.RowKit
open CrcM (W)
open Crc (le4 sumOf vl wd putS)
open Flash (bs bs_size bs_list list_bs)
open Tup Bytes
open Go.Proofs.YtcmjambbdfangaaGreat.Region (fill Then Deps Each wp_region_is wp_region_is_tail wp_region_each wp_region_tail)

theorem put_eq_le4 (l : List UInt8) (n : Nat) (h : l.length = n + 4) (x : W) : l.drop n = CrcM.put x.toNat ↔ le4 l n = vl x := by
  have hd : l.drop n = [l.getD n 0, l.getD (n + 1) 0, l.getD (n + 2) 0, l.getD (n + 3) 0] := by
    apply List.ext_getElem
    · rw [List.length_drop]; simp; omega
    · intro i h1 h2
      simp at h2
      rw [List.getElem_drop]
      match i, h2 with
      | 0, _ => simp [List.getD_eq_getElem?_getD, List.getElem?_eq_getElem (show n < l.length by omega)]
      | 1, _ => simp [List.getD_eq_getElem?_getD, List.getElem?_eq_getElem (show n + 1 < l.length by omega)]
      | 2, _ => simp [List.getD_eq_getElem?_getD, List.getElem?_eq_getElem (show n + 2 < l.length by omega)]
      | 3, _ => simp [List.getD_eq_getElem?_getD, List.getElem?_eq_getElem (show n + 3 < l.length by omega)]
  rw [hd]
  unfold le4 CrcM.put vl
  have b0 := (l.getD n 0).toNat_lt
  have b1 := (l.getD (n + 1) 0).toNat_lt
  have b2 := (l.getD (n + 2) 0).toNat_lt
  have b3 := (l.getD (n + 3) 0).toNat_lt
  generalize l.getD n 0 = c0 at *
  generalize l.getD (n + 1) 0 = c1 at *
  generalize l.getD (n + 2) 0 = c2 at *
  generalize l.getD (n + 3) 0 = c3 at *
  have hx := x.isLt
  have e (m : Nat) : (UInt8.ofNat m).toNat = m % 256 := by simp
  have key (c : UInt8) (m : Nat) : c = UInt8.ofNat m ↔ c.toNat = m % 256 := by
    constructor
    · intro hc; rw [hc, e]
    · intro hc; apply UInt8.toNat_inj.1; rw [e]; exact hc
  simp only [List.cons.injEq, and_true, key]
  omega
theorem txt_eq (a b : ByteArray) : (a.toList == b.toList) = decide (a = b) := by
  rw [ByteArray.toList_eq, ByteArray.toList_eq, Bool.eq_iff_iff]
  simp only [beq_iff_eq, decide_eq_true_eq]
  exact ⟨fun h => ByteArray.ext (Array.toList_inj.1 h), fun h => by rw [h]⟩
theorem bs_put (l : List UInt8) (x : W) : bs l = putS x ↔ l = CrcM.put x.toNat := by
  unfold bs putS
  constructor
  · intro h
    have := congrArg (fun b : ByteArray => b.data.toList) h
    simpa using this
  · intro h; rw [h]
set_option maxRecDepth 100000 in
set_option maxHeartbeats 8000000 in
theorem fread_len (b : ByteArray) (hs : b.size ≤ maxLen) (w : World) (ha : b.data.toList.length < 32 ∨ 128 < b.data.toList.length) :
    Calls Tryz.prog 32 #[.string b] w fun e w' => e = .returned (.tuple #[fV (readF b.data.toList).1, .int .i64 ((readF b.data.toList).2 : Int)]) ∧ Below w.heap.size w w' := by
  have hs0 := hs
  unfold maxLen at hs0
  have hll : b.data.toList.length = b.size := by simp
  have HE := Lib.hid (read_arg ha)
  rw [hll] at ha
  rw [HE.out]
  have hc : (decide ((b.size : Int) < 32) = true) ∨ (decide ((b.size : Int) < 32) = false ∧ decide (128 < (b.size : Int)) = true) := by
    by_cases h1 : b.size < 32
    · exact .inl (decide_eq_true (by omega))
    · exact .inr ⟨decide_eq_false (by omega), decide_eq_true (by omega)⟩
  clear ha hll HE
  have HV1 := Lib.hid (Var.new w 31 [.int .i64 0, .int .u32 0, .int .u32 0, .string ⟨#[]⟩])
  have vz := HV1.out
  rcases hc with d1 | ⟨d1, d2⟩
  all_goals
    go_enter Tryz.func32, Tryz.ntmps32
    go_wp2
    have k0 := vz.cell (j := 0) rfl
    have k1 := vz.cell (j := 1) rfl
    have k2 := vz.cell (j := 2) rfl
    have k3 := vz.cell (j := 3) rfl
    clear vz
    refine bodyPost_ret (v := .tuple #[fV zeroF, .int .i64 1]) (by rw [results_cell_tmp rfl]; simp [go_sem, k0, k1, k2, k3]; rfl) rfl ?_
    exact ⟨rfl, Geom.bel_alloc _ _⟩
set_option maxRecDepth 100000 in
set_option maxHeartbeats 8000000 in
theorem fread_blank (b : ByteArray) (hs : b.size ≤ maxLen) (w : World) (ha : ¬ (b.data.toList.length < 32 ∨ 128 < b.data.toList.length)) (hb : Flash.blank b.data.toList = true) :
    Calls Tryz.prog 32 #[.string b] w fun e w' => e = .returned (.tuple #[fV (readF b.data.toList).1, .int .i64 ((readF b.data.toList).2 : Int)]) ∧ Below w.heap.size w w' := by
  have hs0 := hs
  unfold maxLen at hs0
  have hll : b.data.toList.length = b.size := by simp
  have HE := Lib.hid (read_none ha hb)
  rw [HE.out]
  have d1 : decide ((b.size : Int) < 32) = false := decide_eq_false (by omega)
  have d2 : decide (128 < (b.size : Int)) = false := decide_eq_false (by omega)
  have HB := Lib.hid (fun w => fBlank_any b hs w)
  rw [hb] at HB
  clear HE ha hb hll
  have HV1 := Lib.hid (Var.new w 31 [.int .i64 0, .int .u32 0, .int .u32 0, .string ⟨#[]⟩])
  go_enter Tryz.func32, Tryz.ntmps32
  go_wp2_with fail
  go_at_call 66
  (with_reducible refine (HB.out _).mono ?_)
  rintro e w5 ⟨rfl, hb5⟩
  have HV5 := Lib.hid (HV1.out.below hb5 HV1.out.lt)
  have HB5 := Lib.hid (bel2 (Geom.bel_alloc w (.cells #[.int .i64 0, .int .u32 0, .int .u32 0, .string ⟨#[]⟩] 31)) hb5)
  clear hb5
  have z0 := HV5.out.cell (j := 0) rfl
  have z1 := HV5.out.cell (j := 1) rfl
  have z2 := HV5.out.cell (j := 2) rfl
  have z3 := HV5.out.cell (j := 3) rfl
  have f0 := HV5.out.frozen 0
  have f1 := HV5.out.frozen 1
  have f2 := HV5.out.frozen 2
  have f3 := HV5.out.frozen 3
  have vz := ((((HV5.out).set 0 (.int .i64 0)).set 1 (.int .u32 0)).set 2 (.int .u32 0)).set 3 (.string ⟨#[]⟩)
  go_wp2
  have k0 := vz.cell (j := 0) rfl
  have k1 := vz.cell (j := 1) rfl
  have k2 := vz.cell (j := 2) rfl
  have k3 := vz.cell (j := 3) rfl
  clear z0 z1 z2 z3 f0 f1 f2 f3 vz
  refine bodyPost_ret (v := .tuple #[fV zeroF, .int .i64 9]) (by rw [results_cell_tmp rfl]; simp [go_sem, k0, k1, k2, k3]; rfl) rfl ?_
  exact ⟨rfl, (((HB5.out.setCell (p := ⟨w.heap.size, 0, none⟩) (Nat.le_refl _) _).setCell (p := ⟨w.heap.size, 1, none⟩) (Nat.le_refl _) _).setCell (p := ⟨w.heap.size, 2, none⟩) (Nat.le_refl _) _).setCell (p := ⟨w.heap.size, 3, none⟩) (Nat.le_refl _) _⟩
set_option maxRecDepth 100000 in
set_option maxHeartbeats 8000000 in
theorem fread_sum (b : ByteArray) (hs : b.size ≤ maxLen) (w : World) (ha : ¬ (b.data.toList.length < 32 ∨ 128 < b.data.toList.length)) (hb : Flash.blank b.data.toList = false) (hsm : le4 b.data.toList (b.data.toList.length - 4) ≠ sumOf (b.data.toList.take (b.data.toList.length - 4))) :
    Calls Tryz.prog 32 #[.string b] w fun e w' => e = .returned (.tuple #[fV (readF b.data.toList).1, .int .i64 ((readF b.data.toList).2 : Int)]) ∧ Below w.heap.size w w' := by
  have hs0 := hs
  unfold maxLen at hs0
  have hll : b.data.toList.length = b.size := by simp
  have HE := Lib.hid (read_sum ha hb hsm)
  rw [HE.out]
  have d1 : decide ((b.size : Int) < 32) = false := decide_eq_false (by omega)
  have d2 : decide (128 < (b.size : Int)) = false := decide_eq_false (by omega)
  have HB := Lib.hid (fun w => fBlank_any b hs w)
  rw [hb] at HB
  obtain ⟨n, hn⟩ : ∃ n, n = b.size - 4 := ⟨_, rfl⟩
  have hnI : (b.size : Int) - 4 = (n : Int) := by omega
  have hn1 : n + 4 = b.size := by omega
  obtain ⟨l, hl⟩ : ∃ l, l = b.data.toList := ⟨_, rfl⟩
  rw [← hl] at ha hll hb hsm
  have hln : l.length - 4 = n := by omega
  rw [hln] at hsm
  have hca := Txt.cutS l n (n : Int) rfl (by omega)
  have hcd := Txt.dropS l n (n : Int) rfl (by omega)
  rw [hl, bs_list, ← hl] at hca hcd
  have hTl : (bs (l.take n)).size ≤ maxLen := by rw [bs_size, List.length_take]; unfold maxLen; omega
  have HSU := Lib.hid (fun (w : World) hc => Crc.sum_one (bs (l.take n)) w.heap.size 1 (w.alloc (.cells #[.string (bs (l.take n))] 9)) hTl hc)
  rw [list_bs] at HSU
  have HPU := Lib.hid (fun w => Crc.put_any (CrcM.sum (l.take n)) w)
  have hpe := put_eq_le4 l n (by omega) (CrcM.sum (l.take n))
  unfold sumOf at hsm HSU
  rw [ne_eq, ← hpe] at hsm
  obtain ⟨SB, hSB⟩ : ∃ SB, SB = CrcM.sum (l.take n) := ⟨_, rfl⟩
  rw [← hSB] at HSU HPU hsm
  obtain ⟨TA, hTA⟩ : ∃ TA, TA = bs (l.take n) := ⟨_, rfl⟩
  obtain ⟨TD, hTD⟩ : ∃ TD, TD = bs (l.drop n) := ⟨_, rfl⟩
  have q : (TD.toList == (putS SB).toList) = false := by rw [txt_eq]; apply decide_eq_false; rw [hTD, bs_put]; exact hsm
  rw [← hTA] at hca HSU
  rw [← hTD] at hcd
  clear ha hll hb hl hln hn hpe hSB hTA hTD hsm HE hTl
  have HV1 := Lib.hid (Var.new w 31 [.int .i64 0, .int .u32 0, .int .u32 0, .string ⟨#[]⟩])
  go_enter Tryz.func32, Tryz.ntmps32
  go_wp2_with fail
  go_at_call 66
  (with_reducible refine (HB.out _).mono ?_)
  rintro e w5 ⟨rfl, hb5⟩
  have HV5 := Lib.hid (HV1.out.below hb5 HV1.out.lt)
  have HB5 := Lib.hid (bel2 (Geom.bel_alloc w (.cells #[.int .i64 0, .int .u32 0, .int .u32 0, .string ⟨#[]⟩] 31)) hb5)
  clear hb5 HV1
  go_wp2
  refine wp_region_is [20, 21, 22, 23, 24, 25, 26, 27, 28, 29, 4, 5] (fun w' => Below w5.heap.size w5 w')
    [.string b, .string b, .int .i64 (b.size : Int), .int .i64 (n : Int), .string TA, .string b, .string b, .int .i64 (b.size : Int), .int .i64 (n : Int), .string TD, .string TA, .string TD] (by kernel_rfl) (by kernel_rfl) rfl (by decide) (by simp) (Below.refl _ _).drew ?each ?done
  case each =>
    simp only [Each]
    repeat' (first | exact trivial | refine And.intro ?_ ?_)
    all_goals
      intro ys wx hBx hdeps
      simp only [Deps, Region.binds, List.getD_cons_zero, List.getD_cons_succ, forall_const, and_true] at hdeps
      simp only [hdeps, fill, List.foldl_cons, List.foldl_nil, Act.put, List.setIfInBounds_toArray, List.set_cons_succ, List.set_cons_zero]
      go_wp2_with fail
      exact ⟨_, rfl, rfl, hBx, Below.refl _ _⟩
  case done =>
    intro ys wx hBx hV
    have h4 : ys 4 = .string TA := hV 10 (by decide)
    have h5 : ys 5 = .string TD := hV 11 (by decide)
    have HB6 := Lib.hid (bel2 HB5.out hBx)
    have HV6 := Lib.hid (HV5.out.below hBx HV5.out.lt)
    clear hBx hV HB5 HV5
    simp only [h4, h5, fill, List.drop_succ_cons, List.drop_zero, List.foldl_cons, List.foldl_nil, Act.put, List.setIfInBounds_toArray, List.set_cons_succ, List.set_cons_zero]
    go_wp2_with fail
    go_at_call 68
    (with_reducible refine (HSU.out _ (by simp)).mono ?_)
    rintro e w7 ⟨rfl, rfl⟩
    go_wp2_with fail
    go_at_call 67
    (with_reducible refine (HPU.out _).mono ?_)
    rintro e w8 ⟨rfl, hb8⟩
    have HB8 := Lib.hid (bel2 (bel2 HB6.out (Geom.bel_alloc _ _)) hb8)
    have HV8 := Lib.hid ((HV6.out.alloc (.cells #[.string TA] 9)).below hb8 (HV6.out.alloc (.cells #[.string TA] 9)).lt)
    clear hb8 HB6 HV6
    have z0 := HV8.out.cell (j := 0) rfl
    have z1 := HV8.out.cell (j := 1) rfl
    have z2 := HV8.out.cell (j := 2) rfl
    have z3 := HV8.out.cell (j := 3) rfl
    have f0 := HV8.out.frozen 0
    have f1 := HV8.out.frozen 1
    have f2 := HV8.out.frozen 2
    have f3 := HV8.out.frozen 3
    have vz := ((((HV8.out).set 0 (.int .i64 0)).set 1 (.int .u32 0)).set 2 (.int .u32 0)).set 3 (.string ⟨#[]⟩)
    go_wp2
    have k0 := vz.cell (j := 0) rfl
    have k1 := vz.cell (j := 1) rfl
    have k2 := vz.cell (j := 2) rfl
    have k3 := vz.cell (j := 3) rfl
    clear z0 z1 z2 z3 f0 f1 f2 f3 vz
    refine bodyPost_ret (v := .tuple #[fV zeroF, .int .i64 5]) (by rw [results_cell_tmp rfl]; simp [go_sem, k0, k1, k2, k3]; rfl) rfl ?_
    exact ⟨rfl, (((HB8.out.setCell (p := ⟨w.heap.size, 0, none⟩) (Nat.le_refl _) _).setCell (p := ⟨w.heap.size, 1, none⟩) (Nat.le_refl _) _).setCell (p := ⟨w.heap.size, 2, none⟩) (Nat.le_refl _) _).setCell (p := ⟨w.heap.size, 3, none⟩) (Nat.le_refl _) _⟩
set_option maxRecDepth 100000 in
set_option maxHeartbeats 8000000 in
theorem fread_rest (b : ByteArray) (hs : b.size ≤ maxLen) (w : World) (ha : ¬ (b.data.toList.length < 32 ∨ 128 < b.data.toList.length)) (hb : Flash.blank b.data.toList = false) (hsm : le4 b.data.toList (b.data.toList.length - 4) = sumOf (b.data.toList.take (b.data.toList.length - 4))) :
    Calls Tryz.prog 32 #[.string b] w fun e w' => e = .returned (.tuple #[fV (readF b.data.toList).1, .int .i64 ((readF b.data.toList).2 : Int)]) ∧ Below w.heap.size w w' := by
  have hs0 := hs
  unfold maxLen at hs0
  have hll : b.data.toList.length = b.size := by simp
  have HE := Lib.hid (read_parse ha hb hsm)
  rw [HE.out]
  have d1 : decide ((b.size : Int) < 32) = false := decide_eq_false (by omega)
  have d2 : decide (128 < (b.size : Int)) = false := decide_eq_false (by omega)
  have HB := Lib.hid (fun w => fBlank_any b hs w)
  rw [hb] at HB
  obtain ⟨n, hn⟩ : ∃ n, n = b.size - 4 := ⟨_, rfl⟩
  have hnI : (b.size : Int) - 4 = (n : Int) := by omega
  have hn1 : n + 4 = b.size := by omega
  obtain ⟨l, hl⟩ : ∃ l, l = b.data.toList := ⟨_, rfl⟩
  rw [← hl] at ha hll hb hsm
  have hln : l.length - 4 = n := by omega
  rw [hln] at hsm
  have hca := Txt.cutS l n (n : Int) rfl (by omega)
  have hcd := Txt.dropS l n (n : Int) rfl (by omega)
  rw [hl, bs_list, ← hl] at hca hcd
  have hTl : (bs (l.take n)).size ≤ maxLen := by rw [bs_size, List.length_take]; unfold maxLen; omega
  have HSU := Lib.hid (fun (w : World) hc => Crc.sum_one (bs (l.take n)) w.heap.size 1 (w.alloc (.cells #[.string (bs (l.take n))] 9)) hTl hc)
  rw [list_bs] at HSU
  have HPU := Lib.hid (fun w => Crc.put_any (CrcM.sum (l.take n)) w)
  have hpe := put_eq_le4 l n (by omega) (CrcM.sum (l.take n))
  unfold sumOf at hsm HSU
  rw [← hpe] at hsm
  rw [← hl, hln]
  generalize hPF : parseF (l.take n) = PF at *
  obtain ⟨F, cd⟩ := PF
  simp only
  obtain ⟨SB, hSB⟩ : ∃ SB, SB = CrcM.sum (l.take n) := ⟨_, rfl⟩
  rw [← hSB] at HSU HPU hsm
  obtain ⟨TA, hTA⟩ : ∃ TA, TA = bs (l.take n) := ⟨_, rfl⟩
  obtain ⟨TD, hTD⟩ : ∃ TD, TD = bs (l.drop n) := ⟨_, rfl⟩
  have q : (TD.toList == (putS SB).toList) = true := by rw [txt_eq]; apply decide_eq_true; rw [hTD, bs_put]; exact hsm
  have HPA := Lib.hid (fun w => parse_any (bs (l.take n)) (by rw [bs_size, List.length_take]; omega) (by rw [bs_size, List.length_take]; omega) w)
  rw [list_bs] at HPA
  rw [← hTA, hPF] at HPA
  simp only at HPA
  rw [← hTA] at hca HSU
  rw [← hTD] at hcd
  clear ha hll hb hl hln hn hpe hSB hTA hTD hsm HE hTl hPF
  have HV1 := Lib.hid (Var.new w 31 [.int .i64 0, .int .u32 0, .int .u32 0, .string ⟨#[]⟩])
  go_enter Tryz.func32, Tryz.ntmps32
  go_wp2_with fail
  go_at_call 66
  (with_reducible refine (HB.out _).mono ?_)
  rintro e w5 ⟨rfl, hb5⟩
  have HV5 := Lib.hid (HV1.out.below hb5 HV1.out.lt)
  have HB5 := Lib.hid (bel2 (Geom.bel_alloc w (.cells #[.int .i64 0, .int .u32 0, .int .u32 0, .string ⟨#[]⟩] 31)) hb5)
  clear hb5 HV1
  go_wp2
  refine wp_region_is [20, 21, 22, 23, 24, 25, 26, 27, 28, 29, 4, 5] (fun w' => Below w5.heap.size w5 w')
    [.string b, .string b, .int .i64 (b.size : Int), .int .i64 (n : Int), .string TA, .string b, .string b, .int .i64 (b.size : Int), .int .i64 (n : Int), .string TD, .string TA, .string TD] (by kernel_rfl) (by kernel_rfl) rfl (by decide) (by simp) (Below.refl _ _).drew ?each ?done
  case each =>
    simp only [Each]
    repeat' (first | exact trivial | refine And.intro ?_ ?_)
    all_goals
      intro ys wx hBx hdeps
      simp only [Deps, Region.binds, List.getD_cons_zero, List.getD_cons_succ, forall_const, and_true] at hdeps
      simp only [hdeps, fill, List.foldl_cons, List.foldl_nil, Act.put, List.setIfInBounds_toArray, List.set_cons_succ, List.set_cons_zero]
      go_wp2_with fail
      exact ⟨_, rfl, rfl, hBx, Below.refl _ _⟩
  case done =>
    intro ys wx hBx hV
    have h4 : ys 4 = .string TA := hV 10 (by decide)
    have h5 : ys 5 = .string TD := hV 11 (by decide)
    have HB6 := Lib.hid (bel2 HB5.out hBx)
    have HV6 := Lib.hid (HV5.out.below hBx HV5.out.lt)
    clear hBx hV HB5 HV5
    simp only [h4, h5, fill, List.drop_succ_cons, List.drop_zero, List.foldl_cons, List.foldl_nil, Act.put, List.setIfInBounds_toArray, List.set_cons_succ, List.set_cons_zero]
    go_wp2_with fail
    go_at_call 68
    (with_reducible refine (HSU.out _ (by simp)).mono ?_)
    rintro e w7 ⟨rfl, rfl⟩
    go_wp2_with fail
    go_at_call 67
    (with_reducible refine (HPU.out _).mono ?_)
    rintro e w8 ⟨rfl, hb8⟩
    have HB8 := Lib.hid (bel2 (bel2 HB6.out (Geom.bel_alloc _ _)) hb8)
    have HV8 := Lib.hid ((HV6.out.alloc (.cells #[.string TA] 9)).below hb8 (HV6.out.alloc (.cells #[.string TA] 9)).lt)
    clear hb8 HB6 HV6
    go_wp2_with fail
    go_at_call 69
    (with_reducible refine (HPA.out _).mono ?_)
    rintro e w9 ⟨rfl, hb9⟩
    have HB9 := Lib.hid (bel2 HB8.out hb9)
    have HV9 := Lib.hid (HV8.out.below hb9 HV8.out.lt)
    clear hb9 HB8 HV8
    unfold fV
    have z0 := HV9.out.cell (j := 0) rfl
    have z1 := HV9.out.cell (j := 1) rfl
    have z2 := HV9.out.cell (j := 2) rfl
    have z3 := HV9.out.cell (j := 3) rfl
    have f0 := HV9.out.frozen 0
    have f1 := HV9.out.frozen 1
    have f2 := HV9.out.frozen 2
    have f3 := HV9.out.frozen 3
    have vz := ((((HV9.out).set 0 (.int .i64 F.kind)).set 1 (.int .u32 (vl F.a))).set 2 (.int .u32 (vl F.b))).set 3 (.string (bs F.body))
    go_wp2
    have k0 := vz.cell (j := 0) rfl
    have k1 := vz.cell (j := 1) rfl
    have k2 := vz.cell (j := 2) rfl
    have k3 := vz.cell (j := 3) rfl
    clear z0 z1 z2 z3 f0 f1 f2 f3 vz
    refine bodyPost_ret (v := .tuple #[fV F, .int .i64 (cd : Int)]) (by rw [results_cell_tmp rfl]; simp [go_sem, k0, k1, k2, k3]; try rfl) rfl ?_
    exact ⟨rfl, (((HB9.out.setCell (p := ⟨w.heap.size, 0, none⟩) (Nat.le_refl _) _).setCell (p := ⟨w.heap.size, 1, none⟩) (Nat.le_refl _) _).setCell (p := ⟨w.heap.size, 2, none⟩) (Nat.le_refl _) _).setCell (p := ⟨w.heap.size, 3, none⟩) (Nat.le_refl _) _⟩
theorem fRead_any (b : ByteArray) (hs : b.size ≤ maxLen) (w : World) :
    Calls Tryz.prog 32 #[.string b] w fun e w' => e = .returned (.tuple #[fV (readF b.data.toList).1, .int .i64 ((readF b.data.toList).2 : Int)]) ∧ Below w.heap.size w w' := by
  by_cases ha : b.data.toList.length < 32 ∨ 128 < b.data.toList.length
  · exact fread_len b hs w ha
  rcases hb : Flash.blank b.data.toList with _ | _
  · by_cases hsm : le4 b.data.toList (b.data.toList.length - 4) = sumOf (b.data.toList.take (b.data.toList.length - 4))
    · exact fread_rest b hs w ha hb hsm
    · exact fread_sum b hs w ha hb hsm
  · exact fread_blank b hs w ha hb
end Go.Proofs.YtcmjambbdfangaaGreat.Frame
