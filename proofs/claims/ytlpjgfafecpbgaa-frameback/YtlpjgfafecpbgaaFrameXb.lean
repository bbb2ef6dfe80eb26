/-
  What package frame's Bytes answers.
-/
import Derived.Test.YtlpjgfafecpbgaaFrameXa
import Derived.Test.YtlpjgfafecpbgaaGeomX
import Derived.Test.YtlpjgfafecpbgaaBuildW
set_option linter.unusedVariables false
set_option linter.unusedSimpArgs false
namespace Go.Proofs.Ytlpjgfafecpbgaa.Frame
open Go.RowKit
open CrcM (W)
open Crc (le4 sumOf vl wd putS)
open Flash (bs bs_size bs_list list_bs)
open Tup Bytes
open Build (Bld TB TY Stays Wr)
open Go.Proofs.Ytlpjgfafecpbgaa.Region (fill Then Deps Each wp_region_is wp_region_is_tail wp_region_each wp_region_tail)

set_option maxRecDepth 100000 in
set_option maxHeartbeats 8000000 in
theorem bytes_wrong (g : Geom.Gm) (f : Fr) (hs : f.body.length ≤ maxLen) (w : World) (hr : Geom.rightG g = false) :
    Calls Try.prog 12 #[Geom.gV g, fV f] w fun e w' => e = .returned (.tuple #[.string (bs (bytesG g f).1), .int .i64 ((bytesG g f).2 : Int)]) ∧ Below w.heap.size w w' := by
  unfold maxLen at hs
  have HE := Lib.hid (bytesG_right (f := f) hr)
  have HR := Lib.hid (fun w => Geom.right_any g w)
  rw [hr] at HR
  rw [HE.out]
  clear hr HE
  obtain ⟨gp, gs, gr⟩ := g
  obtain ⟨kd, a, b, body⟩ := f
  obtain ⟨B, hB⟩ : ∃ B, B = bs body := ⟨_, rfl⟩
  unfold Geom.gV at HR ⊢
  unfold fV
  simp only at hs ⊢
  rw [← hB]
  have HG := Lib.hid ((Var.new w 23 [.int .i64 gp, .int .i64 gs, .int .i64 gr]).alloc (.cells #[.int .i64 kd, .int .u32 (vl a), .int .u32 (vl b), .string B] 26))
  have HF := Lib.hid (Var.new (w.alloc (.cells #[.int .i64 gp, .int .i64 gs, .int .i64 gr] 23)) 26 [.int .i64 kd, .int .u32 (vl a), .int .u32 (vl b), .string B])
  have hsz1 : (w.alloc (.cells #[.int .i64 gp, .int .i64 gs, .int .i64 gr] 23)).heap.size = w.heap.size + 1 := by simp
  rw [hsz1] at HF
  obtain ⟨w1, hw1⟩ : ∃ w1, w1 = (w.alloc (.cells #[.int .i64 gp, .int .i64 gs, .int .i64 gr] 23)).alloc (.cells #[.int .i64 kd, .int .u32 (vl a), .int .u32 (vl b), .string B] 26) := ⟨_, rfl⟩
  have HB1 := Lib.hid (show Below w.heap.size w w1 by rw [hw1]; exact bel2 (Geom.bel_alloc _ _) (Geom.bel_alloc _ _))
  have HG1 := Lib.hid (show Var w1 w.heap.size 23 [.int .i64 gp, .int .i64 gs, .int .i64 gr] by rw [hw1]; exact HG.out)
  have HF1 := Lib.hid (show Var w1 (w.heap.size + 1) 26 [.int .i64 kd, .int .u32 (vl a), .int .u32 (vl b), .string B] by rw [hw1]; exact HF.out)
  clear hB
  go_enter Try.func12, Try.ntmps12
  go_wp2_with (go_at_call 25; (with_reducible refine (HR.out _).mono ?_); rintro e w3 ⟨rfl, hn3⟩; have hn4 : Below w1.heap.size w1 w3 := (by rw [hw1]; exact hn3); have k0 := (HF1.out.below hn4 HF1.out.lt).cell (j := 0) rfl; have HN4 := Lib.hid hn4; clear hn3 hn4)
  go_ret2
  exact ⟨rfl, bel2 HB1.out HN4.out⟩
set_option maxRecDepth 100000 in
set_option maxHeartbeats 8000000 in
theorem bytes_kind (g : Geom.Gm) (f : Fr) (hs : f.body.length ≤ maxLen) (w : World) (hr : Geom.rightG g = true) (hk : f.kind < 1 ∨ 4 < f.kind) :
    Calls Try.prog 12 #[Geom.gV g, fV f] w fun e w' => e = .returned (.tuple #[.string (bs (bytesG g f).1), .int .i64 ((bytesG g f).2 : Int)]) ∧ Below w.heap.size w w' := by
  unfold maxLen at hs
  have HE := Lib.hid (bytesG_kind hr hk)
  have HR := Lib.hid (fun w => Geom.right_any g w)
  have HK := Lib.hid (fun w => isKind_any f.kind w)
  rw [show isKindB f.kind = false by
    unfold isKindB
    rcases hk with h | h
    · rw [decide_eq_false (show ¬ (1 ≤ f.kind) by omega)]; rfl
    · rw [decide_eq_false (show ¬ (f.kind ≤ 4) by omega), Bool.and_false]] at HK
  rw [hr] at HR
  rw [HE.out]
  clear hr HE hk
  obtain ⟨gp, gs, gr⟩ := g
  obtain ⟨kd, a, b, body⟩ := f
  obtain ⟨B, hB⟩ : ∃ B, B = bs body := ⟨_, rfl⟩
  unfold Geom.gV at HR ⊢
  unfold fV
  simp only at hs HK ⊢
  rw [← hB]
  have HG := Lib.hid ((Var.new w 23 [.int .i64 gp, .int .i64 gs, .int .i64 gr]).alloc (.cells #[.int .i64 kd, .int .u32 (vl a), .int .u32 (vl b), .string B] 26))
  have HF := Lib.hid (Var.new (w.alloc (.cells #[.int .i64 gp, .int .i64 gs, .int .i64 gr] 23)) 26 [.int .i64 kd, .int .u32 (vl a), .int .u32 (vl b), .string B])
  have hsz1 : (w.alloc (.cells #[.int .i64 gp, .int .i64 gs, .int .i64 gr] 23)).heap.size = w.heap.size + 1 := by simp
  rw [hsz1] at HF
  obtain ⟨w1, hw1⟩ : ∃ w1, w1 = (w.alloc (.cells #[.int .i64 gp, .int .i64 gs, .int .i64 gr] 23)).alloc (.cells #[.int .i64 kd, .int .u32 (vl a), .int .u32 (vl b), .string B] 26) := ⟨_, rfl⟩
  have HB1 := Lib.hid (show Below w.heap.size w w1 by rw [hw1]; exact bel2 (Geom.bel_alloc _ _) (Geom.bel_alloc _ _))
  have HG1 := Lib.hid (show Var w1 w.heap.size 23 [.int .i64 gp, .int .i64 gs, .int .i64 gr] by rw [hw1]; exact HG.out)
  have HF1 := Lib.hid (show Var w1 (w.heap.size + 1) 26 [.int .i64 kd, .int .u32 (vl a), .int .u32 (vl b), .string B] by rw [hw1]; exact HF.out)
  clear hB
  go_enter Try.func12, Try.ntmps12
  go_wp2_with (first | (go_at_call 25; (with_reducible refine (HR.out _).mono ?_); rintro e w3 ⟨rfl, hn3⟩; have hn4 : Below w1.heap.size w1 w3 := (by rw [hw1]; exact hn3); have k0 := (HF1.out.below hn4 HF1.out.lt).cell (j := 0) rfl; have HN4 := Lib.hid hn4; clear hn3 hn4) | (go_at_call 26; (with_reducible refine (HK.out _).mono ?_); rintro e w5 ⟨rfl, rfl⟩))
  go_ret2
  exact ⟨rfl, bel2 HB1.out HN4.out⟩
set_option maxRecDepth 100000 in
set_option maxHeartbeats 8000000 in
theorem bytes_long (g : Geom.Gm) (f : Fr) (hs : f.body.length ≤ maxLen) (w : World) (hr : Geom.rightG g = true) (hk : ¬ (f.kind < 1 ∨ 4 < f.kind)) (hl : g.page.toNat - 15 < f.body.length) :
    Calls Try.prog 12 #[Geom.gV g, fV f] w fun e w' => e = .returned (.tuple #[.string (bs (bytesG g f).1), .int .i64 ((bytesG g f).2 : Int)]) ∧ Below w.heap.size w w' := by
  unfold maxLen at hs
  have HE := Lib.hid (bytesG_long hr hk hl)
  have HR := Lib.hid (fun w => Geom.right_any g w)
  have HRM := Lib.hid (fun w => Geom.room_any g w)
  have HK := Lib.hid (fun w => isKind_any f.kind w)
  rw [show isKindB f.kind = true by unfold isKindB; rw [decide_eq_true (show 1 ≤ f.kind by omega), decide_eq_true (show f.kind ≤ 4 by omega)]; rfl] at HK
  have hsm := Geom.right_small.mp hr
  obtain ⟨p0, p1, -⟩ := hsm
  rw [hr] at HR
  rw [hr, if_pos rfl] at HRM
  rw [HE.out]
  clear hr HE
  obtain ⟨gp, gs, gr⟩ := g
  obtain ⟨kd, a, b, body⟩ := f
  obtain ⟨B, hB⟩ : ∃ B, B = bs body := ⟨_, rfl⟩
  unfold Geom.gV at HR ⊢
  unfold fV
  simp only at hs HK hl p0 p1 hk ⊢
  rw [← hB]
  have HG := Lib.hid ((Var.new w 23 [.int .i64 gp, .int .i64 gs, .int .i64 gr]).alloc (.cells #[.int .i64 kd, .int .u32 (vl a), .int .u32 (vl b), .string B] 26))
  have HF := Lib.hid (Var.new (w.alloc (.cells #[.int .i64 gp, .int .i64 gs, .int .i64 gr] 23)) 26 [.int .i64 kd, .int .u32 (vl a), .int .u32 (vl b), .string B])
  have hsz1 : (w.alloc (.cells #[.int .i64 gp, .int .i64 gs, .int .i64 gr] 23)).heap.size = w.heap.size + 1 := by simp
  rw [hsz1] at HF
  obtain ⟨w1, hw1⟩ : ∃ w1, w1 = (w.alloc (.cells #[.int .i64 gp, .int .i64 gs, .int .i64 gr] 23)).alloc (.cells #[.int .i64 kd, .int .u32 (vl a), .int .u32 (vl b), .string B] 26) := ⟨_, rfl⟩
  have HB1 := Lib.hid (show Below w.heap.size w w1 by rw [hw1]; exact bel2 (Geom.bel_alloc _ _) (Geom.bel_alloc _ _))
  have HG1 := Lib.hid (show Var w1 w.heap.size 23 [.int .i64 gp, .int .i64 gs, .int .i64 gr] by rw [hw1]; exact HG.out)
  have HF1 := Lib.hid (show Var w1 (w.heap.size + 1) 26 [.int .i64 kd, .int .u32 (vl a), .int .u32 (vl b), .string B] by rw [hw1]; exact HF.out)
  unfold Geom.gV Geom.roomG at HRM
  simp only at HRM
  obtain ⟨n, hn⟩ : ∃ n, n = body.length := ⟨_, rfl⟩
  rw [← hn] at hl hs
  have hBn : B.size = n := by rw [hB, bs_size, hn]
  have d3 : decide (gp - 15 < (n : Int)) = true := decide_eq_true (by omega)
  clear hB hn hk
  go_enter Try.func12, Try.ntmps12
  go_wp2_with (first | (go_at_call 25; (with_reducible refine (HR.out _).mono ?_); rintro e w3 ⟨rfl, hn3⟩; have hn4 : Below w1.heap.size w1 w3 := (by rw [hw1]; exact hn3); have k0 := (HF1.out.below hn4 HF1.out.lt).cell (j := 0) rfl; have HN4 := Lib.hid hn4; clear hn3 hn4) | (go_at_call 26; (with_reducible refine (HK.out _).mono ?_); rintro e w5 ⟨rfl, rfl⟩))
  have HG3 := Lib.hid (HG1.out.below HN4.out HG1.out.lt)
  have HF3 := Lib.hid (HF1.out.below HN4.out HF1.out.lt)
  have HB3 := Lib.hid (bel2 HB1.out HN4.out)
  obtain ⟨w4, hw4⟩ : ∃ w4, w4 = w3 := ⟨_, rfl⟩
  rw [← hw4] at HG3 HF3 HB3
  rw [← hw4]
  clear hw4 k0 HN4
  refine wp_region_is [17, 18, 19, 20, 21, 22, 16] (fun w' => Below w4.heap.size w4 w')
    [.pointer (some ⟨w.heap.size + 1, 3, none⟩), .string B, .int .i64 (n : Int), .agg #[.int .i64 gp, .int .i64 gs, .int .i64 gr], .int .i64 (gp - 15), .bool true, .bool true] (by kernel_rfl) (by kernel_rfl) rfl (by decide) (by simp) (Below.refl _ _).drew ?each ?done
  case each =>
    simp only [Each]
    repeat' (first | exact trivial | refine And.intro ?_ ?_)
    all_goals
      intro ys wx hBx hdeps
      simp only [Deps, Region.binds, List.getD_cons_zero, List.getD_cons_succ, forall_const, and_true] at hdeps
      have q3 := (HF3.out.below hBx HF3.out.lt).cell (j := 3) rfl
      have q0 := (HG3.out.below hBx HG3.out.lt).cell (j := 0) rfl
      have q1 := (HG3.out.below hBx HG3.out.lt).cell (j := 1) rfl
      have q2 := (HG3.out.below hBx HG3.out.lt).cell (j := 2) rfl
      simp only [hdeps, fill, List.foldl_cons, List.foldl_nil, Act.put, List.setIfInBounds_toArray, List.set_cons_succ, List.set_cons_zero]
      first
        | (go_wp2_with fail; exact ⟨_, rfl, rfl, hBx, Below.refl _ _⟩)
        | (go_wp2_with (go_at_call 27; (with_reducible refine (HRM.out _).mono ?_); rintro e w3 ⟨rfl, hm⟩); exact ⟨_, rfl, rfl, hBx.trans (hm.mono hBx.size), hm⟩)
  case done =>
    intro ys wx hBx hV
    have h16 : ys 16 = .bool true := hV 6 (by decide)
    have HBx := Lib.hid (bel2 HB3.out hBx)
    clear hBx hV
    simp only [h16, fill, List.drop_succ_cons, List.drop_zero, List.foldl_cons, List.foldl_nil, Act.put, List.setIfInBounds_toArray, List.set_cons_succ, List.set_cons_zero]
    go_wp2
    go_ret2
    exact ⟨rfl, HBx.out⟩
theorem hd_split {K n : Nat} {a b : W} {body : List UInt8} {z : Nat} : [u8 K] ++ CrcM.put a.toNat ++ CrcM.put b.toNat ++ [u8 (n % 256)] ++ [u8 (n / 256)] ++ body ++ List.replicate z (0 : UInt8) = u8 K :: (CrcM.put a.toNat ++ (CrcM.put b.toNat ++ [u8 (n % 256), u8 (n / 256)])) ++ body ++ List.replicate z 0 := by simp
theorem rep_snoc (l : List UInt8) (j : Nat) : l ++ List.replicate j (0 : UInt8) ++ [0] = l ++ List.replicate (j + 1) 0 := by rw [List.append_assoc, List.replicate_succ']
set_option maxRecDepth 100000 in
set_option maxHeartbeats 16000000 in
theorem bytes_ok (g : Geom.Gm) (f : Fr) (hs : f.body.length ≤ maxLen) (w : World) (hr : Geom.rightG g = true) (hk : ¬ (f.kind < 1 ∨ 4 < f.kind)) (hl : ¬ g.page.toNat - 15 < f.body.length) :
    Calls Try.prog 12 #[Geom.gV g, fV f] w fun e w' => e = .returned (.tuple #[.string (bs (bytesG g f).1), .int .i64 ((bytesG g f).2 : Int)]) ∧ Below w.heap.size w w' := by
  unfold maxLen at hs
  have HE := Lib.hid (bytesG_ok hr hk hl)
  have HR := Lib.hid (fun w => Geom.right_any g w)
  have HRM := Lib.hid (fun w => Geom.room_any g w)
  have HK := Lib.hid (fun w => isKind_any f.kind w)
  rw [show isKindB f.kind = true by unfold isKindB; rw [decide_eq_true (show 1 ≤ f.kind by omega), decide_eq_true (show f.kind ≤ 4 by omega)]; rfl] at HK
  have hsm := Geom.right_small.mp hr
  obtain ⟨p0, p1, -⟩ := hsm
  rw [hr] at HR
  rw [hr, if_pos rfl] at HRM
  rw [HE.out]
  obtain ⟨CO, hCO⟩ : ∃ CO, CO = core g.page.toNat f := ⟨_, rfl⟩
  have hcl : CO.length = g.page.toNat - 4 := by rw [hCO]; exact core_length ⟨by omega, by omega, by omega, by omega, by omega⟩
  have HPG := Lib.hid (show CO ++ CrcM.put (CrcM.sum CO).toNat = page g.page.toNat f by rw [hCO]; rfl)
  rw [← HPG.out]
  clear hr HE HPG
  obtain ⟨gp, gs, gr⟩ := g
  obtain ⟨kd, a, b, body⟩ := f
  obtain ⟨B, hB⟩ : ∃ B, B = bs body := ⟨_, rfl⟩
  unfold Geom.gV at HR ⊢
  unfold fV
  simp only at hs HK hl p0 p1 hk hCO hcl ⊢
  rw [← hB]
  have HG := Lib.hid ((Var.new w 23 [.int .i64 gp, .int .i64 gs, .int .i64 gr]).alloc (.cells #[.int .i64 kd, .int .u32 (vl a), .int .u32 (vl b), .string B] 26))
  have HF := Lib.hid (Var.new (w.alloc (.cells #[.int .i64 gp, .int .i64 gs, .int .i64 gr] 23)) 26 [.int .i64 kd, .int .u32 (vl a), .int .u32 (vl b), .string B])
  have hsz1 : (w.alloc (.cells #[.int .i64 gp, .int .i64 gs, .int .i64 gr] 23)).heap.size = w.heap.size + 1 := by simp
  rw [hsz1] at HF
  obtain ⟨w1, hw1⟩ : ∃ w1, w1 = (w.alloc (.cells #[.int .i64 gp, .int .i64 gs, .int .i64 gr] 23)).alloc (.cells #[.int .i64 kd, .int .u32 (vl a), .int .u32 (vl b), .string B] 26) := ⟨_, rfl⟩
  have HB1 := Lib.hid (show Below w.heap.size w w1 by rw [hw1]; exact bel2 (Geom.bel_alloc _ _) (Geom.bel_alloc _ _))
  have HG1 := Lib.hid (show Var w1 w.heap.size 23 [.int .i64 gp, .int .i64 gs, .int .i64 gr] by rw [hw1]; exact HG.out)
  have HF1 := Lib.hid (show Var w1 (w.heap.size + 1) 26 [.int .i64 kd, .int .u32 (vl a), .int .u32 (vl b), .string B] by rw [hw1]; exact HF.out)
  unfold Geom.gV Geom.roomG at HRM
  simp only at HRM
  obtain ⟨n, hn⟩ : ∃ n, n = body.length := ⟨_, rfl⟩
  rw [← hn] at hl hs
  have hBn : B.size = n := by rw [hB, bs_size, hn]
  have d3 : decide (gp - 15 < (n : Int)) = false := decide_eq_false (by omega)
  obtain ⟨K, rfl⟩ : ∃ K : Nat, kd = (K : Int) := ⟨kd.toNat, by omega⟩
  have hK : K < 256 := by omega
  have hn8 : n < 256 := by omega
  obtain ⟨pg, rfl⟩ : ∃ pg : Nat, gp = (pg : Int) := ⟨gp.toNat, by omega⟩
  rw [Int.toNat_natCast] at hl hcl hCO
  have HPA := Lib.hid (fun w => Crc.put_any a w)
  have HPB := Lib.hid (fun w => Crc.put_any b w)
  obtain ⟨z, hz⟩ : ∃ z, z = pg - 15 - n := ⟨_, rfl⟩
  have HBD := Lib.hid (show B.data.toList = body by rw [hB, list_bs])
  have HCO := Lib.hid (show [u8 K] ++ CrcM.put a.toNat ++ CrcM.put b.toNat ++ [u8 (n % 256)] ++ [u8 (n / 256)] ++ body ++ List.replicate z (0 : UInt8) = CO by
    rw [hCO, hd_split]
    unfold core head
    simp only [← hn, ← hz, Int.toNat_natCast])
  have hbl : body.length = n := hn.symm
  clear hB hn hk hCO
  go_enter Try.func12, Try.ntmps12
  go_wp2_with (first | (go_at_call 25; (with_reducible refine (HR.out _).mono ?_); rintro e w3 ⟨rfl, hn3⟩; have hn4 : Below w1.heap.size w1 w3 := (by rw [hw1]; exact hn3); have k0 := (HF1.out.below hn4 HF1.out.lt).cell (j := 0) rfl; have HN4 := Lib.hid hn4; clear hn3 hn4) | (go_at_call 26; (with_reducible refine (HK.out _).mono ?_); rintro e w5 ⟨rfl, rfl⟩))
  have HG3 := Lib.hid (HG1.out.below HN4.out HG1.out.lt)
  have HF3 := Lib.hid (HF1.out.below HN4.out HF1.out.lt)
  have HB3 := Lib.hid (bel2 HB1.out HN4.out)
  obtain ⟨w4, hw4⟩ : ∃ w4, w4 = w3 := ⟨_, rfl⟩
  rw [← hw4] at HG3 HF3 HB3
  rw [← hw4]
  clear hw4 k0 HN4
  refine wp_region_is [17, 18, 19, 20, 21, 22, 16] (fun w' => Below w4.heap.size w4 w')
    [.pointer (some ⟨w.heap.size + 1, 3, none⟩), .string B, .int .i64 (n : Int), .agg #[.int .i64 (pg : Int), .int .i64 gs, .int .i64 gr], .int .i64 ((pg : Int) - 15), .bool false, .bool false] (by kernel_rfl) (by kernel_rfl) rfl (by decide) (by simp) (Below.refl _ _).drew ?each ?done
  case each =>
    simp only [Each]
    repeat' (first | exact trivial | refine And.intro ?_ ?_)
    all_goals
      intro ys wx hBx hdeps
      simp only [Deps, Region.binds, List.getD_cons_zero, List.getD_cons_succ, forall_const, and_true] at hdeps
      have q3 := (HF3.out.below hBx HF3.out.lt).cell (j := 3) rfl
      have q0 := (HG3.out.below hBx HG3.out.lt).cell (j := 0) rfl
      have q1 := (HG3.out.below hBx HG3.out.lt).cell (j := 1) rfl
      have q2 := (HG3.out.below hBx HG3.out.lt).cell (j := 2) rfl
      simp only [hdeps, fill, List.foldl_cons, List.foldl_nil, Act.put, List.setIfInBounds_toArray, List.set_cons_succ, List.set_cons_zero]
      first
        | (go_wp2_with fail; exact ⟨_, rfl, rfl, hBx, Below.refl _ _⟩)
        | (go_wp2_with (go_at_call 27; (with_reducible refine (HRM.out _).mono ?_); rintro e w3 ⟨rfl, hm⟩); exact ⟨_, rfl, rfl, hBx.trans (hm.mono hBx.size), hm⟩)
  case done =>
    intro ys wx hBx hV
    have h16 : ys 16 = .bool false := hV 6 (by decide)
    have HBx := Lib.hid (bel2 HB3.out hBx)
    have HG4 := Lib.hid (HG3.out.below hBx HG3.out.lt)
    have HF4 := Lib.hid (HF3.out.below hBx HF3.out.lt)
    obtain ⟨v, hv⟩ : ∃ v, v = wx := ⟨_, rfl⟩
    rw [← hv] at HBx HG4 HF4
    clear hBx hV HB3 HG3 HF3 HB1 HG1 HF1
    simp only [h16, fill, List.drop_succ_cons, List.drop_zero, List.foldl_cons, List.foldl_nil, Act.put, List.setIfInBounds_toArray, List.set_cons_succ, List.set_cons_zero]
    rw [← hv]
    clear hv
    have HW0 := Lib.hid (Build.Wr.new v)
    have c0 := (HF4.out.below HW0.out.below HF4.out.lt).cell (j := 0) rfl
    go_wp2_with fail
    go_at_call 28
    (with_reducible refine (HW0.out.byte (u8 K) _ ?hci (by simp)).mono ?_)
    case hci => rw [u8_int hK]
    rintro e w6 ⟨rfl, hw6⟩
    have HW1 := Lib.hid hw6
    clear hw6 HW0 c0
    have c1 := (HF4.out.below HW1.out.below HF4.out.lt).cell (j := 1) rfl
    go_wp2_with fail
    go_at_call 30
    (with_reducible refine (HPA.out _).mono ?_)
    rintro e w7 ⟨rfl, hb7⟩
    have HW2 := Lib.hid (HW1.out.grow hb7)
    clear hb7 HW1 c1
    go_wp2_with fail
    go_at_call 29
    (with_reducible refine (HW2.out.text (putS a) (by simp [putS, CrcM.put, ByteArray.size])).mono ?_)
    rintro e w8 ⟨rfl, hw8⟩
    have HW3 := Lib.hid hw8
    clear hw8 HW2
    have c2 := (HF4.out.below HW3.out.below HF4.out.lt).cell (j := 2) rfl
    go_wp2_with fail
    go_at_call 30
    (with_reducible refine (HPB.out _).mono ?_)
    rintro e w7 ⟨rfl, hb7⟩
    have HW4 := Lib.hid (HW3.out.grow hb7)
    clear hb7 HW3 c2
    go_wp2_with fail
    go_at_call 29
    (with_reducible refine (HW4.out.text (putS b) (by simp [putS, CrcM.put, ByteArray.size])).mono ?_)
    rintro e w8 ⟨rfl, hw8⟩
    have HW5 := Lib.hid hw8
    clear hw8 HW4
    have c3 := (HF4.out.below HW5.out.below HF4.out.lt).cell (j := 3) rfl
    go_wp2_with fail
    go_at_call 28
    (with_reducible refine (HW5.out.byte (u8 (n % 256)) _ ?hci (by simp [putS, CrcM.put])).mono ?_)
    case hci => rw [u8_int (by omega)]; first | rfl | omega
    rintro e w9 ⟨rfl, hw9⟩
    have HW6 := Lib.hid hw9
    clear hw9 HW5 c3
    have c3 := (HF4.out.below HW6.out.below HF4.out.lt).cell (j := 3) rfl
    go_wp2_with fail
    go_at_call 28
    (with_reducible refine (HW6.out.byte (u8 (n / 256)) _ ?hci (by simp [putS, CrcM.put])).mono ?_)
    case hci => rw [u8_int (by omega)]; first | rfl | omega
    rintro e w9 ⟨rfl, hw9⟩
    have HW7 := Lib.hid hw9
    clear hw9 HW6 c3
    have c3 := (HF4.out.below HW7.out.below HF4.out.lt).cell (j := 3) rfl
    go_wp2_with fail
    go_at_call 29
    (with_reducible refine (HW7.out.text B (by simp [putS, CrcM.put]; omega)).mono ?_)
    rintro e w10 ⟨rfl, hw10⟩
    rw [HBD.out] at hw10
    have HW8 := Lib.hid hw10
    clear hw10 HW7 c3
    have hpre : ([] ++ [u8 K] ++ (putS a).data.toList ++ (putS b).data.toList ++ [u8 (n % 256)] ++ [u8 (n / 256)] ++ body : List UInt8) = [u8 K] ++ CrcM.put a.toNat ++ CrcM.put b.toNat ++ [u8 (n % 256)] ++ [u8 (n / 256)] ++ body := by simp [putS]
    rw [hpre] at HW8
    clear hpre
    obtain ⟨PR, hPR⟩ : ∃ PR, PR = [u8 K] ++ CrcM.put a.toNat ++ CrcM.put b.toNat ++ [u8 (n % 256)] ++ [u8 (n / 256)] ++ body := ⟨_, rfl⟩
    rw [← hPR] at HW8 HCO
    have hPRl : PR.length = 11 + n := by rw [hPR]; simp only [List.length_append, List.length_singleton, put_length, hbl]
    clear hPR
    go_wp2
    go_loopw [] (fun wr => ∃ j, j ≤ z ∧ Wr v (PR ++ List.replicate j 0) wr) (fun wr => pg - 4 - Build.bldLen v.heap.size wr)
    case atStart => exact ⟨0, Nat.zero_le _, by simpa using HW8.out⟩
    case round =>
      obtain ⟨j, hj, hwr⟩ := hrel
      have hln : (PR ++ List.replicate j (0 : UInt8)).length = 11 + n + j := by simp only [List.length_append, List.length_replicate, hPRl]
      obtain ⟨m, hm⟩ : ∃ m, m = 11 + n + j := ⟨_, rfl⟩
      rw [← hm] at hln
      have HWR := Lib.hid hwr
      clear hwr
      by_cases hlt : j < z
      · have d4 : decide ((m : Int) < (pg : Int) - 4) = true := decide_eq_true (by omega)
        have HM := Lib.hid (show m < pg - 4 by omega)
        have hm2 : m ≤ 200 := by omega
        have HME := Lib.hid hm
        clear hm hz
        go_wp2
        refine wp_region_is [49, 50, 51, 52, 53] (fun w' => Below wr.heap.size wr w')
          [.int .i64 (m : Int), .pointer (some ⟨w.heap.size, 0, none⟩), .int .i64 (pg : Int), .int .i64 ((pg : Int) - 4), .bool true] (by kernel_rfl) (by kernel_rfl) rfl (by decide) (by simp) (Below.refl _ _).drew ?each ?done
        case each =>
          simp only [Each]
          repeat' (first | exact trivial | refine And.intro ?_ ?_)
          all_goals
            intro ys wx hBx hdeps
            simp only [Deps, Region.binds, List.getD_cons_zero, List.getD_cons_succ, forall_const, and_true] at hdeps
            have q0 := (HG4.out.below (HWR.out.grow hBx).below HG4.out.lt).cell (j := 0) rfl
            have HLN := Lib.hid (HWR.out.grow hBx).len
            rw [hln] at HLN
            simp only [hdeps, fill, List.foldl_cons, List.foldl_nil, Act.put, List.setIfInBounds_toArray, List.set_cons_succ, List.set_cons_zero]
            first
              | (go_wp2_with fail; exact ⟨_, rfl, rfl, hBx, Below.refl _ _⟩)
              | (go_wp2_with (go_at_call 31; (with_reducible refine HLN.out.mono ?_); rintro e w3 ⟨rfl, rfl⟩); exact ⟨_, rfl, rfl, hBx, Below.refl _ _⟩)
        case done =>
          intro ys wx hBx hV
          have h53 : ys 53 = .bool true := hV 4 (by decide)
          simp only [h53, fill, List.drop_succ_cons, List.drop_zero, List.foldl_cons, List.foldl_nil, Act.put, List.setIfInBounds_toArray, List.set_cons_succ, List.set_cons_zero]
          have HWX := Lib.hid (HWR.out.grow hBx)
          have HML := Lib.hid HWR.out.bld.len
          clear hBx hV HWR
          have HJ := Lib.hid (rep_snoc PR j)
          go_wp2_with fail
          go_at_call 28
          (with_reducible refine (HWX.out.byte 0 0 rfl (by rw [hln]; omega)).mono ?_)
          rintro e w11 ⟨rfl, hw11⟩
          rw [HJ.out] at hw11
          have HW11 := Lib.hid hw11
          clear hw11 HJ
          go_wp2
          go_roundw
          case rel => exact ⟨j + 1, hlt, HW11.out⟩
          case measure =>
            rw [HW11.out.bld.len, HML.out, hln]
            simp only [List.length_append, List.length_replicate, hPRl]
            have h1 := HM.out
            have h2 := HME.out
            omega
      · obtain rfl : j = z := by omega
        have d4 : decide ((m : Int) < (pg : Int) - 4) = false := decide_eq_false (by omega)
        clear hm hz
        go_wp2
        refine wp_region_is [49, 50, 51, 52, 53] (fun w' => Below wr.heap.size wr w')
          [.int .i64 (m : Int), .pointer (some ⟨w.heap.size, 0, none⟩), .int .i64 (pg : Int), .int .i64 ((pg : Int) - 4), .bool false] (by kernel_rfl) (by kernel_rfl) rfl (by decide) (by simp) (Below.refl _ _).drew ?eachB ?doneB
        case eachB =>
          simp only [Each]
          repeat' (first | exact trivial | refine And.intro ?_ ?_)
          all_goals
            intro ys wx hBx hdeps
            simp only [Deps, Region.binds, List.getD_cons_zero, List.getD_cons_succ, forall_const, and_true] at hdeps
            have q0 := (HG4.out.below (HWR.out.grow hBx).below HG4.out.lt).cell (j := 0) rfl
            have HLN := Lib.hid (HWR.out.grow hBx).len
            rw [hln] at HLN
            simp only [hdeps, fill, List.foldl_cons, List.foldl_nil, Act.put, List.setIfInBounds_toArray, List.set_cons_succ, List.set_cons_zero]
            first
              | (go_wp2_with fail; exact ⟨_, rfl, rfl, hBx, Below.refl _ _⟩)
              | (go_wp2_with (go_at_call 31; (with_reducible refine HLN.out.mono ?_); rintro e w3 ⟨rfl, rfl⟩); exact ⟨_, rfl, rfl, hBx, Below.refl _ _⟩)
        case doneB =>
          intro ys wx hBx hV
          have h53 : ys 53 = .bool false := hV 4 (by decide)
          simp only [h53, fill, List.drop_succ_cons, List.drop_zero, List.foldl_cons, List.foldl_nil, Act.put, List.setIfInBounds_toArray, List.set_cons_succ, List.set_cons_zero]
          have HWX := Lib.hid (HWR.out.grow hBx)
          have HML := Lib.hid HWR.out.bld.len
          clear hBx hV HWR
          rw [HCO.out] at HWX
          clear HML
          go_wp2_with fail
          go_at_call 33
          (with_reducible refine HWX.out.str.mono ?_)
          rintro e w12 ⟨rfl, hw12⟩
          have HW12 := Lib.hid (hw12.grow ((Below.refl _ _).alloc (Nat.le_refl _) (.cells #[.string ⟨CO.toArray⟩] 9)))
          have hcl2 : CO.toArray.size ≤ maxLen := by unfold maxLen; simp; omega
          have HSU := Lib.hid (Crc.sum_one ⟨CO.toArray⟩ w12.heap.size 1 (w12.alloc (.cells #[.string ⟨CO.toArray⟩] 9)) hcl2 (by simp))
          rw [show (⟨CO.toArray⟩ : ByteArray).data.toList = CO from rfl] at HSU
          unfold sumOf at HSU
          have HPS := Lib.hid (fun w => Crc.put_any (CrcM.sum CO) w)
          clear hw12 HWX
          go_wp2_with fail
          go_at_call 32
          (with_reducible refine HSU.out.mono ?_)
          rintro e w13 ⟨rfl, rfl⟩
          go_wp2_with fail
          go_at_call 30
          (with_reducible refine (HPS.out _).mono ?_)
          rintro e w14 ⟨rfl, hb14⟩
          have HW14 := Lib.hid (HW12.out.grow hb14)
          clear hb14 HW12 HSU HPS
          go_wp2_with fail
          go_at_call 29
          (with_reducible refine (HW14.out.text (putS (CrcM.sum CO)) (by rw [hcl]; simp [putS, CrcM.put, ByteArray.size]; omega)).mono ?_)
          rintro e w15 ⟨rfl, hw15⟩
          have HW15 := Lib.hid hw15
          clear hw15 HW14
          go_wp2_with fail
          go_at_call 33
          (with_reducible refine HW15.out.str.mono ?_)
          rintro e w16 ⟨rfl, hw16⟩
          have HW16 := Lib.hid hw16
          clear hw16 HW15
          go_wp2
          go_ret2
          exact ⟨rfl, HBx.out.trans (HW16.out.below.mono HBx.out.size)⟩
theorem fBytes_any (g : Geom.Gm) (f : Fr) (hs : f.body.length ≤ maxLen) (w : World) :
    Calls Try.prog 12 #[Geom.gV g, fV f] w fun e w' => e = .returned (.tuple #[.string (bs (bytesG g f).1), .int .i64 ((bytesG g f).2 : Int)]) ∧ Below w.heap.size w w' := by
  rcases hr : Geom.rightG g with _ | _
  · exact bytes_wrong g f hs w hr
  · by_cases hk : f.kind < 1 ∨ 4 < f.kind
    · exact bytes_kind g f hs w hr hk
    · by_cases hl : g.page.toNat - 15 < f.body.length
      · exact bytes_long g f hs w hr hk hl
      · exact bytes_ok g f hs w hr hk hl
end Go.Proofs.Ytlpjgfafecpbgaa.Frame
