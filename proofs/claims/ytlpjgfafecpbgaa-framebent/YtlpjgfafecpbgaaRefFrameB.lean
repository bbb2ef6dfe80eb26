/-
  What the document's own FrameBytes, FrameRead answer.
-/
import Derived.Test.YtlpjgfafecpbgaaRefFrame
set_option linter.unusedVariables false
set_option linter.unusedSimpArgs false
namespace Go.Proofs.Ytlpjgfafecpbgaa.Frame
open Go.RowKit
open CrcM (W)
open Crc (le4 sumOf vl wd putS)
open Flash (bs bs_size bs_list list_bs)
open Tup Bytes
open Go.Proofs.Ytlpjgfafecpbgaa.Region (fill Then Deps Each wp_region_is wp_region_is_tail wp_region_each wp_region_tail)

def bytesG (g : Geom.Gm) (f : Fr) : List UInt8 × Nat := bytesF g.page.toNat (Geom.rightG g) f
theorem bytesG_right {g : Geom.Gm} {f : Fr} (h : Geom.rightG g = false) : bytesG g f = ([], 1) := by unfold bytesG bytesF; rw [h]; rfl
theorem bytesG_kind {g : Geom.Gm} {f : Fr} (h : Geom.rightG g = true) (hk : f.kind < 1 ∨ 4 < f.kind) : bytesG g f = ([], 2) := by unfold bytesG bytesF; rw [h, if_neg (by simp), if_pos hk]
theorem bytesG_long {g : Geom.Gm} {f : Fr} (h : Geom.rightG g = true) (hk : ¬ (f.kind < 1 ∨ 4 < f.kind)) (hl : g.page.toNat - 15 < f.body.length) : bytesG g f = ([], 4) := by unfold bytesG bytesF; rw [h, if_neg (by simp), if_neg hk, if_pos hl]
theorem bytesG_ok {g : Geom.Gm} {f : Fr} (h : Geom.rightG g = true) (hk : ¬ (f.kind < 1 ∨ 4 < f.kind)) (hl : ¬ g.page.toNat - 15 < f.body.length) : bytesG g f = (page g.page.toNat f, 0) := by unfold bytesG bytesF; rw [h, if_neg (by simp), if_neg hk, if_neg hl]
theorem ret_tc {s t : ByteArray} {a b : Nat} (h1 : s = t) (h2 : a = b) : Ending.returned (.tuple #[.string s, .int .i64 (a : Int)]) = .returned (.tuple #[.string t, .int .i64 (b : Int)]) := by rw [h1, h2]
set_option maxRecDepth 100000 in
set_option maxHeartbeats 8000000 in
theorem refBytes_any (g : Geom.Gm) (f : Fr) (hs : f.body.length ≤ maxLen) (w : World) :
    Calls Try.prog 13 #[Geom.gV g, fV f] w fun e w' => e = .returned (.tuple #[.string (bs (bytesG g f).1), .int .i64 ((bytesG g f).2 : Int)]) ∧ Below w.heap.size w w' := by
  unfold maxLen at hs
  rcases hr : Geom.rightG g with _ | _
  · have HE := Lib.hid (bytesG_right (f := f) hr)
    have HR := Lib.hid (fun w => Geom.refRight_any g w)
    obtain ⟨gp, gs, gr⟩ := g
    obtain ⟨kd, a, b, body⟩ := f
    obtain ⟨B, hB⟩ : ∃ B, B = bs body := ⟨_, rfl⟩
    unfold Geom.gV at HR ⊢
    unfold fV
    simp only at hs ⊢
    rw [← hB]
    have HG := Lib.hid ((Var.new w 23 [.int .i64 gp, .int .i64 gs, .int .i64 gr]).alloc (.cells #[.int .i64 kd, .int .u32 (vl a), .int .u32 (vl b), .string B] 26))
    have HF := Lib.hid (Var.new (w.alloc (.cells #[.int .i64 gp, .int .i64 gs, .int .i64 gr] 23)) 26 [.int .i64 kd, .int .u32 (vl a), .int .u32 (vl b), .string B])
    have hsz1 : (w.alloc (.cells #[.int .i64 gp, .int .i64 gs, .int .i64 gr] 23)).heap.size = w.heap.size + 1 := by simp
    rw [hsz1] at HF
    obtain ⟨w1, hw1⟩ : ∃ w1, w1 = (w.alloc (.cells #[.int .i64 gp, .int .i64 gs, .int .i64 gr] 23)).alloc (.cells #[.int .i64 kd, .int .u32 (vl a), .int .u32 (vl b), .string B] 26) := ⟨_, rfl⟩
    have HB1 := Lib.hid (show Below w.heap.size w w1 by rw [hw1]; exact bel2 (Geom.bel_alloc _ _) (Geom.bel_alloc _ _))
    have HG1 := Lib.hid (show Var w1 w.heap.size 23 [.int .i64 gp, .int .i64 gs, .int .i64 gr] by rw [hw1]; exact HG.out)
    have HF1 := Lib.hid (show Var w1 (w.heap.size + 1) 26 [.int .i64 kd, .int .u32 (vl a), .int .u32 (vl b), .string B] by rw [hw1]; exact HF.out)
    rw [hr] at HR
    clear hr
    go_enter Try.func13, Try.ntmps13
    go_wp2_with (go_at_call 34; (with_reducible refine (HR.out _).mono ?_); rintro e w3 ⟨rfl, hn3⟩)
    go_ret2
    rw [HE.out]
    exact ⟨rfl, bel2 (bel2 (bel2 (Geom.bel_alloc _ _) (Geom.bel_alloc _ _)) (Below.refl _ _)) hn3⟩
  by_cases hk : f.kind < 1 ∨ 4 < f.kind
  · have HE := Lib.hid (bytesG_kind hr hk)
    have hcase : (decide (f.kind < 1) = true) ∨ (decide (f.kind < 1) = false ∧ decide (4 < f.kind) = true) := by
      by_cases h1 : f.kind < 1
      · exact .inl (decide_eq_true h1)
      · exact .inr ⟨decide_eq_false h1, decide_eq_true (by omega)⟩
    have HR := Lib.hid (fun w => Geom.refRight_any g w)
    obtain ⟨gp, gs, gr⟩ := g
    obtain ⟨kd, a, b, body⟩ := f
    obtain ⟨B, hB⟩ : ∃ B, B = bs body := ⟨_, rfl⟩
    unfold Geom.gV at HR ⊢
    unfold fV
    simp only at hs ⊢
    rw [← hB]
    have HG := Lib.hid ((Var.new w 23 [.int .i64 gp, .int .i64 gs, .int .i64 gr]).alloc (.cells #[.int .i64 kd, .int .u32 (vl a), .int .u32 (vl b), .string B] 26))
    have HF := Lib.hid (Var.new (w.alloc (.cells #[.int .i64 gp, .int .i64 gs, .int .i64 gr] 23)) 26 [.int .i64 kd, .int .u32 (vl a), .int .u32 (vl b), .string B])
    have hsz1 : (w.alloc (.cells #[.int .i64 gp, .int .i64 gs, .int .i64 gr] 23)).heap.size = w.heap.size + 1 := by simp
    rw [hsz1] at HF
    obtain ⟨w1, hw1⟩ : ∃ w1, w1 = (w.alloc (.cells #[.int .i64 gp, .int .i64 gs, .int .i64 gr] 23)).alloc (.cells #[.int .i64 kd, .int .u32 (vl a), .int .u32 (vl b), .string B] 26) := ⟨_, rfl⟩
    have HB1 := Lib.hid (show Below w.heap.size w w1 by rw [hw1]; exact bel2 (Geom.bel_alloc _ _) (Geom.bel_alloc _ _))
    have HG1 := Lib.hid (show Var w1 w.heap.size 23 [.int .i64 gp, .int .i64 gs, .int .i64 gr] by rw [hw1]; exact HG.out)
    have HF1 := Lib.hid (show Var w1 (w.heap.size + 1) 26 [.int .i64 kd, .int .u32 (vl a), .int .u32 (vl b), .string B] by rw [hw1]; exact HF.out)
    rw [hr] at HR
    clear hr hk hB
    simp only at hcase
    rcases hcase with d1 | ⟨d1, d2⟩
    all_goals
      go_enter Try.func13, Try.ntmps13
      go_wp2_with (go_at_call 34; (with_reducible refine (HR.out _).mono ?_); rintro e w3 ⟨rfl, hn3⟩; have hn4 : Below w1.heap.size w1 w3 := (by rw [hw1]; exact hn3); have k0 := (HF1.out.below hn4 HF1.out.lt).cell (j := 0) rfl; have k3 := (HF1.out.below hn4 HF1.out.lt).cell (j := 3) rfl; have k1 := (HF1.out.below hn4 HF1.out.lt).cell (j := 1) rfl; have k2 := (HF1.out.below hn4 HF1.out.lt).cell (j := 2) rfl; have g0 := (HG1.out.below hn4 HG1.out.lt).cell (j := 0) rfl; have HN4 := Lib.hid hn4; clear hn3 hn4)
      go_ret2
      rw [HE.out]
      exact ⟨rfl, bel2 HB1.out HN4.out⟩
  have d1 : decide (f.kind < 1) = false := decide_eq_false (by omega)
  have d2 : decide (4 < f.kind) = false := decide_eq_false (by omega)
  have hsm := Geom.right_small.mp hr
  have HRM := Lib.hid (fun w => Geom.refRoom_any g hsm w)
  obtain ⟨p0, p1, -⟩ := hsm
  by_cases hl : g.page.toNat - 15 < f.body.length
  · have HE := Lib.hid (bytesG_long hr hk hl)
    have HR := Lib.hid (fun w => Geom.refRight_any g w)
    obtain ⟨gp, gs, gr⟩ := g
    obtain ⟨kd, a, b, body⟩ := f
    obtain ⟨B, hB⟩ : ∃ B, B = bs body := ⟨_, rfl⟩
    unfold Geom.gV at HR ⊢
    unfold fV
    simp only at hs ⊢
    rw [← hB]
    have HG := Lib.hid ((Var.new w 23 [.int .i64 gp, .int .i64 gs, .int .i64 gr]).alloc (.cells #[.int .i64 kd, .int .u32 (vl a), .int .u32 (vl b), .string B] 26))
    have HF := Lib.hid (Var.new (w.alloc (.cells #[.int .i64 gp, .int .i64 gs, .int .i64 gr] 23)) 26 [.int .i64 kd, .int .u32 (vl a), .int .u32 (vl b), .string B])
    have hsz1 : (w.alloc (.cells #[.int .i64 gp, .int .i64 gs, .int .i64 gr] 23)).heap.size = w.heap.size + 1 := by simp
    rw [hsz1] at HF
    obtain ⟨w1, hw1⟩ : ∃ w1, w1 = (w.alloc (.cells #[.int .i64 gp, .int .i64 gs, .int .i64 gr] 23)).alloc (.cells #[.int .i64 kd, .int .u32 (vl a), .int .u32 (vl b), .string B] 26) := ⟨_, rfl⟩
    have HB1 := Lib.hid (show Below w.heap.size w w1 by rw [hw1]; exact bel2 (Geom.bel_alloc _ _) (Geom.bel_alloc _ _))
    have HG1 := Lib.hid (show Var w1 w.heap.size 23 [.int .i64 gp, .int .i64 gs, .int .i64 gr] by rw [hw1]; exact HG.out)
    have HF1 := Lib.hid (show Var w1 (w.heap.size + 1) 26 [.int .i64 kd, .int .u32 (vl a), .int .u32 (vl b), .string B] by rw [hw1]; exact HF.out)
    simp only at hl p0 p1 d1 d2
    obtain ⟨n, hn⟩ : ∃ n, n = body.length := ⟨_, rfl⟩
    rw [← hn] at hl hs
    have hBn : B.size = n := by rw [hB, bs_size, hn]
    have d3 : decide (gp - 15 < (n : Int)) = true := decide_eq_true (by omega)
    unfold Geom.gV Geom.roomG at HRM
    rw [hr] at HR
    clear hr hk hB hn
    go_enter Try.func13, Try.ntmps13
    go_wp2_with (go_at_call 34; (with_reducible refine (HR.out _).mono ?_); rintro e w3 ⟨rfl, hn3⟩; have hn4 : Below w1.heap.size w1 w3 := (by rw [hw1]; exact hn3); have k0 := (HF1.out.below hn4 HF1.out.lt).cell (j := 0) rfl; have k3 := (HF1.out.below hn4 HF1.out.lt).cell (j := 3) rfl; have k1 := (HF1.out.below hn4 HF1.out.lt).cell (j := 1) rfl; have k2 := (HF1.out.below hn4 HF1.out.lt).cell (j := 2) rfl; have g0 := (HG1.out.below hn4 HG1.out.lt).cell (j := 0) rfl; have HN4 := Lib.hid hn4; clear hn3 hn4)
    have HG3 := Lib.hid (HG1.out.below HN4.out HG1.out.lt)
    have HF3 := Lib.hid (HF1.out.below HN4.out HF1.out.lt)
    refine wp_region_is [17, 18, 19, 20, 21, 22] (fun w' => Below w3.heap.size w3 w')
      [.pointer (some ⟨w.heap.size + 1, 3, none⟩), .string B, .int .i64 (n : Int), .agg #[.int .i64 gp, .int .i64 gs, .int .i64 gr], .int .i64 (gp - 15), .bool true] (by kernel_rfl) (by kernel_rfl) rfl (by decide) (by simp) (Below.refl _ _).drew ?each ?done
    case each =>
      simp only [Each]
      repeat' (first | exact trivial | refine And.intro ?_ ?_)
      all_goals
        intro ys wx hBx hdeps
        simp only [Deps, Region.binds, List.getD_cons_zero, List.getD_cons_succ, forall_const, and_true] at hdeps
        have q3 := (HF3.out.below hBx HF3.out.lt).cell (j := 3) rfl
        have q0 := (HG3.out.below hBx HG3.out.lt).cell (j := 0) rfl
        have q1 := (HG3.out.below hBx HG3.out.lt).cell (j := 1) rfl
        have q2 := (HG3.out.below hBx HG3.out.lt).cell (j := 2) rfl
        simp only [hdeps, fill, List.foldl_cons, List.foldl_nil, Act.put, List.setIfInBounds_toArray, List.set_cons_succ, List.set_cons_zero]
        first
          | (go_wp2_with fail; exact ⟨_, rfl, rfl, hBx, Below.refl _ _⟩)
          | (go_wp2_with (go_at_call 24; (with_reducible refine (HRM.out _).mono ?_); rintro e w3 ⟨rfl, hm⟩); exact ⟨_, rfl, rfl, hBx.trans (hm.mono hBx.size), hm⟩)
    case done =>
      intro ys wx hBx hV
      have h22 : ys 22 = .bool true := hV 5 (by decide)
      simp only [h22, fill, List.drop_succ_cons, List.drop_zero, List.foldl_cons, List.foldl_nil, Act.put, List.setIfInBounds_toArray, List.set_cons_succ, List.set_cons_zero]
      go_wp2
      go_ret2
      rw [HE.out]
      exact ⟨rfl, bel2 (bel2 HB1.out HN4.out) hBx⟩
  · have HE := Lib.hid (bytesG_ok hr hk hl)
    have hok : f.Ok g.page.toNat := ⟨by omega, by omega, by omega, by omega, by omega⟩
    have HPG := Lib.hid (fun w => refPage_any g.page.toNat f hok w)
    rw [show ((g.page.toNat : Nat) : Int) = g.page by omega] at HPG
    have HR := Lib.hid (fun w => Geom.refRight_any g w)
    obtain ⟨gp, gs, gr⟩ := g
    obtain ⟨kd, a, b, body⟩ := f
    obtain ⟨B, hB⟩ : ∃ B, B = bs body := ⟨_, rfl⟩
    unfold Geom.gV at HR ⊢
    unfold fV
    simp only at hs ⊢
    rw [← hB]
    have HG := Lib.hid ((Var.new w 23 [.int .i64 gp, .int .i64 gs, .int .i64 gr]).alloc (.cells #[.int .i64 kd, .int .u32 (vl a), .int .u32 (vl b), .string B] 26))
    have HF := Lib.hid (Var.new (w.alloc (.cells #[.int .i64 gp, .int .i64 gs, .int .i64 gr] 23)) 26 [.int .i64 kd, .int .u32 (vl a), .int .u32 (vl b), .string B])
    have hsz1 : (w.alloc (.cells #[.int .i64 gp, .int .i64 gs, .int .i64 gr] 23)).heap.size = w.heap.size + 1 := by simp
    rw [hsz1] at HF
    obtain ⟨w1, hw1⟩ : ∃ w1, w1 = (w.alloc (.cells #[.int .i64 gp, .int .i64 gs, .int .i64 gr] 23)).alloc (.cells #[.int .i64 kd, .int .u32 (vl a), .int .u32 (vl b), .string B] 26) := ⟨_, rfl⟩
    have HB1 := Lib.hid (show Below w.heap.size w w1 by rw [hw1]; exact bel2 (Geom.bel_alloc _ _) (Geom.bel_alloc _ _))
    have HG1 := Lib.hid (show Var w1 w.heap.size 23 [.int .i64 gp, .int .i64 gs, .int .i64 gr] by rw [hw1]; exact HG.out)
    have HF1 := Lib.hid (show Var w1 (w.heap.size + 1) 26 [.int .i64 kd, .int .u32 (vl a), .int .u32 (vl b), .string B] by rw [hw1]; exact HF.out)
    unfold fV at HPG
    simp only at hl p0 p1 d1 d2 HPG
    rw [← hB] at HPG
    obtain ⟨n, hn⟩ : ∃ n, n = body.length := ⟨_, rfl⟩
    rw [← hn] at hl hs
    have hBn : B.size = n := by rw [hB, bs_size, hn]
    have d3 : decide (gp - 15 < (n : Int)) = false := decide_eq_false (by omega)
    unfold Geom.gV Geom.roomG at HRM
    rw [hr] at HR
    clear hr hk hB hn hok
    generalize page gp.toNat ⟨kd, a, b, body⟩ = PGE at *
    go_enter Try.func13, Try.ntmps13
    go_wp2_with (go_at_call 34; (with_reducible refine (HR.out _).mono ?_); rintro e w3 ⟨rfl, hn3⟩; have hn4 : Below w1.heap.size w1 w3 := (by rw [hw1]; exact hn3); have k0 := (HF1.out.below hn4 HF1.out.lt).cell (j := 0) rfl; have k3 := (HF1.out.below hn4 HF1.out.lt).cell (j := 3) rfl; have k1 := (HF1.out.below hn4 HF1.out.lt).cell (j := 1) rfl; have k2 := (HF1.out.below hn4 HF1.out.lt).cell (j := 2) rfl; have g0 := (HG1.out.below hn4 HG1.out.lt).cell (j := 0) rfl; have HN4 := Lib.hid hn4; clear hn3 hn4)
    have HG3 := Lib.hid (HG1.out.below HN4.out HG1.out.lt)
    have HF3 := Lib.hid (HF1.out.below HN4.out HF1.out.lt)
    refine wp_region_is [17, 18, 19, 20, 21, 22] (fun w' => Below w3.heap.size w3 w')
      [.pointer (some ⟨w.heap.size + 1, 3, none⟩), .string B, .int .i64 (n : Int), .agg #[.int .i64 gp, .int .i64 gs, .int .i64 gr], .int .i64 (gp - 15), .bool false] (by kernel_rfl) (by kernel_rfl) rfl (by decide) (by simp) (Below.refl _ _).drew ?each ?done
    case each =>
      simp only [Each]
      repeat' (first | exact trivial | refine And.intro ?_ ?_)
      all_goals
        intro ys wx hBx hdeps
        simp only [Deps, Region.binds, List.getD_cons_zero, List.getD_cons_succ, forall_const, and_true] at hdeps
        have q3 := (HF3.out.below hBx HF3.out.lt).cell (j := 3) rfl
        have q0 := (HG3.out.below hBx HG3.out.lt).cell (j := 0) rfl
        have q1 := (HG3.out.below hBx HG3.out.lt).cell (j := 1) rfl
        have q2 := (HG3.out.below hBx HG3.out.lt).cell (j := 2) rfl
        simp only [hdeps, fill, List.foldl_cons, List.foldl_nil, Act.put, List.setIfInBounds_toArray, List.set_cons_succ, List.set_cons_zero]
        first
          | (go_wp2_with fail; exact ⟨_, rfl, rfl, hBx, Below.refl _ _⟩)
          | (go_wp2_with (go_at_call 24; (with_reducible refine (HRM.out _).mono ?_); rintro e w3 ⟨rfl, hm⟩); exact ⟨_, rfl, rfl, hBx.trans (hm.mono hBx.size), hm⟩)
    case done =>
      intro ys wx hBx hV
      have h22 : ys 22 = .bool false := hV 5 (by decide)
      have q0 := (HG3.out.below hBx HG3.out.lt).cell (j := 0) rfl
      have p0x := (HF3.out.below hBx HF3.out.lt).cell (j := 0) rfl
      have p1x := (HF3.out.below hBx HF3.out.lt).cell (j := 1) rfl
      have p2x := (HF3.out.below hBx HF3.out.lt).cell (j := 2) rfl
      have p3x := (HF3.out.below hBx HF3.out.lt).cell (j := 3) rfl
      have HBx := Lib.hid (bel2 (bel2 HB1.out HN4.out) hBx)
      clear hBx hV
      simp only [h22, fill, List.drop_succ_cons, List.drop_zero, List.foldl_cons, List.foldl_nil, Act.put, List.setIfInBounds_toArray, List.set_cons_succ, List.set_cons_zero]
      go_wp2_with (go_at_call 35; (with_reducible refine (HPG.out _).mono ?_); rintro e w5 ⟨rfl, hn5⟩)
      go_ret2
      rw [HE.out]
      exact ⟨rfl, bel2 HBx.out hn5⟩
end Go.Proofs.Ytlpjgfafecpbgaa.Frame
