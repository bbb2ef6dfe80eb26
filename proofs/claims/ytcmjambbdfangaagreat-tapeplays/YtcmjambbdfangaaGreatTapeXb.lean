/-
  The landed tape: Append.
-/
import Derived.Test.YtcmjambbdfangaaGreatTapeXa
set_option linter.unusedVariables false
set_option linter.unusedSimpArgs false
namespace Go.Proofs.YtcmjambbdfangaaGreat.Tape
open Go.RowKit
open Go.Proofs.YtcmjambbdfangaaGreat.Own
open CrcM (W)
open Crc (vl wd)
open Flash (Dev FHas RHas programD eraseD flushD bs list_bs)
open Chart (Ch CHas DHas openC takeC eraseC setC)
open Go.Proofs.YtcmjambbdfangaaGreat.Frame (Fr fV page bytesG)
open Tup Foot Bytes
open Go.Proofs.YtcmjambbdfangaaGreat.Region (fill Then Deps Each wp_region_is wp_region_is_tail)

set_option maxRecDepth 100000 in
set_option maxHeartbeats 8000000 in
theorem append_code {w : World} {t p q : Nat} {x : Tp} {S R : Nat → Prop} (h : TAt w t p q x S R) (hd : x.Ok) (f : Fr) (hs : f.body.length ≤ maxLen) (h1 : (bytesG x.geo f).2 ≠ 0) : Calls Tryz.prog 16 #[.pointer (some ⟨t, 0, none⟩), fV f] w fun e w' => e = .returned (.tuple #[.int .i64 ((appendT x f).1.1 : Int), .int .i64 ((appendT x f).1.2 : Int)]) ∧ ∃ S', TAt w' t p q (appendT x f).2 S' R ∧ After (both S R) w w' (both S' R) := by
  have HZ := Lib.hid (show appendT x f = ((0, (bytesG x.geo f).2), x) by unfold appendT; rw [if_pos h1])
  rw [HZ.out]
  have hfb := Go.Proofs.YtcmjambbdfangaaGreat.Frame.fBytes_any x.geo f hs
  have hfg := fun w S (h : FHas w p x.d S) => Flash.fGeom_any h hd.d
  unfold Geom.gV Tp.geo fV at hfb
  unfold Geom.gV at hfg
  have HL := Lib.hid (fun w R (h : CHas w q x.c R) => Chart.cLeft_any h hd.c)
  unfold Chart.ptr at HL
  have H := Lib.hid h
  obtain ⟨k1, hk1⟩ : ∃ k1, k1 = (bytesG x.geo f).2 := ⟨_, rfl⟩
  have q1 : ((k1 : Int) != 0) = true := by rw [hk1]; simpa using h1
  rw [show bytesG ⟨(x.d.pg : Int), (x.d.pgs : Int), (x.d.rgs : Int)⟩ f = bytesG x.geo f from rfl, ← hk1] at hfb
  rw [← hk1]
  generalize (bytesG x.geo f).1 = B0 at hfb
  obtain ⟨kd, fa, fb, bd⟩ := f
  obtain ⟨BD, hBD⟩ : ∃ BD, BD = bs bd := ⟨_, rfl⟩
  unfold fV
  simp only at hfb ⊢
  rw [← hBD] at hfb ⊢
  generalize vl fa = va at hfb ⊢
  generalize vl fb = vb at hfb ⊢
  obtain ⟨g0, hg0⟩ : ∃ g0, g0 = x.d.pg := ⟨_, rfl⟩
  obtain ⟨g1, hg1⟩ : ∃ g1, g1 = x.d.pgs := ⟨_, rfl⟩
  obtain ⟨g2, hg2⟩ : ∃ g2, g2 = x.d.rgs := ⟨_, rfl⟩
  rw [← hg0, ← hg1, ← hg2] at hfb hfg
  have HFB : Hid (∀ w, Calls Tryz.prog 44 #[.agg #[.int .i64 (g0 : Int), .int .i64 (g1 : Int), .int .i64 (g2 : Int)], .agg #[.int .i64 kd, .int .u32 va, .int .u32 vb, .string BD]] w fun e w' => e = .returned (.tuple #[.string (bs B0), .int .i64 (k1 : Int)]) ∧ Below w.heap.size w w') := hfb
  have HFG : Hid (∀ w S, FHas w p x.d S → Calls Tryz.prog 45 #[.pointer (some ⟨p, 0, none⟩)] w fun e w' => e = .returned (.agg #[.int .i64 (g0 : Int), .int .i64 (g1 : Int), .int .i64 (g2 : Int)]) ∧ Below w.heap.size w w') := hfg
  clear h HZ hfb hfg hs h1 hk1 hg0 hg1 hg2 hBD
  obtain ⟨w1, hw1⟩ : ∃ w1, w1 = w.alloc (.cells #[.int .i64 kd, .int .u32 va, .int .u32 vb, .string BD] 31) := ⟨_, rfl⟩
  have B1 := Lib.hid (show Below w.heap.size w w1 by rw [hw1]; exact Geom.bel_alloc _ _)
  have T1 := Lib.hid (H.out.below B1.out)
  have V1 := Lib.hid (show Var w1 w.heap.size 31 [.int .i64 kd, .int .u32 va, .int .u32 vb, .string BD] by rw [hw1]; exact Var.new _ _ _)
  go_enter Tryz.func16, Tryz.ntmps16
  go_wp2
  rw [← hw1]
  clear hw1
  refine wp_region_is [15, 16, 17, 18, 19, 20, 21, 14, 22, 23, 6, 7] (fun w' => Below w1.heap.size w1 w')
    [.pointer (some ⟨t, 0, none⟩), .pointer (some ⟨t, 0, none⟩), .pointer (some ⟨t, 0, none⟩), .pointer (some ⟨p, 0, none⟩), .agg #[.int .i64 (g0 : Int), .int .i64 (g1 : Int), .int .i64 (g2 : Int)], .agg #[.int .i64 kd, .int .u32 va, .int .u32 vb, .string BD], .tuple #[.string (bs B0), .int .i64 (k1 : Int)], .tuple #[.string (bs B0), .int .i64 (k1 : Int)], .string (bs B0), .int .i64 (k1 : Int), .string (bs B0), .int .i64 (k1 : Int)] (by kernel_rfl) (by kernel_rfl) rfl (by decide) (by simp) (Below.refl _ _).drew ?each ?done
  case each =>
    simp only [Each]
    repeat' (first | exact trivial | refine And.intro ?_ ?_)
    all_goals
      intro ys wx hBx hdeps
      simp only [Deps, Region.binds, List.getD_cons_zero, List.getD_cons_succ, forall_const, and_true] at hdeps
      have u0 := (T1.out.below hBx).var.cell (j := 0) rfl
      unfold ptr at u0
      have v0 := (V1.out.below hBx V1.out.lt).cell (j := 0) rfl
      have v1 := (V1.out.below hBx V1.out.lt).cell (j := 1) rfl
      have v2 := (V1.out.below hBx V1.out.lt).cell (j := 2) rfl
      have v3 := (V1.out.below hBx V1.out.lt).cell (j := 3) rfl
      simp only [hdeps, fill, List.foldl_cons, List.foldl_nil, Act.put, List.setIfInBounds_toArray, List.set_cons_succ, List.set_cons_zero]
      first
        | (go_wp2_with fail; exact ⟨_, rfl, rfl, hBx, Below.refl _ _⟩)
        | (go_wp2_with (go_at_call 45; (with_reducible refine (HFG.out _ _ (T1.out.below hBx).f).mono ?_); rintro e w3 ⟨rfl, hm⟩); exact ⟨_, rfl, rfl, hBx.trans (hm.mono hBx.size), hm⟩)
        | (go_wp2_with (go_at_call 44; (with_reducible refine (HFB.out _).mono ?_); rintro e w3 ⟨rfl, hm⟩); exact ⟨_, rfl, rfl, hBx.trans (hm.mono hBx.size), hm⟩)
  case done =>
    intro ys wx hBx hV
    have h6 : ys 6 = .string (bs B0) := hV 10 (by decide)
    have h7 : ys 7 = .int .i64 (k1 : Int) := hV 11 (by decide)
    have B2 := Lib.hid (B1.out.trans (hBx.mono B1.out.size))
    have T2 := Lib.hid (T1.out.below hBx)
    clear hBx hV V1 T1
    have a0 := T2.out.var.cell (j := 0) rfl
    have a1 := T2.out.var.cell (j := 1) rfl
    unfold ptr at a0 a1
    simp only [h6, h7, fill, List.drop_succ_cons, List.drop_zero, List.foldl_cons, List.foldl_nil, Act.put, List.setIfInBounds_toArray, List.set_cons_succ, List.set_cons_zero]
    go_wp2
    go_ret2
    exact ⟨rfl, S, T2.out, Grows.of_below B2.out, fun k hk => .inl hk⟩
set_option maxRecDepth 100000 in
set_option maxHeartbeats 8000000 in
theorem append_wok {w : World} {t p q : Nat} {x : Tp} {S R : Nat → Prop} (h : TAt w t p q x S R) (hd : x.Ok) (f : Fr) (hs : f.body.length ≤ maxLen) (h1 : (bytesG x.geo f).2 = 0) (h2 : x.c.left ≠ 0) (h3 : (programD x.d (takeC x.c).1.1 (bytesG x.geo f).1).1 = 0) : Calls Tryz.prog 16 #[.pointer (some ⟨t, 0, none⟩), fV f] w fun e w' => e = .returned (.tuple #[.int .i64 ((appendT x f).1.1 : Int), .int .i64 ((appendT x f).1.2 : Int)]) ∧ ∃ S', TAt w' t p q (appendT x f).2 S' R ∧ After (both S R) w w' (both S' R) := by
  have HZ := Lib.hid (show appendT x f = (((takeC x.c).1.1, 0), ⟨(programD x.d (takeC x.c).1.1 (bytesG x.geo f).1).2, (takeC x.c).2⟩) by unfold appendT; rw [if_neg (by rw [h1]; simp), if_neg h2]; unfold writeT; rw [if_neg (by rw [h3]; simp)])
  rw [HZ.out]
  have hfb := Go.Proofs.YtcmjambbdfangaaGreat.Frame.fBytes_any x.geo f hs
  have hfg := fun w S (h : FHas w p x.d S) => Flash.fGeom_any h hd.d
  unfold Geom.gV Tp.geo fV at hfb
  unfold Geom.gV at hfg
  have HL := Lib.hid (fun w R (h : CHas w q x.c R) => Chart.cLeft_any h hd.c)
  unfold Chart.ptr at HL
  have H := Lib.hid h
  rw [show bytesG ⟨(x.d.pg : Int), (x.d.pgs : Int), (x.d.rgs : Int)⟩ f = bytesG x.geo f from rfl, h1] at hfb
  have q2 : ((x.c.left : Int) == 0) = false := by simpa using h2
  obtain ⟨y, hyx⟩ : ∃ y, y = x := ⟨_, rfl⟩
  have hy := hd
  rw [← hyx] at hy
  rw [show (programD x.d (takeC x.c).1.1 (bytesG x.geo f).1) = programD y.d (takeC y.c).1.1 (bytesG x.geo f).1 by rw [hyx]] at h3 ⊢
  rw [show takeC x.c = takeC y.c by rw [hyx]]
  have HT := Lib.hid (fun w R (h : CHas w q y.c R) => Chart.cTake_any h hy.c)
  unfold Chart.ptr at HT
  have hpr := fun w S (h : FHas w p y.d S) => Flash.fProgram_any h hy.d ((takeC y.c).1.1 : Int) (bs (bytesG x.geo f).1)
  simp only [list_bs] at hpr
  generalize (bytesG x.geo f).1 = B0 at hfb hpr h3 ⊢
  rw [h3] at hpr
  generalize (programD y.d (takeC y.c).1.1 B0).2 = d2 at hpr ⊢
  obtain ⟨N, hN⟩ : ∃ N, N = (takeC y.c).1.1 := ⟨_, rfl⟩
  obtain ⟨c2, hc2⟩ : ∃ c2, c2 = (takeC y.c).2 := ⟨_, rfl⟩
  rw [← hN] at HT hpr ⊢
  rw [← hc2] at HT ⊢
  generalize (takeC y.c).1.2 = tb at HT
  have HPR := Lib.hid hpr
  obtain ⟨kd, fa, fb, bd⟩ := f
  obtain ⟨BD, hBD⟩ : ∃ BD, BD = bs bd := ⟨_, rfl⟩
  unfold fV
  simp only at hfb ⊢
  rw [← hBD] at hfb ⊢
  generalize vl fa = va at hfb ⊢
  generalize vl fb = vb at hfb ⊢
  obtain ⟨g0, hg0⟩ : ∃ g0, g0 = x.d.pg := ⟨_, rfl⟩
  obtain ⟨g1, hg1⟩ : ∃ g1, g1 = x.d.pgs := ⟨_, rfl⟩
  obtain ⟨g2, hg2⟩ : ∃ g2, g2 = x.d.rgs := ⟨_, rfl⟩
  rw [← hg0, ← hg1, ← hg2] at hfb hfg
  have HFB : Hid (∀ w, Calls Tryz.prog 44 #[.agg #[.int .i64 (g0 : Int), .int .i64 (g1 : Int), .int .i64 (g2 : Int)], .agg #[.int .i64 kd, .int .u32 va, .int .u32 vb, .string BD]] w fun e w' => e = .returned (.tuple #[.string (bs B0), .int .i64 0]) ∧ Below w.heap.size w w') := hfb
  have HFG : Hid (∀ w S, FHas w p x.d S → Calls Tryz.prog 45 #[.pointer (some ⟨p, 0, none⟩)] w fun e w' => e = .returned (.agg #[.int .i64 (g0 : Int), .int .i64 (g1 : Int), .int .i64 (g2 : Int)]) ∧ Below w.heap.size w w') := hfg
  clear h HZ hfb hfg hs h1 h2 h3 hpr hN hc2 hg0 hg1 hg2 hBD
  subst hyx
  obtain ⟨w1, hw1⟩ : ∃ w1, w1 = w.alloc (.cells #[.int .i64 kd, .int .u32 va, .int .u32 vb, .string BD] 31) := ⟨_, rfl⟩
  have B1 := Lib.hid (show Below w.heap.size w w1 by rw [hw1]; exact Geom.bel_alloc _ _)
  have T1 := Lib.hid (H.out.below B1.out)
  have V1 := Lib.hid (show Var w1 w.heap.size 31 [.int .i64 kd, .int .u32 va, .int .u32 vb, .string BD] by rw [hw1]; exact Var.new _ _ _)
  go_enter Tryz.func16, Tryz.ntmps16
  go_wp2
  rw [← hw1]
  clear hw1
  refine wp_region_is [15, 16, 17, 18, 19, 20, 21, 14, 22, 23, 6, 7] (fun w' => Below w1.heap.size w1 w')
    [.pointer (some ⟨t, 0, none⟩), .pointer (some ⟨t, 0, none⟩), .pointer (some ⟨t, 0, none⟩), .pointer (some ⟨p, 0, none⟩), .agg #[.int .i64 (g0 : Int), .int .i64 (g1 : Int), .int .i64 (g2 : Int)], .agg #[.int .i64 kd, .int .u32 va, .int .u32 vb, .string BD], .tuple #[.string (bs B0), .int .i64 0], .tuple #[.string (bs B0), .int .i64 0], .string (bs B0), .int .i64 0, .string (bs B0), .int .i64 0] (by kernel_rfl) (by kernel_rfl) rfl (by decide) (by simp) (Below.refl _ _).drew ?each ?done
  case each =>
    simp only [Each]
    repeat' (first | exact trivial | refine And.intro ?_ ?_)
    all_goals
      intro ys wx hBx hdeps
      simp only [Deps, Region.binds, List.getD_cons_zero, List.getD_cons_succ, forall_const, and_true] at hdeps
      have u0 := (T1.out.below hBx).var.cell (j := 0) rfl
      unfold ptr at u0
      have v0 := (V1.out.below hBx V1.out.lt).cell (j := 0) rfl
      have v1 := (V1.out.below hBx V1.out.lt).cell (j := 1) rfl
      have v2 := (V1.out.below hBx V1.out.lt).cell (j := 2) rfl
      have v3 := (V1.out.below hBx V1.out.lt).cell (j := 3) rfl
      simp only [hdeps, fill, List.foldl_cons, List.foldl_nil, Act.put, List.setIfInBounds_toArray, List.set_cons_succ, List.set_cons_zero]
      first
        | (go_wp2_with fail; exact ⟨_, rfl, rfl, hBx, Below.refl _ _⟩)
        | (go_wp2_with (go_at_call 45; (with_reducible refine (HFG.out _ _ (T1.out.below hBx).f).mono ?_); rintro e w3 ⟨rfl, hm⟩); exact ⟨_, rfl, rfl, hBx.trans (hm.mono hBx.size), hm⟩)
        | (go_wp2_with (go_at_call 44; (with_reducible refine (HFB.out _).mono ?_); rintro e w3 ⟨rfl, hm⟩); exact ⟨_, rfl, rfl, hBx.trans (hm.mono hBx.size), hm⟩)
  case done =>
    intro ys wx hBx hV
    have h6 : ys 6 = .string (bs B0) := hV 10 (by decide)
    have h7 : ys 7 = .int .i64 0 := hV 11 (by decide)
    have B2 := Lib.hid (B1.out.trans (hBx.mono B1.out.size))
    have T2 := Lib.hid (T1.out.below hBx)
    clear hBx hV V1 T1
    have a0 := T2.out.var.cell (j := 0) rfl
    have a1 := T2.out.var.cell (j := 1) rfl
    unfold ptr at a0 a1
    simp only [h6, h7, fill, List.drop_succ_cons, List.drop_zero, List.foldl_cons, List.foldl_nil, Act.put, List.setIfInBounds_toArray, List.set_cons_succ, List.set_cons_zero]
    go_wp2_with (first
      | (go_at_call 22; (with_reducible refine (HL.out _ _ T2.out.c).mono ?_); rintro e w3 ⟨rfl, b3⟩; have T3 := Lib.hid (T2.out.below b3); have A3 := Lib.hid (show After (both S R) w w3 (both S R) from ⟨Grows.of_below (B2.out.trans (b3.mono B2.out.size)), fun k hk => .inl hk⟩); clear b3 a0 a1; have a0 := T3.out.var.cell (j := 0) rfl; have a1 := T3.out.var.cell (j := 1) rfl; unfold ptr at a0 a1)
      | (go_at_call 47; (with_reducible refine (HT.out _ _ T3.out.c).mono ?_); rintro e w5 ⟨rfl, c5, g5⟩; have TA5 := Lib.hid (T3.out.right c5 g5); have A5 := Lib.hid (A3.out.trans TA5.out.2); clear c5 g5 a0 a1; have a0 := TA5.out.1.var.cell (j := 0) rfl; have a1 := TA5.out.1.var.cell (j := 1) rfl; unfold ptr at a0 a1)
      | (go_at_call 48; (with_reducible refine (HPR.out _ _ TA5.out.1.f).mono ?_); rintro e w6 ⟨rfl, S6, f6, g6⟩; have TA6 := Lib.hid (TA5.out.1.left f6 g6); have A6 := Lib.hid (A5.out.trans TA6.out.2); clear f6 g6 a0 a1))
    go_ret2
    exact ⟨rfl, S6, TA6.out.1, A6.out⟩
set_option maxRecDepth 100000 in
set_option maxHeartbeats 8000000 in
theorem append_wno {w : World} {t p q : Nat} {x : Tp} {S R : Nat → Prop} (h : TAt w t p q x S R) (hd : x.Ok) (f : Fr) (hs : f.body.length ≤ maxLen) (h1 : (bytesG x.geo f).2 = 0) (h2 : x.c.left ≠ 0) (h3 : (programD x.d (takeC x.c).1.1 (bytesG x.geo f).1).1 ≠ 0) : Calls Tryz.prog 16 #[.pointer (some ⟨t, 0, none⟩), fV f] w fun e w' => e = .returned (.tuple #[.int .i64 ((appendT x f).1.1 : Int), .int .i64 ((appendT x f).1.2 : Int)]) ∧ ∃ S', TAt w' t p q (appendT x f).2 S' R ∧ After (both S R) w w' (both S' R) := by
  have HZ := Lib.hid (show appendT x f = ((0, (programD x.d (takeC x.c).1.1 (bytesG x.geo f).1).1), ⟨(programD x.d (takeC x.c).1.1 (bytesG x.geo f).1).2, (takeC x.c).2⟩) by unfold appendT; rw [if_neg (by rw [h1]; simp), if_neg h2]; unfold writeT; rw [if_pos h3])
  rw [HZ.out]
  have hfb := Go.Proofs.YtcmjambbdfangaaGreat.Frame.fBytes_any x.geo f hs
  have hfg := fun w S (h : FHas w p x.d S) => Flash.fGeom_any h hd.d
  unfold Geom.gV Tp.geo fV at hfb
  unfold Geom.gV at hfg
  have HL := Lib.hid (fun w R (h : CHas w q x.c R) => Chart.cLeft_any h hd.c)
  unfold Chart.ptr at HL
  have H := Lib.hid h
  rw [show bytesG ⟨(x.d.pg : Int), (x.d.pgs : Int), (x.d.rgs : Int)⟩ f = bytesG x.geo f from rfl, h1] at hfb
  have q2 : ((x.c.left : Int) == 0) = false := by simpa using h2
  obtain ⟨y, hyx⟩ : ∃ y, y = x := ⟨_, rfl⟩
  have hy := hd
  rw [← hyx] at hy
  rw [show (programD x.d (takeC x.c).1.1 (bytesG x.geo f).1) = programD y.d (takeC y.c).1.1 (bytesG x.geo f).1 by rw [hyx]] at h3 ⊢
  rw [show takeC x.c = takeC y.c by rw [hyx]]
  have HT := Lib.hid (fun w R (h : CHas w q y.c R) => Chart.cTake_any h hy.c)
  unfold Chart.ptr at HT
  have hpr := fun w S (h : FHas w p y.d S) => Flash.fProgram_any h hy.d ((takeC y.c).1.1 : Int) (bs (bytesG x.geo f).1)
  simp only [list_bs] at hpr
  generalize (bytesG x.geo f).1 = B0 at hfb hpr h3 ⊢
  obtain ⟨k3, hk3⟩ : ∃ k3, k3 = (programD y.d (takeC y.c).1.1 B0).1 := ⟨_, rfl⟩
  have q3 : ((k3 : Int) != 0) = true := by rw [hk3]; simpa using h3
  rw [← hk3] at hpr ⊢
  generalize (programD y.d (takeC y.c).1.1 B0).2 = d2 at hpr ⊢
  obtain ⟨N, hN⟩ : ∃ N, N = (takeC y.c).1.1 := ⟨_, rfl⟩
  obtain ⟨c2, hc2⟩ : ∃ c2, c2 = (takeC y.c).2 := ⟨_, rfl⟩
  rw [← hN] at HT hpr
  rw [← hc2] at HT ⊢
  generalize (takeC y.c).1.2 = tb at HT
  have HPR := Lib.hid hpr
  obtain ⟨kd, fa, fb, bd⟩ := f
  obtain ⟨BD, hBD⟩ : ∃ BD, BD = bs bd := ⟨_, rfl⟩
  unfold fV
  simp only at hfb ⊢
  rw [← hBD] at hfb ⊢
  generalize vl fa = va at hfb ⊢
  generalize vl fb = vb at hfb ⊢
  obtain ⟨g0, hg0⟩ : ∃ g0, g0 = x.d.pg := ⟨_, rfl⟩
  obtain ⟨g1, hg1⟩ : ∃ g1, g1 = x.d.pgs := ⟨_, rfl⟩
  obtain ⟨g2, hg2⟩ : ∃ g2, g2 = x.d.rgs := ⟨_, rfl⟩
  rw [← hg0, ← hg1, ← hg2] at hfb hfg
  have HFB : Hid (∀ w, Calls Tryz.prog 44 #[.agg #[.int .i64 (g0 : Int), .int .i64 (g1 : Int), .int .i64 (g2 : Int)], .agg #[.int .i64 kd, .int .u32 va, .int .u32 vb, .string BD]] w fun e w' => e = .returned (.tuple #[.string (bs B0), .int .i64 0]) ∧ Below w.heap.size w w') := hfb
  have HFG : Hid (∀ w S, FHas w p x.d S → Calls Tryz.prog 45 #[.pointer (some ⟨p, 0, none⟩)] w fun e w' => e = .returned (.agg #[.int .i64 (g0 : Int), .int .i64 (g1 : Int), .int .i64 (g2 : Int)]) ∧ Below w.heap.size w w') := hfg
  clear h HZ hfb hfg hs h1 h2 h3 hpr hN hc2 hk3 hg0 hg1 hg2 hBD
  subst hyx
  obtain ⟨w1, hw1⟩ : ∃ w1, w1 = w.alloc (.cells #[.int .i64 kd, .int .u32 va, .int .u32 vb, .string BD] 31) := ⟨_, rfl⟩
  have B1 := Lib.hid (show Below w.heap.size w w1 by rw [hw1]; exact Geom.bel_alloc _ _)
  have T1 := Lib.hid (H.out.below B1.out)
  have V1 := Lib.hid (show Var w1 w.heap.size 31 [.int .i64 kd, .int .u32 va, .int .u32 vb, .string BD] by rw [hw1]; exact Var.new _ _ _)
  go_enter Tryz.func16, Tryz.ntmps16
  go_wp2
  rw [← hw1]
  clear hw1
  refine wp_region_is [15, 16, 17, 18, 19, 20, 21, 14, 22, 23, 6, 7] (fun w' => Below w1.heap.size w1 w')
    [.pointer (some ⟨t, 0, none⟩), .pointer (some ⟨t, 0, none⟩), .pointer (some ⟨t, 0, none⟩), .pointer (some ⟨p, 0, none⟩), .agg #[.int .i64 (g0 : Int), .int .i64 (g1 : Int), .int .i64 (g2 : Int)], .agg #[.int .i64 kd, .int .u32 va, .int .u32 vb, .string BD], .tuple #[.string (bs B0), .int .i64 0], .tuple #[.string (bs B0), .int .i64 0], .string (bs B0), .int .i64 0, .string (bs B0), .int .i64 0] (by kernel_rfl) (by kernel_rfl) rfl (by decide) (by simp) (Below.refl _ _).drew ?each ?done
  case each =>
    simp only [Each]
    repeat' (first | exact trivial | refine And.intro ?_ ?_)
    all_goals
      intro ys wx hBx hdeps
      simp only [Deps, Region.binds, List.getD_cons_zero, List.getD_cons_succ, forall_const, and_true] at hdeps
      have u0 := (T1.out.below hBx).var.cell (j := 0) rfl
      unfold ptr at u0
      have v0 := (V1.out.below hBx V1.out.lt).cell (j := 0) rfl
      have v1 := (V1.out.below hBx V1.out.lt).cell (j := 1) rfl
      have v2 := (V1.out.below hBx V1.out.lt).cell (j := 2) rfl
      have v3 := (V1.out.below hBx V1.out.lt).cell (j := 3) rfl
      simp only [hdeps, fill, List.foldl_cons, List.foldl_nil, Act.put, List.setIfInBounds_toArray, List.set_cons_succ, List.set_cons_zero]
      first
        | (go_wp2_with fail; exact ⟨_, rfl, rfl, hBx, Below.refl _ _⟩)
        | (go_wp2_with (go_at_call 45; (with_reducible refine (HFG.out _ _ (T1.out.below hBx).f).mono ?_); rintro e w3 ⟨rfl, hm⟩); exact ⟨_, rfl, rfl, hBx.trans (hm.mono hBx.size), hm⟩)
        | (go_wp2_with (go_at_call 44; (with_reducible refine (HFB.out _).mono ?_); rintro e w3 ⟨rfl, hm⟩); exact ⟨_, rfl, rfl, hBx.trans (hm.mono hBx.size), hm⟩)
  case done =>
    intro ys wx hBx hV
    have h6 : ys 6 = .string (bs B0) := hV 10 (by decide)
    have h7 : ys 7 = .int .i64 0 := hV 11 (by decide)
    have B2 := Lib.hid (B1.out.trans (hBx.mono B1.out.size))
    have T2 := Lib.hid (T1.out.below hBx)
    clear hBx hV V1 T1
    have a0 := T2.out.var.cell (j := 0) rfl
    have a1 := T2.out.var.cell (j := 1) rfl
    unfold ptr at a0 a1
    simp only [h6, h7, fill, List.drop_succ_cons, List.drop_zero, List.foldl_cons, List.foldl_nil, Act.put, List.setIfInBounds_toArray, List.set_cons_succ, List.set_cons_zero]
    go_wp2_with (first
      | (go_at_call 22; (with_reducible refine (HL.out _ _ T2.out.c).mono ?_); rintro e w3 ⟨rfl, b3⟩; have T3 := Lib.hid (T2.out.below b3); have A3 := Lib.hid (show After (both S R) w w3 (both S R) from ⟨Grows.of_below (B2.out.trans (b3.mono B2.out.size)), fun k hk => .inl hk⟩); clear b3 a0 a1; have a0 := T3.out.var.cell (j := 0) rfl; have a1 := T3.out.var.cell (j := 1) rfl; unfold ptr at a0 a1)
      | (go_at_call 47; (with_reducible refine (HT.out _ _ T3.out.c).mono ?_); rintro e w5 ⟨rfl, c5, g5⟩; have TA5 := Lib.hid (T3.out.right c5 g5); have A5 := Lib.hid (A3.out.trans TA5.out.2); clear c5 g5 a0 a1; have a0 := TA5.out.1.var.cell (j := 0) rfl; have a1 := TA5.out.1.var.cell (j := 1) rfl; unfold ptr at a0 a1)
      | (go_at_call 48; (with_reducible refine (HPR.out _ _ TA5.out.1.f).mono ?_); rintro e w6 ⟨rfl, S6, f6, g6⟩; have TA6 := Lib.hid (TA5.out.1.left f6 g6); have A6 := Lib.hid (A5.out.trans TA6.out.2); clear f6 g6 a0 a1))
    go_ret2
    exact ⟨rfl, S6, TA6.out.1, A6.out⟩
set_option maxRecDepth 100000 in
set_option maxHeartbeats 8000000 in
theorem append_ono {w : World} {t p q : Nat} {x : Tp} {S R : Nat → Prop} (h : TAt w t p q x S R) (hd : x.Ok) (f : Fr) (hs : f.body.length ≤ maxLen) (h1 : (bytesG x.geo f).2 = 0) (h2 : x.c.left = 0) (h3 : (openT x).1 ≠ 0) : Calls Tryz.prog 16 #[.pointer (some ⟨t, 0, none⟩), fV f] w fun e w' => e = .returned (.tuple #[.int .i64 ((appendT x f).1.1 : Int), .int .i64 ((appendT x f).1.2 : Int)]) ∧ ∃ S', TAt w' t p q (appendT x f).2 S' R ∧ After (both S R) w w' (both S' R) := by
  have HZ := Lib.hid (show appendT x f = ((0, (openT x).1), (openT x).2) by unfold appendT; rw [if_neg (by rw [h1]; simp), if_pos h2, if_pos h3])
  rw [HZ.out]
  have hfb := Go.Proofs.YtcmjambbdfangaaGreat.Frame.fBytes_any x.geo f hs
  have hfg := fun w S (h : FHas w p x.d S) => Flash.fGeom_any h hd.d
  unfold Geom.gV Tp.geo fV at hfb
  unfold Geom.gV at hfg
  have HL := Lib.hid (fun w R (h : CHas w q x.c R) => Chart.cLeft_any h hd.c)
  unfold Chart.ptr at HL
  have H := Lib.hid h
  rw [show bytesG ⟨(x.d.pg : Int), (x.d.pgs : Int), (x.d.rgs : Int)⟩ f = bytesG x.geo f from rfl, h1] at hfb
  have HO := Lib.hid (fun w S R (h : TAt w t p q x S R) => open_any h hd)
  rw [h2] at HL
  obtain ⟨k3, hk3⟩ : ∃ k3, k3 = (openT x).1 := ⟨_, rfl⟩
  have q3 : ((k3 : Int) != 0) = true := by rw [hk3]; simpa using h3
  rw [← hk3] at HO ⊢
  generalize (openT x).2 = y at HO ⊢
  generalize (bytesG x.geo f).1 = B0 at hfb
  obtain ⟨kd, fa, fb, bd⟩ := f
  obtain ⟨BD, hBD⟩ : ∃ BD, BD = bs bd := ⟨_, rfl⟩
  unfold fV
  simp only at hfb ⊢
  rw [← hBD] at hfb ⊢
  generalize vl fa = va at hfb ⊢
  generalize vl fb = vb at hfb ⊢
  obtain ⟨g0, hg0⟩ : ∃ g0, g0 = x.d.pg := ⟨_, rfl⟩
  obtain ⟨g1, hg1⟩ : ∃ g1, g1 = x.d.pgs := ⟨_, rfl⟩
  obtain ⟨g2, hg2⟩ : ∃ g2, g2 = x.d.rgs := ⟨_, rfl⟩
  rw [← hg0, ← hg1, ← hg2] at hfb hfg
  have HFB : Hid (∀ w, Calls Tryz.prog 44 #[.agg #[.int .i64 (g0 : Int), .int .i64 (g1 : Int), .int .i64 (g2 : Int)], .agg #[.int .i64 kd, .int .u32 va, .int .u32 vb, .string BD]] w fun e w' => e = .returned (.tuple #[.string (bs B0), .int .i64 0]) ∧ Below w.heap.size w w') := hfb
  have HFG : Hid (∀ w S, FHas w p x.d S → Calls Tryz.prog 45 #[.pointer (some ⟨p, 0, none⟩)] w fun e w' => e = .returned (.agg #[.int .i64 (g0 : Int), .int .i64 (g1 : Int), .int .i64 (g2 : Int)]) ∧ Below w.heap.size w w') := hfg
  clear h HZ hfb hfg hs h1 h2 h3 hk3 hg0 hg1 hg2 hBD
  obtain ⟨w1, hw1⟩ : ∃ w1, w1 = w.alloc (.cells #[.int .i64 kd, .int .u32 va, .int .u32 vb, .string BD] 31) := ⟨_, rfl⟩
  have B1 := Lib.hid (show Below w.heap.size w w1 by rw [hw1]; exact Geom.bel_alloc _ _)
  have T1 := Lib.hid (H.out.below B1.out)
  have V1 := Lib.hid (show Var w1 w.heap.size 31 [.int .i64 kd, .int .u32 va, .int .u32 vb, .string BD] by rw [hw1]; exact Var.new _ _ _)
  go_enter Tryz.func16, Tryz.ntmps16
  go_wp2
  rw [← hw1]
  clear hw1
  refine wp_region_is [15, 16, 17, 18, 19, 20, 21, 14, 22, 23, 6, 7] (fun w' => Below w1.heap.size w1 w')
    [.pointer (some ⟨t, 0, none⟩), .pointer (some ⟨t, 0, none⟩), .pointer (some ⟨t, 0, none⟩), .pointer (some ⟨p, 0, none⟩), .agg #[.int .i64 (g0 : Int), .int .i64 (g1 : Int), .int .i64 (g2 : Int)], .agg #[.int .i64 kd, .int .u32 va, .int .u32 vb, .string BD], .tuple #[.string (bs B0), .int .i64 0], .tuple #[.string (bs B0), .int .i64 0], .string (bs B0), .int .i64 0, .string (bs B0), .int .i64 0] (by kernel_rfl) (by kernel_rfl) rfl (by decide) (by simp) (Below.refl _ _).drew ?each ?done
  case each =>
    simp only [Each]
    repeat' (first | exact trivial | refine And.intro ?_ ?_)
    all_goals
      intro ys wx hBx hdeps
      simp only [Deps, Region.binds, List.getD_cons_zero, List.getD_cons_succ, forall_const, and_true] at hdeps
      have u0 := (T1.out.below hBx).var.cell (j := 0) rfl
      unfold ptr at u0
      have v0 := (V1.out.below hBx V1.out.lt).cell (j := 0) rfl
      have v1 := (V1.out.below hBx V1.out.lt).cell (j := 1) rfl
      have v2 := (V1.out.below hBx V1.out.lt).cell (j := 2) rfl
      have v3 := (V1.out.below hBx V1.out.lt).cell (j := 3) rfl
      simp only [hdeps, fill, List.foldl_cons, List.foldl_nil, Act.put, List.setIfInBounds_toArray, List.set_cons_succ, List.set_cons_zero]
      first
        | (go_wp2_with fail; exact ⟨_, rfl, rfl, hBx, Below.refl _ _⟩)
        | (go_wp2_with (go_at_call 45; (with_reducible refine (HFG.out _ _ (T1.out.below hBx).f).mono ?_); rintro e w3 ⟨rfl, hm⟩); exact ⟨_, rfl, rfl, hBx.trans (hm.mono hBx.size), hm⟩)
        | (go_wp2_with (go_at_call 44; (with_reducible refine (HFB.out _).mono ?_); rintro e w3 ⟨rfl, hm⟩); exact ⟨_, rfl, rfl, hBx.trans (hm.mono hBx.size), hm⟩)
  case done =>
    intro ys wx hBx hV
    have h6 : ys 6 = .string (bs B0) := hV 10 (by decide)
    have h7 : ys 7 = .int .i64 0 := hV 11 (by decide)
    have B2 := Lib.hid (B1.out.trans (hBx.mono B1.out.size))
    have T2 := Lib.hid (T1.out.below hBx)
    clear hBx hV V1 T1
    have a0 := T2.out.var.cell (j := 0) rfl
    have a1 := T2.out.var.cell (j := 1) rfl
    unfold ptr at a0 a1
    simp only [h6, h7, fill, List.drop_succ_cons, List.drop_zero, List.foldl_cons, List.foldl_nil, Act.put, List.setIfInBounds_toArray, List.set_cons_succ, List.set_cons_zero]
    go_wp2_with (first
      | (go_at_call 22; (with_reducible refine (HL.out _ _ T2.out.c).mono ?_); rintro e w3 ⟨rfl, b3⟩; have T3 := Lib.hid (T2.out.below b3); have A3 := Lib.hid (show After (both S R) w w3 (both S R) from ⟨Grows.of_below (B2.out.trans (b3.mono B2.out.size)), fun k hk => .inl hk⟩); clear b3 a0 a1; have a0 := T3.out.var.cell (j := 0) rfl; have a1 := T3.out.var.cell (j := 1) rfl; unfold ptr at a0 a1)
      | (go_at_call 46; (with_reducible refine (HO.out _ _ _ T3.out).mono ?_); rintro e w4 ⟨rfl, S4, t4, a4⟩; have T4 := Lib.hid t4; have A4 := Lib.hid (A3.out.trans a4); clear t4 a4 a0 a1; have a0 := T4.out.var.cell (j := 0) rfl; have a1 := T4.out.var.cell (j := 1) rfl; unfold ptr at a0 a1))
    go_ret2
    exact ⟨rfl, S4, T4.out, A4.out⟩
set_option maxRecDepth 100000 in
set_option maxHeartbeats 8000000 in
theorem append_nok {w : World} {t p q : Nat} {x : Tp} {S R : Nat → Prop} (h : TAt w t p q x S R) (hd : x.Ok) (f : Fr) (hs : f.body.length ≤ maxLen) (h1 : (bytesG x.geo f).2 = 0) (h2 : x.c.left = 0) (h4 : (openT x).1 = 0) (h3 : (programD (openT x).2.d (takeC (openT x).2.c).1.1 (bytesG x.geo f).1).1 = 0) : Calls Tryz.prog 16 #[.pointer (some ⟨t, 0, none⟩), fV f] w fun e w' => e = .returned (.tuple #[.int .i64 ((appendT x f).1.1 : Int), .int .i64 ((appendT x f).1.2 : Int)]) ∧ ∃ S', TAt w' t p q (appendT x f).2 S' R ∧ After (both S R) w w' (both S' R) := by
  have HZ := Lib.hid (show appendT x f = (((takeC (openT x).2.c).1.1, 0), ⟨(programD (openT x).2.d (takeC (openT x).2.c).1.1 (bytesG x.geo f).1).2, (takeC (openT x).2.c).2⟩) by unfold appendT; rw [if_neg (by rw [h1]; simp), if_pos h2, if_neg (by rw [h4]; simp)]; unfold writeT; rw [if_neg (by rw [h3]; simp)])
  rw [HZ.out]
  have hfb := Go.Proofs.YtcmjambbdfangaaGreat.Frame.fBytes_any x.geo f hs
  have hfg := fun w S (h : FHas w p x.d S) => Flash.fGeom_any h hd.d
  unfold Geom.gV Tp.geo fV at hfb
  unfold Geom.gV at hfg
  have HL := Lib.hid (fun w R (h : CHas w q x.c R) => Chart.cLeft_any h hd.c)
  unfold Chart.ptr at HL
  have H := Lib.hid h
  rw [show bytesG ⟨(x.d.pg : Int), (x.d.pgs : Int), (x.d.rgs : Int)⟩ f = bytesG x.geo f from rfl, h1] at hfb
  have HO := Lib.hid (fun w S R (h : TAt w t p q x S R) => open_any h hd)
  rw [h2] at HL
  rw [h4] at HO
  have hy := open_ok hd
  generalize (openT x).2 = y at HO hy h3 ⊢
  have HT := Lib.hid (fun w R (h : CHas w q y.c R) => Chart.cTake_any h hy.c)
  unfold Chart.ptr at HT
  have hpr := fun w S (h : FHas w p y.d S) => Flash.fProgram_any h hy.d ((takeC y.c).1.1 : Int) (bs (bytesG x.geo f).1)
  simp only [list_bs] at hpr
  generalize (bytesG x.geo f).1 = B0 at hfb hpr h3 ⊢
  rw [h3] at hpr
  generalize (programD y.d (takeC y.c).1.1 B0).2 = d2 at hpr ⊢
  obtain ⟨N, hN⟩ : ∃ N, N = (takeC y.c).1.1 := ⟨_, rfl⟩
  obtain ⟨c2, hc2⟩ : ∃ c2, c2 = (takeC y.c).2 := ⟨_, rfl⟩
  rw [← hN] at HT hpr ⊢
  rw [← hc2] at HT ⊢
  generalize (takeC y.c).1.2 = tb at HT
  have HPR := Lib.hid hpr
  obtain ⟨kd, fa, fb, bd⟩ := f
  obtain ⟨BD, hBD⟩ : ∃ BD, BD = bs bd := ⟨_, rfl⟩
  unfold fV
  simp only at hfb ⊢
  rw [← hBD] at hfb ⊢
  generalize vl fa = va at hfb ⊢
  generalize vl fb = vb at hfb ⊢
  obtain ⟨g0, hg0⟩ : ∃ g0, g0 = x.d.pg := ⟨_, rfl⟩
  obtain ⟨g1, hg1⟩ : ∃ g1, g1 = x.d.pgs := ⟨_, rfl⟩
  obtain ⟨g2, hg2⟩ : ∃ g2, g2 = x.d.rgs := ⟨_, rfl⟩
  rw [← hg0, ← hg1, ← hg2] at hfb hfg
  have HFB : Hid (∀ w, Calls Tryz.prog 44 #[.agg #[.int .i64 (g0 : Int), .int .i64 (g1 : Int), .int .i64 (g2 : Int)], .agg #[.int .i64 kd, .int .u32 va, .int .u32 vb, .string BD]] w fun e w' => e = .returned (.tuple #[.string (bs B0), .int .i64 0]) ∧ Below w.heap.size w w') := hfb
  have HFG : Hid (∀ w S, FHas w p x.d S → Calls Tryz.prog 45 #[.pointer (some ⟨p, 0, none⟩)] w fun e w' => e = .returned (.agg #[.int .i64 (g0 : Int), .int .i64 (g1 : Int), .int .i64 (g2 : Int)]) ∧ Below w.heap.size w w') := hfg
  clear h HZ hfb hfg hs h1 h2 h3 hpr hN hc2 h4 hg0 hg1 hg2 hBD
  obtain ⟨w1, hw1⟩ : ∃ w1, w1 = w.alloc (.cells #[.int .i64 kd, .int .u32 va, .int .u32 vb, .string BD] 31) := ⟨_, rfl⟩
  have B1 := Lib.hid (show Below w.heap.size w w1 by rw [hw1]; exact Geom.bel_alloc _ _)
  have T1 := Lib.hid (H.out.below B1.out)
  have V1 := Lib.hid (show Var w1 w.heap.size 31 [.int .i64 kd, .int .u32 va, .int .u32 vb, .string BD] by rw [hw1]; exact Var.new _ _ _)
  go_enter Tryz.func16, Tryz.ntmps16
  go_wp2
  rw [← hw1]
  clear hw1
  refine wp_region_is [15, 16, 17, 18, 19, 20, 21, 14, 22, 23, 6, 7] (fun w' => Below w1.heap.size w1 w')
    [.pointer (some ⟨t, 0, none⟩), .pointer (some ⟨t, 0, none⟩), .pointer (some ⟨t, 0, none⟩), .pointer (some ⟨p, 0, none⟩), .agg #[.int .i64 (g0 : Int), .int .i64 (g1 : Int), .int .i64 (g2 : Int)], .agg #[.int .i64 kd, .int .u32 va, .int .u32 vb, .string BD], .tuple #[.string (bs B0), .int .i64 0], .tuple #[.string (bs B0), .int .i64 0], .string (bs B0), .int .i64 0, .string (bs B0), .int .i64 0] (by kernel_rfl) (by kernel_rfl) rfl (by decide) (by simp) (Below.refl _ _).drew ?each ?done
  case each =>
    simp only [Each]
    repeat' (first | exact trivial | refine And.intro ?_ ?_)
    all_goals
      intro ys wx hBx hdeps
      simp only [Deps, Region.binds, List.getD_cons_zero, List.getD_cons_succ, forall_const, and_true] at hdeps
      have u0 := (T1.out.below hBx).var.cell (j := 0) rfl
      unfold ptr at u0
      have v0 := (V1.out.below hBx V1.out.lt).cell (j := 0) rfl
      have v1 := (V1.out.below hBx V1.out.lt).cell (j := 1) rfl
      have v2 := (V1.out.below hBx V1.out.lt).cell (j := 2) rfl
      have v3 := (V1.out.below hBx V1.out.lt).cell (j := 3) rfl
      simp only [hdeps, fill, List.foldl_cons, List.foldl_nil, Act.put, List.setIfInBounds_toArray, List.set_cons_succ, List.set_cons_zero]
      first
        | (go_wp2_with fail; exact ⟨_, rfl, rfl, hBx, Below.refl _ _⟩)
        | (go_wp2_with (go_at_call 45; (with_reducible refine (HFG.out _ _ (T1.out.below hBx).f).mono ?_); rintro e w3 ⟨rfl, hm⟩); exact ⟨_, rfl, rfl, hBx.trans (hm.mono hBx.size), hm⟩)
        | (go_wp2_with (go_at_call 44; (with_reducible refine (HFB.out _).mono ?_); rintro e w3 ⟨rfl, hm⟩); exact ⟨_, rfl, rfl, hBx.trans (hm.mono hBx.size), hm⟩)
  case done =>
    intro ys wx hBx hV
    have h6 : ys 6 = .string (bs B0) := hV 10 (by decide)
    have h7 : ys 7 = .int .i64 0 := hV 11 (by decide)
    have B2 := Lib.hid (B1.out.trans (hBx.mono B1.out.size))
    have T2 := Lib.hid (T1.out.below hBx)
    clear hBx hV V1 T1
    have a0 := T2.out.var.cell (j := 0) rfl
    have a1 := T2.out.var.cell (j := 1) rfl
    unfold ptr at a0 a1
    simp only [h6, h7, fill, List.drop_succ_cons, List.drop_zero, List.foldl_cons, List.foldl_nil, Act.put, List.setIfInBounds_toArray, List.set_cons_succ, List.set_cons_zero]
    go_wp2_with (first
      | (go_at_call 22; (with_reducible refine (HL.out _ _ T2.out.c).mono ?_); rintro e w3 ⟨rfl, b3⟩; have T3 := Lib.hid (T2.out.below b3); have A3 := Lib.hid (show After (both S R) w w3 (both S R) from ⟨Grows.of_below (B2.out.trans (b3.mono B2.out.size)), fun k hk => .inl hk⟩); clear b3 a0 a1; have a0 := T3.out.var.cell (j := 0) rfl; have a1 := T3.out.var.cell (j := 1) rfl; unfold ptr at a0 a1)
      | (go_at_call 46; (with_reducible refine (HO.out _ _ _ T3.out).mono ?_); rintro e w4 ⟨rfl, S4, t4, a4⟩; have T4 := Lib.hid t4; have A4 := Lib.hid (A3.out.trans a4); clear t4 a4 a0 a1; have a0 := T4.out.var.cell (j := 0) rfl; have a1 := T4.out.var.cell (j := 1) rfl; unfold ptr at a0 a1)
      | (go_at_call 47; (with_reducible refine (HT.out _ _ T4.out.c).mono ?_); rintro e w5 ⟨rfl, c5, g5⟩; have TA5 := Lib.hid (T4.out.right c5 g5); have A5 := Lib.hid (A4.out.trans TA5.out.2); clear c5 g5 a0 a1; have a0 := TA5.out.1.var.cell (j := 0) rfl; have a1 := TA5.out.1.var.cell (j := 1) rfl; unfold ptr at a0 a1)
      | (go_at_call 48; (with_reducible refine (HPR.out _ _ TA5.out.1.f).mono ?_); rintro e w6 ⟨rfl, S6, f6, g6⟩; have TA6 := Lib.hid (TA5.out.1.left f6 g6); have A6 := Lib.hid (A5.out.trans TA6.out.2); clear f6 g6 a0 a1))
    go_ret2
    exact ⟨rfl, S6, TA6.out.1, A6.out⟩
set_option maxRecDepth 100000 in
set_option maxHeartbeats 8000000 in
theorem append_nno {w : World} {t p q : Nat} {x : Tp} {S R : Nat → Prop} (h : TAt w t p q x S R) (hd : x.Ok) (f : Fr) (hs : f.body.length ≤ maxLen) (h1 : (bytesG x.geo f).2 = 0) (h2 : x.c.left = 0) (h4 : (openT x).1 = 0) (h3 : (programD (openT x).2.d (takeC (openT x).2.c).1.1 (bytesG x.geo f).1).1 ≠ 0) : Calls Tryz.prog 16 #[.pointer (some ⟨t, 0, none⟩), fV f] w fun e w' => e = .returned (.tuple #[.int .i64 ((appendT x f).1.1 : Int), .int .i64 ((appendT x f).1.2 : Int)]) ∧ ∃ S', TAt w' t p q (appendT x f).2 S' R ∧ After (both S R) w w' (both S' R) := by
  have HZ := Lib.hid (show appendT x f = ((0, (programD (openT x).2.d (takeC (openT x).2.c).1.1 (bytesG x.geo f).1).1), ⟨(programD (openT x).2.d (takeC (openT x).2.c).1.1 (bytesG x.geo f).1).2, (takeC (openT x).2.c).2⟩) by unfold appendT; rw [if_neg (by rw [h1]; simp), if_pos h2, if_neg (by rw [h4]; simp)]; unfold writeT; rw [if_pos h3])
  rw [HZ.out]
  have hfb := Go.Proofs.YtcmjambbdfangaaGreat.Frame.fBytes_any x.geo f hs
  have hfg := fun w S (h : FHas w p x.d S) => Flash.fGeom_any h hd.d
  unfold Geom.gV Tp.geo fV at hfb
  unfold Geom.gV at hfg
  have HL := Lib.hid (fun w R (h : CHas w q x.c R) => Chart.cLeft_any h hd.c)
  unfold Chart.ptr at HL
  have H := Lib.hid h
  rw [show bytesG ⟨(x.d.pg : Int), (x.d.pgs : Int), (x.d.rgs : Int)⟩ f = bytesG x.geo f from rfl, h1] at hfb
  have HO := Lib.hid (fun w S R (h : TAt w t p q x S R) => open_any h hd)
  rw [h2] at HL
  rw [h4] at HO
  have hy := open_ok hd
  generalize (openT x).2 = y at HO hy h3 ⊢
  have HT := Lib.hid (fun w R (h : CHas w q y.c R) => Chart.cTake_any h hy.c)
  unfold Chart.ptr at HT
  have hpr := fun w S (h : FHas w p y.d S) => Flash.fProgram_any h hy.d ((takeC y.c).1.1 : Int) (bs (bytesG x.geo f).1)
  simp only [list_bs] at hpr
  generalize (bytesG x.geo f).1 = B0 at hfb hpr h3 ⊢
  obtain ⟨k3, hk3⟩ : ∃ k3, k3 = (programD y.d (takeC y.c).1.1 B0).1 := ⟨_, rfl⟩
  have q3 : ((k3 : Int) != 0) = true := by rw [hk3]; simpa using h3
  rw [← hk3] at hpr ⊢
  generalize (programD y.d (takeC y.c).1.1 B0).2 = d2 at hpr ⊢
  obtain ⟨N, hN⟩ : ∃ N, N = (takeC y.c).1.1 := ⟨_, rfl⟩
  obtain ⟨c2, hc2⟩ : ∃ c2, c2 = (takeC y.c).2 := ⟨_, rfl⟩
  rw [← hN] at HT hpr
  rw [← hc2] at HT ⊢
  generalize (takeC y.c).1.2 = tb at HT
  have HPR := Lib.hid hpr
  obtain ⟨kd, fa, fb, bd⟩ := f
  obtain ⟨BD, hBD⟩ : ∃ BD, BD = bs bd := ⟨_, rfl⟩
  unfold fV
  simp only at hfb ⊢
  rw [← hBD] at hfb ⊢
  generalize vl fa = va at hfb ⊢
  generalize vl fb = vb at hfb ⊢
  obtain ⟨g0, hg0⟩ : ∃ g0, g0 = x.d.pg := ⟨_, rfl⟩
  obtain ⟨g1, hg1⟩ : ∃ g1, g1 = x.d.pgs := ⟨_, rfl⟩
  obtain ⟨g2, hg2⟩ : ∃ g2, g2 = x.d.rgs := ⟨_, rfl⟩
  rw [← hg0, ← hg1, ← hg2] at hfb hfg
  have HFB : Hid (∀ w, Calls Tryz.prog 44 #[.agg #[.int .i64 (g0 : Int), .int .i64 (g1 : Int), .int .i64 (g2 : Int)], .agg #[.int .i64 kd, .int .u32 va, .int .u32 vb, .string BD]] w fun e w' => e = .returned (.tuple #[.string (bs B0), .int .i64 0]) ∧ Below w.heap.size w w') := hfb
  have HFG : Hid (∀ w S, FHas w p x.d S → Calls Tryz.prog 45 #[.pointer (some ⟨p, 0, none⟩)] w fun e w' => e = .returned (.agg #[.int .i64 (g0 : Int), .int .i64 (g1 : Int), .int .i64 (g2 : Int)]) ∧ Below w.heap.size w w') := hfg
  clear h HZ hfb hfg hs h1 h2 h3 hpr hN hc2 hk3 h4 hg0 hg1 hg2 hBD
  obtain ⟨w1, hw1⟩ : ∃ w1, w1 = w.alloc (.cells #[.int .i64 kd, .int .u32 va, .int .u32 vb, .string BD] 31) := ⟨_, rfl⟩
  have B1 := Lib.hid (show Below w.heap.size w w1 by rw [hw1]; exact Geom.bel_alloc _ _)
  have T1 := Lib.hid (H.out.below B1.out)
  have V1 := Lib.hid (show Var w1 w.heap.size 31 [.int .i64 kd, .int .u32 va, .int .u32 vb, .string BD] by rw [hw1]; exact Var.new _ _ _)
  go_enter Tryz.func16, Tryz.ntmps16
  go_wp2
  rw [← hw1]
  clear hw1
  refine wp_region_is [15, 16, 17, 18, 19, 20, 21, 14, 22, 23, 6, 7] (fun w' => Below w1.heap.size w1 w')
    [.pointer (some ⟨t, 0, none⟩), .pointer (some ⟨t, 0, none⟩), .pointer (some ⟨t, 0, none⟩), .pointer (some ⟨p, 0, none⟩), .agg #[.int .i64 (g0 : Int), .int .i64 (g1 : Int), .int .i64 (g2 : Int)], .agg #[.int .i64 kd, .int .u32 va, .int .u32 vb, .string BD], .tuple #[.string (bs B0), .int .i64 0], .tuple #[.string (bs B0), .int .i64 0], .string (bs B0), .int .i64 0, .string (bs B0), .int .i64 0] (by kernel_rfl) (by kernel_rfl) rfl (by decide) (by simp) (Below.refl _ _).drew ?each ?done
  case each =>
    simp only [Each]
    repeat' (first | exact trivial | refine And.intro ?_ ?_)
    all_goals
      intro ys wx hBx hdeps
      simp only [Deps, Region.binds, List.getD_cons_zero, List.getD_cons_succ, forall_const, and_true] at hdeps
      have u0 := (T1.out.below hBx).var.cell (j := 0) rfl
      unfold ptr at u0
      have v0 := (V1.out.below hBx V1.out.lt).cell (j := 0) rfl
      have v1 := (V1.out.below hBx V1.out.lt).cell (j := 1) rfl
      have v2 := (V1.out.below hBx V1.out.lt).cell (j := 2) rfl
      have v3 := (V1.out.below hBx V1.out.lt).cell (j := 3) rfl
      simp only [hdeps, fill, List.foldl_cons, List.foldl_nil, Act.put, List.setIfInBounds_toArray, List.set_cons_succ, List.set_cons_zero]
      first
        | (go_wp2_with fail; exact ⟨_, rfl, rfl, hBx, Below.refl _ _⟩)
        | (go_wp2_with (go_at_call 45; (with_reducible refine (HFG.out _ _ (T1.out.below hBx).f).mono ?_); rintro e w3 ⟨rfl, hm⟩); exact ⟨_, rfl, rfl, hBx.trans (hm.mono hBx.size), hm⟩)
        | (go_wp2_with (go_at_call 44; (with_reducible refine (HFB.out _).mono ?_); rintro e w3 ⟨rfl, hm⟩); exact ⟨_, rfl, rfl, hBx.trans (hm.mono hBx.size), hm⟩)
  case done =>
    intro ys wx hBx hV
    have h6 : ys 6 = .string (bs B0) := hV 10 (by decide)
    have h7 : ys 7 = .int .i64 0 := hV 11 (by decide)
    have B2 := Lib.hid (B1.out.trans (hBx.mono B1.out.size))
    have T2 := Lib.hid (T1.out.below hBx)
    clear hBx hV V1 T1
    have a0 := T2.out.var.cell (j := 0) rfl
    have a1 := T2.out.var.cell (j := 1) rfl
    unfold ptr at a0 a1
    simp only [h6, h7, fill, List.drop_succ_cons, List.drop_zero, List.foldl_cons, List.foldl_nil, Act.put, List.setIfInBounds_toArray, List.set_cons_succ, List.set_cons_zero]
    go_wp2_with (first
      | (go_at_call 22; (with_reducible refine (HL.out _ _ T2.out.c).mono ?_); rintro e w3 ⟨rfl, b3⟩; have T3 := Lib.hid (T2.out.below b3); have A3 := Lib.hid (show After (both S R) w w3 (both S R) from ⟨Grows.of_below (B2.out.trans (b3.mono B2.out.size)), fun k hk => .inl hk⟩); clear b3 a0 a1; have a0 := T3.out.var.cell (j := 0) rfl; have a1 := T3.out.var.cell (j := 1) rfl; unfold ptr at a0 a1)
      | (go_at_call 46; (with_reducible refine (HO.out _ _ _ T3.out).mono ?_); rintro e w4 ⟨rfl, S4, t4, a4⟩; have T4 := Lib.hid t4; have A4 := Lib.hid (A3.out.trans a4); clear t4 a4 a0 a1; have a0 := T4.out.var.cell (j := 0) rfl; have a1 := T4.out.var.cell (j := 1) rfl; unfold ptr at a0 a1)
      | (go_at_call 47; (with_reducible refine (HT.out _ _ T4.out.c).mono ?_); rintro e w5 ⟨rfl, c5, g5⟩; have TA5 := Lib.hid (T4.out.right c5 g5); have A5 := Lib.hid (A4.out.trans TA5.out.2); clear c5 g5 a0 a1; have a0 := TA5.out.1.var.cell (j := 0) rfl; have a1 := TA5.out.1.var.cell (j := 1) rfl; unfold ptr at a0 a1)
      | (go_at_call 48; (with_reducible refine (HPR.out _ _ TA5.out.1.f).mono ?_); rintro e w6 ⟨rfl, S6, f6, g6⟩; have TA6 := Lib.hid (TA5.out.1.left f6 g6); have A6 := Lib.hid (A5.out.trans TA6.out.2); clear f6 g6 a0 a1))
    go_ret2
    exact ⟨rfl, S6, TA6.out.1, A6.out⟩
theorem atAppend_any {w : World} {t p q : Nat} {x : Tp} {S R : Nat → Prop} (h : TAt w t p q x S R) (hd : x.Ok) (f : Fr) (hs : f.body.length ≤ maxLen) : Calls Tryz.prog 16 #[.pointer (some ⟨t, 0, none⟩), fV f] w fun e w' => e = .returned (.tuple #[.int .i64 ((appendT x f).1.1 : Int), .int .i64 ((appendT x f).1.2 : Int)]) ∧ ∃ S', TAt w' t p q (appendT x f).2 S' R ∧ After (both S R) w w' (both S' R) := by
  by_cases h1 : (bytesG x.geo f).2 = 0
  · by_cases h2 : x.c.left = 0
    · by_cases h4 : (openT x).1 = 0
      · by_cases h3 : (programD (openT x).2.d (takeC (openT x).2.c).1.1 (bytesG x.geo f).1).1 = 0
        · exact append_nok h hd f hs h1 h2 h4 h3
        · exact append_nno h hd f hs h1 h2 h4 h3
      · exact append_ono h hd f hs h1 h2 h4
    · by_cases h3 : (programD x.d (takeC x.c).1.1 (bytesG x.geo f).1).1 = 0
      · exact append_wok h hd f hs h1 h2 h3
      · exact append_wno h hd f hs h1 h2 h3
  · exact append_code h hd f hs h1
theorem append_nil (v : Array Value) (hv : v = #[.int .i64 0, .int .u32 0, .int .u32 0, .string ⟨#[]⟩]) (w : World) : Calls Tryz.prog 16 #[.pointer none, .agg v] w fun e w' => e = .returned (.tuple #[.int .i64 0, .int .i64 1]) ∧ Below w.heap.size w w' := by
  subst hv
  go_enter Tryz.func16, Tryz.ntmps16
  go_wp2
  go_ret2
  exact ⟨rfl, Geom.bel_alloc _ _⟩
end Go.Proofs.YtcmjambbdfangaaGreat.Tape
