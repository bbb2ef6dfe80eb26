/-
  The document's tape: Append, Erase.
-/
import Derived.Test.YtcmjambbdfangaaGreatRunTapeR
import Derived.Test.YtcmjambbdfangaaGreatRunFlashW
import Derived.Test.YtcmjambbdfangaaGreatRunFlashE
import Derived.Test.YtcmjambbdfangaaGreatRunRefFrame
set_option linter.unusedVariables false
set_option linter.unusedSimpArgs false
namespace Go.Proofs.YtcmjambbdfangaaGreat.Tape
open Go.RowKit
open Go.Proofs.YtcmjambbdfangaaGreat.Own
open CrcM (W)
open Crc (vl wd)
open Flash (Dev FHas RHas programD eraseD flushD bs list_bs)
open Chart (Ch CHas DHas openC takeC eraseC setC)
open Go.Proofs.YtcmjambbdfangaaGreat.Frame (Fr fV page bytesG)
open Tup Foot Bytes
open Go.Proofs.YtcmjambbdfangaaGreat.Region (fill Then Deps Each wp_region_is wp_region_is_tail)

theorem rErase {w : World} {p : Nat} {d : Dev} {R : Nat → Prop} (h : RHas w p d R) (hd : d.Ok) (r : Int) : Calls Tryz.prog 42 #[.pointer (some ⟨p, 0, none⟩), .int .i64 r] w fun e w' => e = .returned (.int .i64 ((eraseD d r).1 : Int)) ∧ ∃ R', RHas w' p (eraseD d r).2 R' ∧ After R w w' R' := by
  obtain ⟨a, b, c, f, h, rfl⟩ := h; exact Flash.refErase_any h hd r
theorem rFlush {w : World} {p : Nat} {d : Dev} {R : Nat → Prop} (h : RHas w p d R) (hd : d.Ok) : Calls Tryz.prog 11 #[.pointer (some ⟨p, 0, none⟩)] w fun e w' => e = .returned (.int .i64 ((flushD d).1 : Int)) ∧ ∃ R', RHas w' p (flushD d).2 R' ∧ After R w w' R' := by
  obtain ⟨a, b, c, f, h, rfl⟩ := h; exact Flash.refFlush_any h hd
theorem rProgram {w : World} {p : Nat} {d : Dev} {R : Nat → Prop} (h : RHas w p d R) (hd : d.Ok) (q : Int) (b : ByteArray) : Calls Tryz.prog 51 #[.pointer (some ⟨p, 0, none⟩), .int .i64 q, .string b] w fun e w' => e = .returned (.int .i64 ((programD d q b.data.toList).1 : Int)) ∧ ∃ R', RHas w' p (programD d q b.data.toList).2 R' ∧ After R w w' R' := by
  obtain ⟨x, y, c, f, h, rfl⟩ := h; exact Flash.refProgram_any h hd q b
theorem rFuse {w : World} {p : Nat} {d : Dev} {R : Nat → Prop} (h : RHas w p d R) (n : Int) (hn : n < 9223372036854775808) : Calls Tryz.prog 15 #[.pointer (some ⟨p, 0, none⟩), .int .i64 n] w fun e w' => e = .returned (.tuple #[]) ∧ ∃ R', RHas w' p (Flash.fuseD d n) R' ∧ After R w w' R' := by
  obtain ⟨x, y, c, f, h, rfl⟩ := h
  refine (Flash.refFuse_any h n hn).mono ?_
  rintro e w' ⟨he, h1, g⟩
  exact ⟨he, _, h1, Flash.After.of_grows g (fun j hj => .inl hj)⟩
theorem rCells {w : World} {p : Nat} {d : Dev} {R : Nat → Prop} (h : RHas w p d R) : w.cell? ⟨p, 0, none⟩ = some (.int .i64 (d.pg : Int)) ∧ w.cell? ⟨p, 1, none⟩ = some (.int .i64 (d.pgs : Int)) ∧ w.cell? ⟨p, 2, none⟩ = some (.int .i64 (d.rgs : Int)) := by
  obtain ⟨a, b, c, f, h, rfl⟩ := h
  exact ⟨h.var.cell (j := 0) rfl, h.var.cell (j := 1) rfl, h.var.cell (j := 2) rfl⟩
set_option maxRecDepth 100000 in
set_option maxHeartbeats 8000000 in
theorem app_code {w : World} {t p q : Nat} {x : Tp} {S R : Nat → Prop} (h : RAt w t p q x S R) (hd : x.Ok) (f : Fr) (hs : f.body.length ≤ maxLen) (h1 : (bytesG x.geo f).2 ≠ 0) : Calls Tryz.prog 17 #[.pointer (some ⟨t, 0, none⟩), fV f] w fun e w' => e = .returned (.tuple #[.int .i64 ((appendT x f).1.1 : Int), .int .i64 ((appendT x f).1.2 : Int)]) ∧ ∃ S', RAt w' t p q (appendT x f).2 S' R ∧ After (both S R) w w' (both S' R) := by
  have HZ := Lib.hid (show appendT x f = ((0, (bytesG x.geo f).2), x) by unfold appendT; rw [if_pos h1])
  rw [HZ.out]
  have hfb := Go.Proofs.YtcmjambbdfangaaGreat.Frame.refBytes_any x.geo f hs
  unfold Geom.gV Tp.geo fV at hfb
  have HL := Lib.hid (fun w R (h : DHas w q x.c R) => Chart.dLeft_any h hd.c)
  unfold Chart.ptr at HL
  have H := Lib.hid h
  obtain ⟨k1, hk1⟩ : ∃ k1, k1 = (bytesG x.geo f).2 := ⟨_, rfl⟩
  have q1 : ((k1 : Int) != 0) = true := by rw [hk1]; simpa using h1
  rw [show bytesG ⟨(x.d.pg : Int), (x.d.pgs : Int), (x.d.rgs : Int)⟩ f = bytesG x.geo f from rfl, ← hk1] at hfb
  rw [← hk1]
  generalize (bytesG x.geo f).1 = B0 at hfb
  obtain ⟨kd, fa, fb, bd⟩ := f
  obtain ⟨BD, hBD⟩ : ∃ BD, BD = bs bd := ⟨_, rfl⟩
  unfold fV
  simp only at hfb ⊢
  rw [← hBD] at hfb ⊢
  generalize vl fa = va at hfb ⊢
  generalize vl fb = vb at hfb ⊢
  obtain ⟨g0, hg0⟩ : ∃ g0, g0 = x.d.pg := ⟨_, rfl⟩
  obtain ⟨g1, hg1⟩ : ∃ g1, g1 = x.d.pgs := ⟨_, rfl⟩
  obtain ⟨g2, hg2⟩ : ∃ g2, g2 = x.d.rgs := ⟨_, rfl⟩
  rw [← hg0, ← hg1, ← hg2] at hfb
  have HFB : Hid (∀ w, Calls Tryz.prog 49 #[.agg #[.int .i64 (g0 : Int), .int .i64 (g1 : Int), .int .i64 (g2 : Int)], .agg #[.int .i64 kd, .int .u32 va, .int .u32 vb, .string BD]] w fun e w' => e = .returned (.tuple #[.string (bs B0), .int .i64 (k1 : Int)]) ∧ Below w.heap.size w w') := hfb
  have HDC : Hid (∀ w S, RHas w p x.d S → w.cell? ⟨p, 0, none⟩ = some (.int .i64 (g0 : Int)) ∧ w.cell? ⟨p, 1, none⟩ = some (.int .i64 (g1 : Int)) ∧ w.cell? ⟨p, 2, none⟩ = some (.int .i64 (g2 : Int))) := fun w S h => by rw [hg0, hg1, hg2]; exact rCells h
  clear h HZ hfb hs h1 hk1 hg0 hg1 hg2 hBD
  obtain ⟨w1, hw1⟩ : ∃ w1, w1 = w.alloc (.cells #[.int .i64 kd, .int .u32 va, .int .u32 vb, .string BD] 31) := ⟨_, rfl⟩
  have B1 := Lib.hid (show Below w.heap.size w w1 by rw [hw1]; exact Geom.bel_alloc _ _)
  have T1 := Lib.hid (H.out.below B1.out)
  have V1 := Lib.hid (show Var w1 w.heap.size 31 [.int .i64 kd, .int .u32 va, .int .u32 vb, .string BD] by rw [hw1]; exact Var.new _ _ _)
  go_enter Tryz.func17, Tryz.ntmps17
  go_wp2
  rw [← hw1]
  clear hw1
  refine wp_region_is [18, 19, 20, 21, 22, 23, 24, 25, 26, 17, 27, 28, 6, 7] (fun w' => Below w1.heap.size w1 w')
    [.pointer (some ⟨t, 0, none⟩), .pointer (some ⟨t, 0, none⟩), .pointer (some ⟨t, 0, none⟩), .pointer (some ⟨p, 0, none⟩), .pointer (some ⟨p, 0, none⟩), .pointer (some ⟨p, 0, none⟩), .agg #[.int .i64 (g0 : Int), .int .i64 (g1 : Int), .int .i64 (g2 : Int)], .agg #[.int .i64 kd, .int .u32 va, .int .u32 vb, .string BD], .tuple #[.string (bs B0), .int .i64 (k1 : Int)], .tuple #[.string (bs B0), .int .i64 (k1 : Int)], .string (bs B0), .int .i64 (k1 : Int), .string (bs B0), .int .i64 (k1 : Int)] (by kernel_rfl) (by kernel_rfl) rfl (by decide) (by simp) (Below.refl _ _).drew ?each ?done
  case each =>
    simp only [Each]
    repeat' (first | exact trivial | refine And.intro ?_ ?_)
    all_goals
      intro ys wx hBx hdeps
      simp only [Deps, Region.binds, List.getD_cons_zero, List.getD_cons_succ, forall_const, and_true] at hdeps
      have u0 := (T1.out.below hBx).var.cell (j := 0) rfl
      unfold ptr at u0
      have dd := HDC.out _ _ (T1.out.below hBx).f
      have e0 := dd.1
      have e1 := dd.2.1
      have e2 := dd.2.2
      clear dd
      have v0 := (V1.out.below hBx V1.out.lt).cell (j := 0) rfl
      have v1 := (V1.out.below hBx V1.out.lt).cell (j := 1) rfl
      have v2 := (V1.out.below hBx V1.out.lt).cell (j := 2) rfl
      have v3 := (V1.out.below hBx V1.out.lt).cell (j := 3) rfl
      simp only [hdeps, fill, List.foldl_cons, List.foldl_nil, Act.put, List.setIfInBounds_toArray, List.set_cons_succ, List.set_cons_zero]
      first
        | (go_wp2_with fail; exact ⟨_, rfl, rfl, hBx, Below.refl _ _⟩)
        | (go_wp2_with (go_at_call 49; (with_reducible refine (HFB.out _).mono ?_); rintro e w3 ⟨rfl, hm⟩); exact ⟨_, rfl, rfl, hBx.trans (hm.mono hBx.size), hm⟩)
  case done =>
    intro ys wx hBx hV
    have h6 : ys 6 = .string (bs B0) := hV 12 (by decide)
    have h7 : ys 7 = .int .i64 (k1 : Int) := hV 13 (by decide)
    have B2 := Lib.hid (B1.out.trans (hBx.mono B1.out.size))
    have T2 := Lib.hid (T1.out.below hBx)
    clear hBx hV V1 T1
    have a0 := T2.out.var.cell (j := 0) rfl
    have a1 := T2.out.var.cell (j := 1) rfl
    unfold ptr at a0 a1
    simp only [h6, h7, fill, List.drop_succ_cons, List.drop_zero, List.foldl_cons, List.foldl_nil, Act.put, List.setIfInBounds_toArray, List.set_cons_succ, List.set_cons_zero]
    go_wp2
    go_ret2
    exact ⟨rfl, S, T2.out, Grows.of_below B2.out, fun k hk => .inl hk⟩
set_option maxRecDepth 100000 in
set_option maxHeartbeats 8000000 in
theorem app_wok {w : World} {t p q : Nat} {x : Tp} {S R : Nat → Prop} (h : RAt w t p q x S R) (hd : x.Ok) (f : Fr) (hs : f.body.length ≤ maxLen) (h1 : (bytesG x.geo f).2 = 0) (h2 : x.c.left ≠ 0) (h3 : (programD x.d (takeC x.c).1.1 (bytesG x.geo f).1).1 = 0) : Calls Tryz.prog 17 #[.pointer (some ⟨t, 0, none⟩), fV f] w fun e w' => e = .returned (.tuple #[.int .i64 ((appendT x f).1.1 : Int), .int .i64 ((appendT x f).1.2 : Int)]) ∧ ∃ S', RAt w' t p q (appendT x f).2 S' R ∧ After (both S R) w w' (both S' R) := by
  have HZ := Lib.hid (show appendT x f = (((takeC x.c).1.1, 0), ⟨(programD x.d (takeC x.c).1.1 (bytesG x.geo f).1).2, (takeC x.c).2⟩) by unfold appendT; rw [if_neg (by rw [h1]; simp), if_neg h2]; unfold writeT; rw [if_neg (by rw [h3]; simp)])
  rw [HZ.out]
  have hfb := Go.Proofs.YtcmjambbdfangaaGreat.Frame.refBytes_any x.geo f hs
  unfold Geom.gV Tp.geo fV at hfb
  have HL := Lib.hid (fun w R (h : DHas w q x.c R) => Chart.dLeft_any h hd.c)
  unfold Chart.ptr at HL
  have H := Lib.hid h
  rw [show bytesG ⟨(x.d.pg : Int), (x.d.pgs : Int), (x.d.rgs : Int)⟩ f = bytesG x.geo f from rfl, h1] at hfb
  have q2 : ((x.c.left : Int) == 0) = false := by simpa using h2
  have HT := Lib.hid (fun w R (h : DHas w q x.c R) => Chart.dTake_any h hd.c)
  unfold Chart.ptr at HT
  have hpr := fun w S (h : RHas w p x.d S) => rProgram h hd.d ((takeC x.c).1.1 : Int) (bs (bytesG x.geo f).1)
  simp only [list_bs] at hpr
  generalize (bytesG x.geo f).1 = B0 at hfb hpr h3 ⊢
  rw [h3] at hpr
  generalize (programD x.d (takeC x.c).1.1 B0).2 = d2 at hpr ⊢
  obtain ⟨N, hN⟩ : ∃ N, N = (takeC x.c).1.1 := ⟨_, rfl⟩
  obtain ⟨c3, hc3⟩ : ∃ c3, c3 = (takeC x.c).2 := ⟨_, rfl⟩
  rw [← hN] at HT hpr ⊢
  rw [← hc3] at HT ⊢
  generalize (takeC x.c).1.2 = tb at HT
  have HPR := Lib.hid hpr
  obtain ⟨kd, fa, fb, bd⟩ := f
  obtain ⟨BD, hBD⟩ : ∃ BD, BD = bs bd := ⟨_, rfl⟩
  unfold fV
  simp only at hfb ⊢
  rw [← hBD] at hfb ⊢
  generalize vl fa = va at hfb ⊢
  generalize vl fb = vb at hfb ⊢
  obtain ⟨g0, hg0⟩ : ∃ g0, g0 = x.d.pg := ⟨_, rfl⟩
  obtain ⟨g1, hg1⟩ : ∃ g1, g1 = x.d.pgs := ⟨_, rfl⟩
  obtain ⟨g2, hg2⟩ : ∃ g2, g2 = x.d.rgs := ⟨_, rfl⟩
  rw [← hg0, ← hg1, ← hg2] at hfb
  have HFB : Hid (∀ w, Calls Tryz.prog 49 #[.agg #[.int .i64 (g0 : Int), .int .i64 (g1 : Int), .int .i64 (g2 : Int)], .agg #[.int .i64 kd, .int .u32 va, .int .u32 vb, .string BD]] w fun e w' => e = .returned (.tuple #[.string (bs B0), .int .i64 0]) ∧ Below w.heap.size w w') := hfb
  have HDC : Hid (∀ w S, RHas w p x.d S → w.cell? ⟨p, 0, none⟩ = some (.int .i64 (g0 : Int)) ∧ w.cell? ⟨p, 1, none⟩ = some (.int .i64 (g1 : Int)) ∧ w.cell? ⟨p, 2, none⟩ = some (.int .i64 (g2 : Int))) := fun w S h => by rw [hg0, hg1, hg2]; exact rCells h
  clear h HZ hfb hs h1 h2 h3 hpr hN hc3 hg0 hg1 hg2 hBD
  obtain ⟨w1, hw1⟩ : ∃ w1, w1 = w.alloc (.cells #[.int .i64 kd, .int .u32 va, .int .u32 vb, .string BD] 31) := ⟨_, rfl⟩
  have B1 := Lib.hid (show Below w.heap.size w w1 by rw [hw1]; exact Geom.bel_alloc _ _)
  have T1 := Lib.hid (H.out.below B1.out)
  have V1 := Lib.hid (show Var w1 w.heap.size 31 [.int .i64 kd, .int .u32 va, .int .u32 vb, .string BD] by rw [hw1]; exact Var.new _ _ _)
  go_enter Tryz.func17, Tryz.ntmps17
  go_wp2
  rw [← hw1]
  clear hw1
  refine wp_region_is [18, 19, 20, 21, 22, 23, 24, 25, 26, 17, 27, 28, 6, 7] (fun w' => Below w1.heap.size w1 w')
    [.pointer (some ⟨t, 0, none⟩), .pointer (some ⟨t, 0, none⟩), .pointer (some ⟨t, 0, none⟩), .pointer (some ⟨p, 0, none⟩), .pointer (some ⟨p, 0, none⟩), .pointer (some ⟨p, 0, none⟩), .agg #[.int .i64 (g0 : Int), .int .i64 (g1 : Int), .int .i64 (g2 : Int)], .agg #[.int .i64 kd, .int .u32 va, .int .u32 vb, .string BD], .tuple #[.string (bs B0), .int .i64 0], .tuple #[.string (bs B0), .int .i64 0], .string (bs B0), .int .i64 0, .string (bs B0), .int .i64 0] (by kernel_rfl) (by kernel_rfl) rfl (by decide) (by simp) (Below.refl _ _).drew ?each ?done
  case each =>
    simp only [Each]
    repeat' (first | exact trivial | refine And.intro ?_ ?_)
    all_goals
      intro ys wx hBx hdeps
      simp only [Deps, Region.binds, List.getD_cons_zero, List.getD_cons_succ, forall_const, and_true] at hdeps
      have u0 := (T1.out.below hBx).var.cell (j := 0) rfl
      unfold ptr at u0
      have dd := HDC.out _ _ (T1.out.below hBx).f
      have e0 := dd.1
      have e1 := dd.2.1
      have e2 := dd.2.2
      clear dd
      have v0 := (V1.out.below hBx V1.out.lt).cell (j := 0) rfl
      have v1 := (V1.out.below hBx V1.out.lt).cell (j := 1) rfl
      have v2 := (V1.out.below hBx V1.out.lt).cell (j := 2) rfl
      have v3 := (V1.out.below hBx V1.out.lt).cell (j := 3) rfl
      simp only [hdeps, fill, List.foldl_cons, List.foldl_nil, Act.put, List.setIfInBounds_toArray, List.set_cons_succ, List.set_cons_zero]
      first
        | (go_wp2_with fail; exact ⟨_, rfl, rfl, hBx, Below.refl _ _⟩)
        | (go_wp2_with (go_at_call 49; (with_reducible refine (HFB.out _).mono ?_); rintro e w3 ⟨rfl, hm⟩); exact ⟨_, rfl, rfl, hBx.trans (hm.mono hBx.size), hm⟩)
  case done =>
    intro ys wx hBx hV
    have h6 : ys 6 = .string (bs B0) := hV 12 (by decide)
    have h7 : ys 7 = .int .i64 0 := hV 13 (by decide)
    have B2 := Lib.hid (B1.out.trans (hBx.mono B1.out.size))
    have T2 := Lib.hid (T1.out.below hBx)
    clear hBx hV V1 T1
    have a0 := T2.out.var.cell (j := 0) rfl
    have a1 := T2.out.var.cell (j := 1) rfl
    unfold ptr at a0 a1
    simp only [h6, h7, fill, List.drop_succ_cons, List.drop_zero, List.foldl_cons, List.foldl_nil, Act.put, List.setIfInBounds_toArray, List.set_cons_succ, List.set_cons_zero]
    go_wp2_with (first
      | (go_at_call 23; (with_reducible refine (HL.out _ _ T2.out.c).mono ?_); rintro e w3 ⟨rfl, b3⟩; have T3 := Lib.hid (T2.out.below b3); have A3 := Lib.hid (show After (both S R) w w3 (both S R) from ⟨Grows.of_below (B2.out.trans (b3.mono B2.out.size)), fun k hk => .inl hk⟩); clear b3 a0 a1; have a0 := T3.out.var.cell (j := 0) rfl; have a1 := T3.out.var.cell (j := 1) rfl; unfold ptr at a0 a1)
      | (go_at_call 52; (with_reducible refine (HT.out _ _ T3.out.c).mono ?_); rintro e w7 ⟨rfl, c7, g7⟩; have TA7 := Lib.hid (T3.out.right c7 g7); have A7 := Lib.hid (A3.out.trans TA7.out.2); clear c7 g7 a0 a1; have a0 := TA7.out.1.var.cell (j := 0) rfl; have a1 := TA7.out.1.var.cell (j := 1) rfl; unfold ptr at a0 a1)
      | (go_at_call 51; (with_reducible refine (HPR.out _ _ TA7.out.1.f).mono ?_); rintro e w8 ⟨rfl, S8, f8, g8⟩; have TA8 := Lib.hid (TA7.out.1.left f8 g8); have A8 := Lib.hid (A7.out.trans TA8.out.2); clear f8 g8 a0 a1))
    go_ret2
    exact ⟨rfl, S8, TA8.out.1, A8.out⟩
set_option maxRecDepth 100000 in
set_option maxHeartbeats 8000000 in
theorem app_wno {w : World} {t p q : Nat} {x : Tp} {S R : Nat → Prop} (h : RAt w t p q x S R) (hd : x.Ok) (f : Fr) (hs : f.body.length ≤ maxLen) (h1 : (bytesG x.geo f).2 = 0) (h2 : x.c.left ≠ 0) (h3 : (programD x.d (takeC x.c).1.1 (bytesG x.geo f).1).1 ≠ 0) : Calls Tryz.prog 17 #[.pointer (some ⟨t, 0, none⟩), fV f] w fun e w' => e = .returned (.tuple #[.int .i64 ((appendT x f).1.1 : Int), .int .i64 ((appendT x f).1.2 : Int)]) ∧ ∃ S', RAt w' t p q (appendT x f).2 S' R ∧ After (both S R) w w' (both S' R) := by
  have HZ := Lib.hid (show appendT x f = ((0, (programD x.d (takeC x.c).1.1 (bytesG x.geo f).1).1), ⟨(programD x.d (takeC x.c).1.1 (bytesG x.geo f).1).2, (takeC x.c).2⟩) by unfold appendT; rw [if_neg (by rw [h1]; simp), if_neg h2]; unfold writeT; rw [if_pos h3])
  rw [HZ.out]
  have hfb := Go.Proofs.YtcmjambbdfangaaGreat.Frame.refBytes_any x.geo f hs
  unfold Geom.gV Tp.geo fV at hfb
  have HL := Lib.hid (fun w R (h : DHas w q x.c R) => Chart.dLeft_any h hd.c)
  unfold Chart.ptr at HL
  have H := Lib.hid h
  rw [show bytesG ⟨(x.d.pg : Int), (x.d.pgs : Int), (x.d.rgs : Int)⟩ f = bytesG x.geo f from rfl, h1] at hfb
  have q2 : ((x.c.left : Int) == 0) = false := by simpa using h2
  have HT := Lib.hid (fun w R (h : DHas w q x.c R) => Chart.dTake_any h hd.c)
  unfold Chart.ptr at HT
  have hpr := fun w S (h : RHas w p x.d S) => rProgram h hd.d ((takeC x.c).1.1 : Int) (bs (bytesG x.geo f).1)
  simp only [list_bs] at hpr
  generalize (bytesG x.geo f).1 = B0 at hfb hpr h3 ⊢
  obtain ⟨k3, hk3⟩ : ∃ k3, k3 = (programD x.d (takeC x.c).1.1 B0).1 := ⟨_, rfl⟩
  have q3 : ((k3 : Int) != 0) = true := by rw [hk3]; simpa using h3
  rw [← hk3] at hpr ⊢
  generalize (programD x.d (takeC x.c).1.1 B0).2 = d2 at hpr ⊢
  obtain ⟨N, hN⟩ : ∃ N, N = (takeC x.c).1.1 := ⟨_, rfl⟩
  obtain ⟨c3, hc3⟩ : ∃ c3, c3 = (takeC x.c).2 := ⟨_, rfl⟩
  rw [← hN] at HT hpr
  rw [← hc3] at HT ⊢
  generalize (takeC x.c).1.2 = tb at HT
  have HPR := Lib.hid hpr
  obtain ⟨kd, fa, fb, bd⟩ := f
  obtain ⟨BD, hBD⟩ : ∃ BD, BD = bs bd := ⟨_, rfl⟩
  unfold fV
  simp only at hfb ⊢
  rw [← hBD] at hfb ⊢
  generalize vl fa = va at hfb ⊢
  generalize vl fb = vb at hfb ⊢
  obtain ⟨g0, hg0⟩ : ∃ g0, g0 = x.d.pg := ⟨_, rfl⟩
  obtain ⟨g1, hg1⟩ : ∃ g1, g1 = x.d.pgs := ⟨_, rfl⟩
  obtain ⟨g2, hg2⟩ : ∃ g2, g2 = x.d.rgs := ⟨_, rfl⟩
  rw [← hg0, ← hg1, ← hg2] at hfb
  have HFB : Hid (∀ w, Calls Tryz.prog 49 #[.agg #[.int .i64 (g0 : Int), .int .i64 (g1 : Int), .int .i64 (g2 : Int)], .agg #[.int .i64 kd, .int .u32 va, .int .u32 vb, .string BD]] w fun e w' => e = .returned (.tuple #[.string (bs B0), .int .i64 0]) ∧ Below w.heap.size w w') := hfb
  have HDC : Hid (∀ w S, RHas w p x.d S → w.cell? ⟨p, 0, none⟩ = some (.int .i64 (g0 : Int)) ∧ w.cell? ⟨p, 1, none⟩ = some (.int .i64 (g1 : Int)) ∧ w.cell? ⟨p, 2, none⟩ = some (.int .i64 (g2 : Int))) := fun w S h => by rw [hg0, hg1, hg2]; exact rCells h
  clear h HZ hfb hs h1 h2 h3 hpr hN hc3 hk3 hg0 hg1 hg2 hBD
  obtain ⟨w1, hw1⟩ : ∃ w1, w1 = w.alloc (.cells #[.int .i64 kd, .int .u32 va, .int .u32 vb, .string BD] 31) := ⟨_, rfl⟩
  have B1 := Lib.hid (show Below w.heap.size w w1 by rw [hw1]; exact Geom.bel_alloc _ _)
  have T1 := Lib.hid (H.out.below B1.out)
  have V1 := Lib.hid (show Var w1 w.heap.size 31 [.int .i64 kd, .int .u32 va, .int .u32 vb, .string BD] by rw [hw1]; exact Var.new _ _ _)
  go_enter Tryz.func17, Tryz.ntmps17
  go_wp2
  rw [← hw1]
  clear hw1
  refine wp_region_is [18, 19, 20, 21, 22, 23, 24, 25, 26, 17, 27, 28, 6, 7] (fun w' => Below w1.heap.size w1 w')
    [.pointer (some ⟨t, 0, none⟩), .pointer (some ⟨t, 0, none⟩), .pointer (some ⟨t, 0, none⟩), .pointer (some ⟨p, 0, none⟩), .pointer (some ⟨p, 0, none⟩), .pointer (some ⟨p, 0, none⟩), .agg #[.int .i64 (g0 : Int), .int .i64 (g1 : Int), .int .i64 (g2 : Int)], .agg #[.int .i64 kd, .int .u32 va, .int .u32 vb, .string BD], .tuple #[.string (bs B0), .int .i64 0], .tuple #[.string (bs B0), .int .i64 0], .string (bs B0), .int .i64 0, .string (bs B0), .int .i64 0] (by kernel_rfl) (by kernel_rfl) rfl (by decide) (by simp) (Below.refl _ _).drew ?each ?done
  case each =>
    simp only [Each]
    repeat' (first | exact trivial | refine And.intro ?_ ?_)
    all_goals
      intro ys wx hBx hdeps
      simp only [Deps, Region.binds, List.getD_cons_zero, List.getD_cons_succ, forall_const, and_true] at hdeps
      have u0 := (T1.out.below hBx).var.cell (j := 0) rfl
      unfold ptr at u0
      have dd := HDC.out _ _ (T1.out.below hBx).f
      have e0 := dd.1
      have e1 := dd.2.1
      have e2 := dd.2.2
      clear dd
      have v0 := (V1.out.below hBx V1.out.lt).cell (j := 0) rfl
      have v1 := (V1.out.below hBx V1.out.lt).cell (j := 1) rfl
      have v2 := (V1.out.below hBx V1.out.lt).cell (j := 2) rfl
      have v3 := (V1.out.below hBx V1.out.lt).cell (j := 3) rfl
      simp only [hdeps, fill, List.foldl_cons, List.foldl_nil, Act.put, List.setIfInBounds_toArray, List.set_cons_succ, List.set_cons_zero]
      first
        | (go_wp2_with fail; exact ⟨_, rfl, rfl, hBx, Below.refl _ _⟩)
        | (go_wp2_with (go_at_call 49; (with_reducible refine (HFB.out _).mono ?_); rintro e w3 ⟨rfl, hm⟩); exact ⟨_, rfl, rfl, hBx.trans (hm.mono hBx.size), hm⟩)
  case done =>
    intro ys wx hBx hV
    have h6 : ys 6 = .string (bs B0) := hV 12 (by decide)
    have h7 : ys 7 = .int .i64 0 := hV 13 (by decide)
    have B2 := Lib.hid (B1.out.trans (hBx.mono B1.out.size))
    have T2 := Lib.hid (T1.out.below hBx)
    clear hBx hV V1 T1
    have a0 := T2.out.var.cell (j := 0) rfl
    have a1 := T2.out.var.cell (j := 1) rfl
    unfold ptr at a0 a1
    simp only [h6, h7, fill, List.drop_succ_cons, List.drop_zero, List.foldl_cons, List.foldl_nil, Act.put, List.setIfInBounds_toArray, List.set_cons_succ, List.set_cons_zero]
    go_wp2_with (first
      | (go_at_call 23; (with_reducible refine (HL.out _ _ T2.out.c).mono ?_); rintro e w3 ⟨rfl, b3⟩; have T3 := Lib.hid (T2.out.below b3); have A3 := Lib.hid (show After (both S R) w w3 (both S R) from ⟨Grows.of_below (B2.out.trans (b3.mono B2.out.size)), fun k hk => .inl hk⟩); clear b3 a0 a1; have a0 := T3.out.var.cell (j := 0) rfl; have a1 := T3.out.var.cell (j := 1) rfl; unfold ptr at a0 a1)
      | (go_at_call 52; (with_reducible refine (HT.out _ _ T3.out.c).mono ?_); rintro e w7 ⟨rfl, c7, g7⟩; have TA7 := Lib.hid (T3.out.right c7 g7); have A7 := Lib.hid (A3.out.trans TA7.out.2); clear c7 g7 a0 a1; have a0 := TA7.out.1.var.cell (j := 0) rfl; have a1 := TA7.out.1.var.cell (j := 1) rfl; unfold ptr at a0 a1)
      | (go_at_call 51; (with_reducible refine (HPR.out _ _ TA7.out.1.f).mono ?_); rintro e w8 ⟨rfl, S8, f8, g8⟩; have TA8 := Lib.hid (TA7.out.1.left f8 g8); have A8 := Lib.hid (A7.out.trans TA8.out.2); clear f8 g8 a0 a1))
    go_ret2
    exact ⟨rfl, S8, TA8.out.1, A8.out⟩
set_option maxRecDepth 100000 in
set_option maxHeartbeats 8000000 in
theorem app_full {w : World} {t p q : Nat} {x : Tp} {S R : Nat → Prop} (h : RAt w t p q x S R) (hd : x.Ok) (f : Fr) (hs : f.body.length ≤ maxLen) (h1 : (bytesG x.geo f).2 = 0) (h2 : x.c.left = 0) (h3 : (openC x.c).1.2.2 = false) : Calls Tryz.prog 17 #[.pointer (some ⟨t, 0, none⟩), fV f] w fun e w' => e = .returned (.tuple #[.int .i64 ((appendT x f).1.1 : Int), .int .i64 ((appendT x f).1.2 : Int)]) ∧ ∃ S', RAt w' t p q (appendT x f).2 S' R ∧ After (both S R) w w' (both S' R) := by
  have HZ := Lib.hid (show appendT x f = ((0, 8), ⟨x.d, (openC x.c).2⟩) by unfold appendT; rw [if_neg (by rw [h1]; simp), if_pos h2]; unfold openT; rw [if_pos h3]; rw [if_pos (by simp)])
  rw [HZ.out]
  have hfb := Go.Proofs.YtcmjambbdfangaaGreat.Frame.refBytes_any x.geo f hs
  unfold Geom.gV Tp.geo fV at hfb
  have HL := Lib.hid (fun w R (h : DHas w q x.c R) => Chart.dLeft_any h hd.c)
  unfold Chart.ptr at HL
  have H := Lib.hid h
  rw [show bytesG ⟨(x.d.pg : Int), (x.d.pgs : Int), (x.d.rgs : Int)⟩ f = bytesG x.geo f from rfl, h1] at hfb
  rw [h2] at HL
  have HO := Lib.hid (fun w R (h : DHas w q x.c R) => Chart.dOpen_any h hd.c)
  unfold Chart.ptr at HO
  rw [h3] at HO
  generalize (openC x.c).1.1 = o1 at HO
  generalize (openC x.c).1.2.1 = o2 at HO
  generalize (openC x.c).2 = c2 at HO ⊢
  generalize (bytesG x.geo f).1 = B0 at hfb
  obtain ⟨kd, fa, fb, bd⟩ := f
  obtain ⟨BD, hBD⟩ : ∃ BD, BD = bs bd := ⟨_, rfl⟩
  unfold fV
  simp only at hfb ⊢
  rw [← hBD] at hfb ⊢
  generalize vl fa = va at hfb ⊢
  generalize vl fb = vb at hfb ⊢
  obtain ⟨g0, hg0⟩ : ∃ g0, g0 = x.d.pg := ⟨_, rfl⟩
  obtain ⟨g1, hg1⟩ : ∃ g1, g1 = x.d.pgs := ⟨_, rfl⟩
  obtain ⟨g2, hg2⟩ : ∃ g2, g2 = x.d.rgs := ⟨_, rfl⟩
  rw [← hg0, ← hg1, ← hg2] at hfb
  have HFB : Hid (∀ w, Calls Tryz.prog 49 #[.agg #[.int .i64 (g0 : Int), .int .i64 (g1 : Int), .int .i64 (g2 : Int)], .agg #[.int .i64 kd, .int .u32 va, .int .u32 vb, .string BD]] w fun e w' => e = .returned (.tuple #[.string (bs B0), .int .i64 0]) ∧ Below w.heap.size w w') := hfb
  have HDC : Hid (∀ w S, RHas w p x.d S → w.cell? ⟨p, 0, none⟩ = some (.int .i64 (g0 : Int)) ∧ w.cell? ⟨p, 1, none⟩ = some (.int .i64 (g1 : Int)) ∧ w.cell? ⟨p, 2, none⟩ = some (.int .i64 (g2 : Int))) := fun w S h => by rw [hg0, hg1, hg2]; exact rCells h
  clear h HZ hfb hs h1 h2 h3 hg0 hg1 hg2 hBD
  obtain ⟨w1, hw1⟩ : ∃ w1, w1 = w.alloc (.cells #[.int .i64 kd, .int .u32 va, .int .u32 vb, .string BD] 31) := ⟨_, rfl⟩
  have B1 := Lib.hid (show Below w.heap.size w w1 by rw [hw1]; exact Geom.bel_alloc _ _)
  have T1 := Lib.hid (H.out.below B1.out)
  have V1 := Lib.hid (show Var w1 w.heap.size 31 [.int .i64 kd, .int .u32 va, .int .u32 vb, .string BD] by rw [hw1]; exact Var.new _ _ _)
  go_enter Tryz.func17, Tryz.ntmps17
  go_wp2
  rw [← hw1]
  clear hw1
  refine wp_region_is [18, 19, 20, 21, 22, 23, 24, 25, 26, 17, 27, 28, 6, 7] (fun w' => Below w1.heap.size w1 w')
    [.pointer (some ⟨t, 0, none⟩), .pointer (some ⟨t, 0, none⟩), .pointer (some ⟨t, 0, none⟩), .pointer (some ⟨p, 0, none⟩), .pointer (some ⟨p, 0, none⟩), .pointer (some ⟨p, 0, none⟩), .agg #[.int .i64 (g0 : Int), .int .i64 (g1 : Int), .int .i64 (g2 : Int)], .agg #[.int .i64 kd, .int .u32 va, .int .u32 vb, .string BD], .tuple #[.string (bs B0), .int .i64 0], .tuple #[.string (bs B0), .int .i64 0], .string (bs B0), .int .i64 0, .string (bs B0), .int .i64 0] (by kernel_rfl) (by kernel_rfl) rfl (by decide) (by simp) (Below.refl _ _).drew ?each ?done
  case each =>
    simp only [Each]
    repeat' (first | exact trivial | refine And.intro ?_ ?_)
    all_goals
      intro ys wx hBx hdeps
      simp only [Deps, Region.binds, List.getD_cons_zero, List.getD_cons_succ, forall_const, and_true] at hdeps
      have u0 := (T1.out.below hBx).var.cell (j := 0) rfl
      unfold ptr at u0
      have dd := HDC.out _ _ (T1.out.below hBx).f
      have e0 := dd.1
      have e1 := dd.2.1
      have e2 := dd.2.2
      clear dd
      have v0 := (V1.out.below hBx V1.out.lt).cell (j := 0) rfl
      have v1 := (V1.out.below hBx V1.out.lt).cell (j := 1) rfl
      have v2 := (V1.out.below hBx V1.out.lt).cell (j := 2) rfl
      have v3 := (V1.out.below hBx V1.out.lt).cell (j := 3) rfl
      simp only [hdeps, fill, List.foldl_cons, List.foldl_nil, Act.put, List.setIfInBounds_toArray, List.set_cons_succ, List.set_cons_zero]
      first
        | (go_wp2_with fail; exact ⟨_, rfl, rfl, hBx, Below.refl _ _⟩)
        | (go_wp2_with (go_at_call 49; (with_reducible refine (HFB.out _).mono ?_); rintro e w3 ⟨rfl, hm⟩); exact ⟨_, rfl, rfl, hBx.trans (hm.mono hBx.size), hm⟩)
  case done =>
    intro ys wx hBx hV
    have h6 : ys 6 = .string (bs B0) := hV 12 (by decide)
    have h7 : ys 7 = .int .i64 0 := hV 13 (by decide)
    have B2 := Lib.hid (B1.out.trans (hBx.mono B1.out.size))
    have T2 := Lib.hid (T1.out.below hBx)
    clear hBx hV V1 T1
    have a0 := T2.out.var.cell (j := 0) rfl
    have a1 := T2.out.var.cell (j := 1) rfl
    unfold ptr at a0 a1
    simp only [h6, h7, fill, List.drop_succ_cons, List.drop_zero, List.foldl_cons, List.foldl_nil, Act.put, List.setIfInBounds_toArray, List.set_cons_succ, List.set_cons_zero]
    go_wp2_with (first
      | (go_at_call 23; (with_reducible refine (HL.out _ _ T2.out.c).mono ?_); rintro e w3 ⟨rfl, b3⟩; have T3 := Lib.hid (T2.out.below b3); have A3 := Lib.hid (show After (both S R) w w3 (both S R) from ⟨Grows.of_below (B2.out.trans (b3.mono B2.out.size)), fun k hk => .inl hk⟩); clear b3 a0 a1; have a0 := T3.out.var.cell (j := 0) rfl; have a1 := T3.out.var.cell (j := 1) rfl; unfold ptr at a0 a1)
      | (go_at_call 50; (with_reducible refine (HO.out _ _ T3.out.c).mono ?_); rintro e w4 ⟨rfl, c4, g4⟩; have TA4 := Lib.hid (T3.out.right c4 g4); have A4 := Lib.hid (A3.out.trans TA4.out.2); have T4 := Lib.hid TA4.out.1; clear c4 g4 a0 a1; have a0 := T4.out.var.cell (j := 0) rfl; have a1 := T4.out.var.cell (j := 1) rfl; unfold ptr at a0 a1))
    go_ret2
    exact ⟨rfl, S, T4.out, A4.out⟩
set_option maxRecDepth 100000 in
set_option maxHeartbeats 8000000 in
theorem app_head {w : World} {t p q : Nat} {x : Tp} {S R : Nat → Prop} (h : RAt w t p q x S R) (hd : x.Ok) (f : Fr) (hs : f.body.length ≤ maxLen) (h1 : (bytesG x.geo f).2 = 0) (h2 : x.c.left = 0) (h4 : (openC x.c).1.2.2 = true) (h3 : (openT x).1 ≠ 0) : Calls Tryz.prog 17 #[.pointer (some ⟨t, 0, none⟩), fV f] w fun e w' => e = .returned (.tuple #[.int .i64 ((appendT x f).1.1 : Int), .int .i64 ((appendT x f).1.2 : Int)]) ∧ ∃ S', RAt w' t p q (appendT x f).2 S' R ∧ After (both S R) w w' (both S' R) := by
  have HZ := Lib.hid (show appendT x f = ((0, (openT x).1), (openT x).2) by unfold appendT; rw [if_neg (by rw [h1]; simp), if_pos h2, if_pos h3])
  rw [HZ.out]
  have hfb := Go.Proofs.YtcmjambbdfangaaGreat.Frame.refBytes_any x.geo f hs
  unfold Geom.gV Tp.geo fV at hfb
  have HL := Lib.hid (fun w R (h : DHas w q x.c R) => Chart.dLeft_any h hd.c)
  unfold Chart.ptr at HL
  have H := Lib.hid h
  rw [show bytesG ⟨(x.d.pg : Int), (x.d.pgs : Int), (x.d.rgs : Int)⟩ f = bytesG x.geo f from rfl, h1] at hfb
  rw [h2] at HL
  have HO := Lib.hid (fun w R (h : DHas w q x.c R) => Chart.dOpen_any h hd.c)
  unfold Chart.ptr at HO
  obtain ⟨s1, s2, s3⟩ := open_says hd.c h4
  have s4 := hd.c.r1
  have s6 := hd.rgs
  have s7 := hd.d.s1
  have hot : openT x = ((programD x.d (((openC x.c).1.1 * x.d.pgs : Nat) : Int) (headB x)).1, ⟨(programD x.d (((openC x.c).1.1 * x.d.pgs : Nat) : Int) (headB x)).2, (openC x.c).2⟩) := by unfold openT; rw [h4, if_neg (by simp)]
  have hyo := open_ok hd
  rw [h4] at HO
  have hB : headB x = page x.d.pg (headF (openC x.c).1.2.1 (openC x.c).1.1) := rfl
  obtain ⟨HB, hHB⟩ : ∃ HB, HB = headB x := ⟨_, rfl⟩
  have hfh := Go.Proofs.YtcmjambbdfangaaGreat.Frame.refBytes_any x.geo (headF (openC x.c).1.2.1 (openC x.c).1.1) (by show 0 ≤ maxLen; omega)
  rw [head_bytes hd, ← hB, ← hHB] at hfh
  unfold fV headF Geom.gV Tp.geo at hfh
  have hph := fun w S (h : RHas w p x.d S) => rProgram h hd.d (((openC x.c).1.1 * x.d.pgs : Nat) : Int) (bs HB)
  simp only [list_bs] at hph
  rw [← hHB] at hot
  obtain ⟨c2, hc2⟩ : ∃ c2, c2 = (openC x.c).2 := ⟨_, rfl⟩
  rw [← hc2] at HO hot
  obtain ⟨r, hr⟩ : ∃ r, r = (openC x.c).1.1 := ⟨_, rfl⟩
  obtain ⟨e, he⟩ : ∃ e, e = (openC x.c).1.2.1 := ⟨_, rfl⟩
  rw [← hr] at HO s1 hfh hph hot
  rw [← he] at HO s2 s3 hfh
  have s5 : r < 12 := by omega
  simp only [vl_ofNat (show e < 4294967296 by omega), vl_ofNat (show r < 4294967296 by omega)] at hfh
  obtain ⟨NN, hNN⟩ : ∃ NN, NN = r * x.d.pgs := ⟨_, rfl⟩
  have hNm : (r : Int) * (x.d.pgs : Int) = (NN : Int) := by rw [hNN, Int.natCast_mul]
  have hNb : NN ≤ 120 := by rw [hNN]; exact Nat.le_trans (Nat.mul_le_mul (show r ≤ 12 by omega) s7) (by omega)
  rw [← hNN] at hph hot
  obtain ⟨k3, hk3⟩ : ∃ k3, k3 = (openT x).1 := ⟨_, rfl⟩
  have q3 : ((k3 : Int) != 0) = true := by rw [hk3]; simpa using h3
  have hk4 : (programD x.d (NN : Int) HB).1 = k3 := by rw [hk3, hot]
  rw [← hk3, hot]
  rw [hk4] at hph
  clear hk4
  generalize (programD x.d (NN : Int) HB).2 = d1 at hph ⊢
  generalize (bytesG x.geo f).1 = B0 at hfb
  have HPH := Lib.hid hph
  obtain ⟨kd, fa, fb, bd⟩ := f
  obtain ⟨BD, hBD⟩ : ∃ BD, BD = bs bd := ⟨_, rfl⟩
  unfold fV
  simp only at hfb ⊢
  rw [← hBD] at hfb ⊢
  generalize vl fa = va at hfb ⊢
  generalize vl fb = vb at hfb ⊢
  obtain ⟨g0, hg0⟩ : ∃ g0, g0 = x.d.pg := ⟨_, rfl⟩
  obtain ⟨g1, hg1⟩ : ∃ g1, g1 = x.d.pgs := ⟨_, rfl⟩
  obtain ⟨g2, hg2⟩ : ∃ g2, g2 = x.d.rgs := ⟨_, rfl⟩
  rw [← hg0, ← hg1, ← hg2] at hfb hfh
  rw [← hg1] at hNm
  have HFB : Hid (∀ w, Calls Tryz.prog 49 #[.agg #[.int .i64 (g0 : Int), .int .i64 (g1 : Int), .int .i64 (g2 : Int)], .agg #[.int .i64 kd, .int .u32 va, .int .u32 vb, .string BD]] w fun e w' => e = .returned (.tuple #[.string (bs B0), .int .i64 0]) ∧ Below w.heap.size w w') := hfb
  have HFH : Hid (∀ w, Calls Tryz.prog 49 #[.agg #[.int .i64 (g0 : Int), .int .i64 (g1 : Int), .int .i64 (g2 : Int)], .agg #[.int .i64 1, .int .u32 (e : Int), .int .u32 (r : Int), .string ⟨#[]⟩]] w fun e w' => e = .returned (.tuple #[.string (bs HB), .int .i64 0]) ∧ Below w.heap.size w w') := hfh
  have HDC : Hid (∀ w S, RHas w p x.d S → w.cell? ⟨p, 0, none⟩ = some (.int .i64 (g0 : Int)) ∧ w.cell? ⟨p, 1, none⟩ = some (.int .i64 (g1 : Int)) ∧ w.cell? ⟨p, 2, none⟩ = some (.int .i64 (g2 : Int))) := fun w S h => by rw [hg0, hg1, hg2]; exact rCells h
  clear h HZ hfb hs h1 h2 h3 hk3 hot hB hHB hfh hph hc2 hr he s1 s2 s3 s4 s6 s7 hNN hyo h4 hg0 hg1 hg2 hBD
  obtain ⟨w1, hw1⟩ : ∃ w1, w1 = w.alloc (.cells #[.int .i64 kd, .int .u32 va, .int .u32 vb, .string BD] 31) := ⟨_, rfl⟩
  have B1 := Lib.hid (show Below w.heap.size w w1 by rw [hw1]; exact Geom.bel_alloc _ _)
  have T1 := Lib.hid (H.out.below B1.out)
  have V1 := Lib.hid (show Var w1 w.heap.size 31 [.int .i64 kd, .int .u32 va, .int .u32 vb, .string BD] by rw [hw1]; exact Var.new _ _ _)
  go_enter Tryz.func17, Tryz.ntmps17
  go_wp2
  rw [← hw1]
  clear hw1
  refine wp_region_is [18, 19, 20, 21, 22, 23, 24, 25, 26, 17, 27, 28, 6, 7] (fun w' => Below w1.heap.size w1 w')
    [.pointer (some ⟨t, 0, none⟩), .pointer (some ⟨t, 0, none⟩), .pointer (some ⟨t, 0, none⟩), .pointer (some ⟨p, 0, none⟩), .pointer (some ⟨p, 0, none⟩), .pointer (some ⟨p, 0, none⟩), .agg #[.int .i64 (g0 : Int), .int .i64 (g1 : Int), .int .i64 (g2 : Int)], .agg #[.int .i64 kd, .int .u32 va, .int .u32 vb, .string BD], .tuple #[.string (bs B0), .int .i64 0], .tuple #[.string (bs B0), .int .i64 0], .string (bs B0), .int .i64 0, .string (bs B0), .int .i64 0] (by kernel_rfl) (by kernel_rfl) rfl (by decide) (by simp) (Below.refl _ _).drew ?each ?done
  case each =>
    simp only [Each]
    repeat' (first | exact trivial | refine And.intro ?_ ?_)
    all_goals
      intro ys wx hBx hdeps
      simp only [Deps, Region.binds, List.getD_cons_zero, List.getD_cons_succ, forall_const, and_true] at hdeps
      have u0 := (T1.out.below hBx).var.cell (j := 0) rfl
      unfold ptr at u0
      have dd := HDC.out _ _ (T1.out.below hBx).f
      have e0 := dd.1
      have e1 := dd.2.1
      have e2 := dd.2.2
      clear dd
      have v0 := (V1.out.below hBx V1.out.lt).cell (j := 0) rfl
      have v1 := (V1.out.below hBx V1.out.lt).cell (j := 1) rfl
      have v2 := (V1.out.below hBx V1.out.lt).cell (j := 2) rfl
      have v3 := (V1.out.below hBx V1.out.lt).cell (j := 3) rfl
      simp only [hdeps, fill, List.foldl_cons, List.foldl_nil, Act.put, List.setIfInBounds_toArray, List.set_cons_succ, List.set_cons_zero]
      first
        | (go_wp2_with fail; exact ⟨_, rfl, rfl, hBx, Below.refl _ _⟩)
        | (go_wp2_with (go_at_call 49; (with_reducible refine (HFB.out _).mono ?_); rintro e w3 ⟨rfl, hm⟩); exact ⟨_, rfl, rfl, hBx.trans (hm.mono hBx.size), hm⟩)
  case done =>
    intro ys wx hBx hV
    have h6 : ys 6 = .string (bs B0) := hV 12 (by decide)
    have h7 : ys 7 = .int .i64 0 := hV 13 (by decide)
    have B2 := Lib.hid (B1.out.trans (hBx.mono B1.out.size))
    have T2 := Lib.hid (T1.out.below hBx)
    clear hBx hV V1 T1
    have a0 := T2.out.var.cell (j := 0) rfl
    have a1 := T2.out.var.cell (j := 1) rfl
    unfold ptr at a0 a1
    simp only [h6, h7, fill, List.drop_succ_cons, List.drop_zero, List.foldl_cons, List.foldl_nil, Act.put, List.setIfInBounds_toArray, List.set_cons_succ, List.set_cons_zero]
    go_wp2_with (first
      | (go_at_call 23; (with_reducible refine (HL.out _ _ T2.out.c).mono ?_); rintro e w3 ⟨rfl, b3⟩; have T3 := Lib.hid (T2.out.below b3); have A3 := Lib.hid (show After (both S R) w w3 (both S R) from ⟨Grows.of_below (B2.out.trans (b3.mono B2.out.size)), fun k hk => .inl hk⟩); clear b3 a0 a1; have a0 := T3.out.var.cell (j := 0) rfl; have a1 := T3.out.var.cell (j := 1) rfl; unfold ptr at a0 a1)
      | (go_at_call 50; (with_reducible refine (HO.out _ _ T3.out.c).mono ?_); rintro e w4 ⟨rfl, c4, g4⟩; have TA4 := Lib.hid (T3.out.right c4 g4); have A4 := Lib.hid (A3.out.trans TA4.out.2); have T4 := Lib.hid TA4.out.1; clear c4 g4 a0 a1; have a0 := T4.out.var.cell (j := 0) rfl; have a1 := T4.out.var.cell (j := 1) rfl; unfold ptr at a0 a1; have dd := HDC.out _ _ T4.out.f; have e0 := dd.1; have e1 := dd.2.1; have e2 := dd.2.2; clear dd)
      | (go_at_call 49; (with_reducible refine (HFH.out _).mono ?_); rintro e w5 ⟨rfl, b5⟩; have T5 := Lib.hid (T4.out.below b5); have A5 := Lib.hid (show After (both S R) w w5 (both S R) from A4.out.trans ⟨Grows.of_below b5, fun k hk => .inl hk⟩); clear b5 a0 a1 e0 e1 e2))
    refine wp_region_is_tail 15 [64, 65, 66, 67, 68, 69, 70, 71, 72, 73, 74, 75, 76, 77, 78] (fun w' => Below w5.heap.size w5 w')
      [.pointer (some ⟨t, 0, none⟩), .pointer (some ⟨t, 0, none⟩), .pointer (some ⟨t, 0, none⟩), .pointer (some ⟨p, 0, none⟩), .int .i64 (r : Int), .pointer (some ⟨t, 0, none⟩), .pointer (some ⟨t, 0, none⟩), .pointer (some ⟨t, 0, none⟩), .pointer (some ⟨p, 0, none⟩), .pointer (some ⟨p, 0, none⟩), .pointer (some ⟨p, 0, none⟩), .pointer (some ⟨p, 1, none⟩), .int .i64 (g1 : Int), .int .i64 (NN : Int), .string (bs HB)] (by kernel_rfl) (by kernel_rfl) (by kernel_rfl) (by decide) rfl (by decide) (by simp) (Below.refl _ _).drew ?eacht ?donet
    case eacht =>
      simp only [List.take_succ_cons, List.take_zero, Each]
      repeat' (first | exact trivial | refine And.intro ?_ ?_)
      all_goals
        intro ys wx hBx hdeps
        simp only [Deps, Region.binds, List.getD_cons_zero, List.getD_cons_succ, forall_const, and_true] at hdeps
        have u0 := (T5.out.below hBx).var.cell (j := 0) rfl
        unfold ptr at u0
        have dd := HDC.out _ _ (T5.out.below hBx).f
        have e0 := dd.1
        have e1 := dd.2.1
        have e2 := dd.2.2
        clear dd
        simp only [hdeps, fill, List.foldl_cons, List.foldl_nil, Act.put, List.setIfInBounds_toArray, List.set_cons_succ, List.set_cons_zero]
        first
          | (go_wp2_with fail; exact ⟨_, rfl, rfl, hBx, Below.refl _ _⟩)
    case donet =>
      intro ys wx hBx hV
      have h67 : ys 67 = .pointer (some ⟨p, 0, none⟩) := hV 3 (by decide)
      have h77 : ys 77 = .int .i64 (NN : Int) := hV 13 (by decide)
      have h78 : ys 78 = .string (bs HB) := hV 14 (by decide)
      have T9 := Lib.hid (T5.out.below hBx)
      have A9 := Lib.hid (show After (both S R) w wx (both S R) from A5.out.trans ⟨Grows.of_below hBx, fun k hk => .inl hk⟩)
      clear hBx hV
      simp only [h67, h77, h78, fill, List.drop_succ_cons, List.drop_zero, List.foldl_cons, List.foldl_nil, Act.put, List.setIfInBounds_toArray, List.set_cons_succ, List.set_cons_zero]
      go_wp2_with (go_at_call 51; (with_reducible refine (HPH.out _ _ T9.out.f).mono ?_); rintro e w6 ⟨rfl, S6, f6, g6⟩; have TA6 := Lib.hid (T9.out.left f6 g6); have A6 := Lib.hid (A9.out.trans TA6.out.2); have T6 := Lib.hid TA6.out.1; clear f6 g6; have a0 := T6.out.var.cell (j := 0) rfl; have a1 := T6.out.var.cell (j := 1) rfl; unfold ptr at a0 a1)
      go_ret2
      exact ⟨rfl, S6, T6.out, A6.out⟩
set_option maxRecDepth 100000 in
set_option maxHeartbeats 8000000 in
theorem app_nok {w : World} {t p q : Nat} {x : Tp} {S R : Nat → Prop} (h : RAt w t p q x S R) (hd : x.Ok) (f : Fr) (hs : f.body.length ≤ maxLen) (h1 : (bytesG x.geo f).2 = 0) (h2 : x.c.left = 0) (h4 : (openC x.c).1.2.2 = true) (h5 : (openT x).1 = 0) (h3 : (programD (openT x).2.d (takeC (openT x).2.c).1.1 (bytesG x.geo f).1).1 = 0) : Calls Tryz.prog 17 #[.pointer (some ⟨t, 0, none⟩), fV f] w fun e w' => e = .returned (.tuple #[.int .i64 ((appendT x f).1.1 : Int), .int .i64 ((appendT x f).1.2 : Int)]) ∧ ∃ S', RAt w' t p q (appendT x f).2 S' R ∧ After (both S R) w w' (both S' R) := by
  have HZ := Lib.hid (show appendT x f = (((takeC (openT x).2.c).1.1, 0), ⟨(programD (openT x).2.d (takeC (openT x).2.c).1.1 (bytesG x.geo f).1).2, (takeC (openT x).2.c).2⟩) by unfold appendT; rw [if_neg (by rw [h1]; simp), if_pos h2, if_neg (by rw [h5]; simp)]; unfold writeT; rw [if_neg (by rw [h3]; simp)])
  rw [HZ.out]
  have hfb := Go.Proofs.YtcmjambbdfangaaGreat.Frame.refBytes_any x.geo f hs
  unfold Geom.gV Tp.geo fV at hfb
  have HL := Lib.hid (fun w R (h : DHas w q x.c R) => Chart.dLeft_any h hd.c)
  unfold Chart.ptr at HL
  have H := Lib.hid h
  rw [show bytesG ⟨(x.d.pg : Int), (x.d.pgs : Int), (x.d.rgs : Int)⟩ f = bytesG x.geo f from rfl, h1] at hfb
  rw [h2] at HL
  have HO := Lib.hid (fun w R (h : DHas w q x.c R) => Chart.dOpen_any h hd.c)
  unfold Chart.ptr at HO
  obtain ⟨s1, s2, s3⟩ := open_says hd.c h4
  have s4 := hd.c.r1
  have s6 := hd.rgs
  have s7 := hd.d.s1
  have hot : openT x = ((programD x.d (((openC x.c).1.1 * x.d.pgs : Nat) : Int) (headB x)).1, ⟨(programD x.d (((openC x.c).1.1 * x.d.pgs : Nat) : Int) (headB x)).2, (openC x.c).2⟩) := by unfold openT; rw [h4, if_neg (by simp)]
  have hyo := open_ok hd
  rw [h4] at HO
  have hB : headB x = page x.d.pg (headF (openC x.c).1.2.1 (openC x.c).1.1) := rfl
  obtain ⟨HB, hHB⟩ : ∃ HB, HB = headB x := ⟨_, rfl⟩
  have hfh := Go.Proofs.YtcmjambbdfangaaGreat.Frame.refBytes_any x.geo (headF (openC x.c).1.2.1 (openC x.c).1.1) (by show 0 ≤ maxLen; omega)
  rw [head_bytes hd, ← hB, ← hHB] at hfh
  unfold fV headF Geom.gV Tp.geo at hfh
  have hph := fun w S (h : RHas w p x.d S) => rProgram h hd.d (((openC x.c).1.1 * x.d.pgs : Nat) : Int) (bs HB)
  simp only [list_bs] at hph
  rw [← hHB] at hot
  obtain ⟨c2, hc2⟩ : ∃ c2, c2 = (openC x.c).2 := ⟨_, rfl⟩
  rw [← hc2] at HO hot
  obtain ⟨r, hr⟩ : ∃ r, r = (openC x.c).1.1 := ⟨_, rfl⟩
  obtain ⟨e, he⟩ : ∃ e, e = (openC x.c).1.2.1 := ⟨_, rfl⟩
  rw [← hr] at HO s1 hfh hph hot
  rw [← he] at HO s2 s3 hfh
  have s5 : r < 12 := by omega
  simp only [vl_ofNat (show e < 4294967296 by omega), vl_ofNat (show r < 4294967296 by omega)] at hfh
  obtain ⟨NN, hNN⟩ : ∃ NN, NN = r * x.d.pgs := ⟨_, rfl⟩
  have hNm : (r : Int) * (x.d.pgs : Int) = (NN : Int) := by rw [hNN, Int.natCast_mul]
  have hNb : NN ≤ 120 := by rw [hNN]; exact Nat.le_trans (Nat.mul_le_mul (show r ≤ 12 by omega) s7) (by omega)
  rw [← hNN] at hph hot
  have hk4 : (programD x.d (NN : Int) HB).1 = 0 := by rw [← h5, hot]
  rw [hk4] at hph
  clear hk4 h5
  rw [hot] at hyo h3 ⊢
  simp only at hyo h3 ⊢
  generalize (programD x.d (NN : Int) HB).2 = d1 at hph hyo h3 ⊢
  have HPH := Lib.hid hph
  have HT := Lib.hid (fun w R (h : DHas w q c2 R) => Chart.dTake_any h hyo.c)
  unfold Chart.ptr at HT
  have hpr := fun w S (h : RHas w p d1 S) => rProgram h hyo.d ((takeC c2).1.1 : Int) (bs (bytesG x.geo f).1)
  simp only [list_bs] at hpr
  generalize (bytesG x.geo f).1 = B0 at hfb hpr h3 ⊢
  rw [h3] at hpr
  generalize (programD d1 (takeC c2).1.1 B0).2 = d2 at hpr ⊢
  obtain ⟨N, hN⟩ : ∃ N, N = (takeC c2).1.1 := ⟨_, rfl⟩
  obtain ⟨c3, hc3⟩ : ∃ c3, c3 = (takeC c2).2 := ⟨_, rfl⟩
  rw [← hN] at HT hpr ⊢
  rw [← hc3] at HT ⊢
  generalize (takeC c2).1.2 = tb at HT
  have HPR := Lib.hid hpr
  obtain ⟨kd, fa, fb, bd⟩ := f
  obtain ⟨BD, hBD⟩ : ∃ BD, BD = bs bd := ⟨_, rfl⟩
  unfold fV
  simp only at hfb ⊢
  rw [← hBD] at hfb ⊢
  generalize vl fa = va at hfb ⊢
  generalize vl fb = vb at hfb ⊢
  obtain ⟨g0, hg0⟩ : ∃ g0, g0 = x.d.pg := ⟨_, rfl⟩
  obtain ⟨g1, hg1⟩ : ∃ g1, g1 = x.d.pgs := ⟨_, rfl⟩
  obtain ⟨g2, hg2⟩ : ∃ g2, g2 = x.d.rgs := ⟨_, rfl⟩
  rw [← hg0, ← hg1, ← hg2] at hfb hfh
  rw [← hg1] at hNm
  have HFB : Hid (∀ w, Calls Tryz.prog 49 #[.agg #[.int .i64 (g0 : Int), .int .i64 (g1 : Int), .int .i64 (g2 : Int)], .agg #[.int .i64 kd, .int .u32 va, .int .u32 vb, .string BD]] w fun e w' => e = .returned (.tuple #[.string (bs B0), .int .i64 0]) ∧ Below w.heap.size w w') := hfb
  have HFH : Hid (∀ w, Calls Tryz.prog 49 #[.agg #[.int .i64 (g0 : Int), .int .i64 (g1 : Int), .int .i64 (g2 : Int)], .agg #[.int .i64 1, .int .u32 (e : Int), .int .u32 (r : Int), .string ⟨#[]⟩]] w fun e w' => e = .returned (.tuple #[.string (bs HB), .int .i64 0]) ∧ Below w.heap.size w w') := hfh
  have HDC : Hid (∀ w S, RHas w p x.d S → w.cell? ⟨p, 0, none⟩ = some (.int .i64 (g0 : Int)) ∧ w.cell? ⟨p, 1, none⟩ = some (.int .i64 (g1 : Int)) ∧ w.cell? ⟨p, 2, none⟩ = some (.int .i64 (g2 : Int))) := fun w S h => by rw [hg0, hg1, hg2]; exact rCells h
  clear h HZ hfb hs h1 h2 h3 hpr hN hc3 hot hB hHB hfh hph hc2 hr he s1 s2 s3 s4 s6 s7 hNN hyo h4 hg0 hg1 hg2 hBD
  obtain ⟨w1, hw1⟩ : ∃ w1, w1 = w.alloc (.cells #[.int .i64 kd, .int .u32 va, .int .u32 vb, .string BD] 31) := ⟨_, rfl⟩
  have B1 := Lib.hid (show Below w.heap.size w w1 by rw [hw1]; exact Geom.bel_alloc _ _)
  have T1 := Lib.hid (H.out.below B1.out)
  have V1 := Lib.hid (show Var w1 w.heap.size 31 [.int .i64 kd, .int .u32 va, .int .u32 vb, .string BD] by rw [hw1]; exact Var.new _ _ _)
  go_enter Tryz.func17, Tryz.ntmps17
  go_wp2
  rw [← hw1]
  clear hw1
  refine wp_region_is [18, 19, 20, 21, 22, 23, 24, 25, 26, 17, 27, 28, 6, 7] (fun w' => Below w1.heap.size w1 w')
    [.pointer (some ⟨t, 0, none⟩), .pointer (some ⟨t, 0, none⟩), .pointer (some ⟨t, 0, none⟩), .pointer (some ⟨p, 0, none⟩), .pointer (some ⟨p, 0, none⟩), .pointer (some ⟨p, 0, none⟩), .agg #[.int .i64 (g0 : Int), .int .i64 (g1 : Int), .int .i64 (g2 : Int)], .agg #[.int .i64 kd, .int .u32 va, .int .u32 vb, .string BD], .tuple #[.string (bs B0), .int .i64 0], .tuple #[.string (bs B0), .int .i64 0], .string (bs B0), .int .i64 0, .string (bs B0), .int .i64 0] (by kernel_rfl) (by kernel_rfl) rfl (by decide) (by simp) (Below.refl _ _).drew ?each ?done
  case each =>
    simp only [Each]
    repeat' (first | exact trivial | refine And.intro ?_ ?_)
    all_goals
      intro ys wx hBx hdeps
      simp only [Deps, Region.binds, List.getD_cons_zero, List.getD_cons_succ, forall_const, and_true] at hdeps
      have u0 := (T1.out.below hBx).var.cell (j := 0) rfl
      unfold ptr at u0
      have dd := HDC.out _ _ (T1.out.below hBx).f
      have e0 := dd.1
      have e1 := dd.2.1
      have e2 := dd.2.2
      clear dd
      have v0 := (V1.out.below hBx V1.out.lt).cell (j := 0) rfl
      have v1 := (V1.out.below hBx V1.out.lt).cell (j := 1) rfl
      have v2 := (V1.out.below hBx V1.out.lt).cell (j := 2) rfl
      have v3 := (V1.out.below hBx V1.out.lt).cell (j := 3) rfl
      simp only [hdeps, fill, List.foldl_cons, List.foldl_nil, Act.put, List.setIfInBounds_toArray, List.set_cons_succ, List.set_cons_zero]
      first
        | (go_wp2_with fail; exact ⟨_, rfl, rfl, hBx, Below.refl _ _⟩)
        | (go_wp2_with (go_at_call 49; (with_reducible refine (HFB.out _).mono ?_); rintro e w3 ⟨rfl, hm⟩); exact ⟨_, rfl, rfl, hBx.trans (hm.mono hBx.size), hm⟩)
  case done =>
    intro ys wx hBx hV
    have h6 : ys 6 = .string (bs B0) := hV 12 (by decide)
    have h7 : ys 7 = .int .i64 0 := hV 13 (by decide)
    have B2 := Lib.hid (B1.out.trans (hBx.mono B1.out.size))
    have T2 := Lib.hid (T1.out.below hBx)
    clear hBx hV V1 T1
    have a0 := T2.out.var.cell (j := 0) rfl
    have a1 := T2.out.var.cell (j := 1) rfl
    unfold ptr at a0 a1
    simp only [h6, h7, fill, List.drop_succ_cons, List.drop_zero, List.foldl_cons, List.foldl_nil, Act.put, List.setIfInBounds_toArray, List.set_cons_succ, List.set_cons_zero]
    go_wp2_with (first
      | (go_at_call 23; (with_reducible refine (HL.out _ _ T2.out.c).mono ?_); rintro e w3 ⟨rfl, b3⟩; have T3 := Lib.hid (T2.out.below b3); have A3 := Lib.hid (show After (both S R) w w3 (both S R) from ⟨Grows.of_below (B2.out.trans (b3.mono B2.out.size)), fun k hk => .inl hk⟩); clear b3 a0 a1; have a0 := T3.out.var.cell (j := 0) rfl; have a1 := T3.out.var.cell (j := 1) rfl; unfold ptr at a0 a1)
      | (go_at_call 50; (with_reducible refine (HO.out _ _ T3.out.c).mono ?_); rintro e w4 ⟨rfl, c4, g4⟩; have TA4 := Lib.hid (T3.out.right c4 g4); have A4 := Lib.hid (A3.out.trans TA4.out.2); have T4 := Lib.hid TA4.out.1; clear c4 g4 a0 a1; have a0 := T4.out.var.cell (j := 0) rfl; have a1 := T4.out.var.cell (j := 1) rfl; unfold ptr at a0 a1; have dd := HDC.out _ _ T4.out.f; have e0 := dd.1; have e1 := dd.2.1; have e2 := dd.2.2; clear dd)
      | (go_at_call 49; (with_reducible refine (HFH.out _).mono ?_); rintro e w5 ⟨rfl, b5⟩; have T5 := Lib.hid (T4.out.below b5); have A5 := Lib.hid (show After (both S R) w w5 (both S R) from A4.out.trans ⟨Grows.of_below b5, fun k hk => .inl hk⟩); clear b5 a0 a1 e0 e1 e2))
    refine wp_region_is_tail 15 [64, 65, 66, 67, 68, 69, 70, 71, 72, 73, 74, 75, 76, 77, 78] (fun w' => Below w5.heap.size w5 w')
      [.pointer (some ⟨t, 0, none⟩), .pointer (some ⟨t, 0, none⟩), .pointer (some ⟨t, 0, none⟩), .pointer (some ⟨p, 0, none⟩), .int .i64 (r : Int), .pointer (some ⟨t, 0, none⟩), .pointer (some ⟨t, 0, none⟩), .pointer (some ⟨t, 0, none⟩), .pointer (some ⟨p, 0, none⟩), .pointer (some ⟨p, 0, none⟩), .pointer (some ⟨p, 0, none⟩), .pointer (some ⟨p, 1, none⟩), .int .i64 (g1 : Int), .int .i64 (NN : Int), .string (bs HB)] (by kernel_rfl) (by kernel_rfl) (by kernel_rfl) (by decide) rfl (by decide) (by simp) (Below.refl _ _).drew ?eacht ?donet
    case eacht =>
      simp only [List.take_succ_cons, List.take_zero, Each]
      repeat' (first | exact trivial | refine And.intro ?_ ?_)
      all_goals
        intro ys wx hBx hdeps
        simp only [Deps, Region.binds, List.getD_cons_zero, List.getD_cons_succ, forall_const, and_true] at hdeps
        have u0 := (T5.out.below hBx).var.cell (j := 0) rfl
        unfold ptr at u0
        have dd := HDC.out _ _ (T5.out.below hBx).f
        have e0 := dd.1
        have e1 := dd.2.1
        have e2 := dd.2.2
        clear dd
        simp only [hdeps, fill, List.foldl_cons, List.foldl_nil, Act.put, List.setIfInBounds_toArray, List.set_cons_succ, List.set_cons_zero]
        first
          | (go_wp2_with fail; exact ⟨_, rfl, rfl, hBx, Below.refl _ _⟩)
    case donet =>
      intro ys wx hBx hV
      have h67 : ys 67 = .pointer (some ⟨p, 0, none⟩) := hV 3 (by decide)
      have h77 : ys 77 = .int .i64 (NN : Int) := hV 13 (by decide)
      have h78 : ys 78 = .string (bs HB) := hV 14 (by decide)
      have T9 := Lib.hid (T5.out.below hBx)
      have A9 := Lib.hid (show After (both S R) w wx (both S R) from A5.out.trans ⟨Grows.of_below hBx, fun k hk => .inl hk⟩)
      clear hBx hV
      simp only [h67, h77, h78, fill, List.drop_succ_cons, List.drop_zero, List.foldl_cons, List.foldl_nil, Act.put, List.setIfInBounds_toArray, List.set_cons_succ, List.set_cons_zero]
      go_wp2_with (first
            | (go_at_call 51; (with_reducible refine (HPH.out _ _ T9.out.f).mono ?_); rintro e w6 ⟨rfl, S6, f6, g6⟩; have TA6 := Lib.hid (T9.out.left f6 g6); have A6 := Lib.hid (A9.out.trans TA6.out.2); have T6 := Lib.hid TA6.out.1; clear f6 g6; have a0 := T6.out.var.cell (j := 0) rfl; have a1 := T6.out.var.cell (j := 1) rfl; unfold ptr at a0 a1)
            | (go_at_call 52; (with_reducible refine (HT.out _ _ T6.out.c).mono ?_); rintro e w7 ⟨rfl, c7, g7⟩; have TA7 := Lib.hid (T6.out.right c7 g7); have A7 := Lib.hid (A6.out.trans TA7.out.2); clear c7 g7 a0 a1; have a0 := TA7.out.1.var.cell (j := 0) rfl; have a1 := TA7.out.1.var.cell (j := 1) rfl; unfold ptr at a0 a1)
            | (go_at_call 51; (with_reducible refine (HPR.out _ _ TA7.out.1.f).mono ?_); rintro e w8 ⟨rfl, S8, f8, g8⟩; have TA8 := Lib.hid (TA7.out.1.left f8 g8); have A8 := Lib.hid (A7.out.trans TA8.out.2); clear f8 g8 a0 a1))
      go_ret2
      exact ⟨rfl, S8, TA8.out.1, A8.out⟩
set_option maxRecDepth 100000 in
set_option maxHeartbeats 8000000 in
theorem app_nno {w : World} {t p q : Nat} {x : Tp} {S R : Nat → Prop} (h : RAt w t p q x S R) (hd : x.Ok) (f : Fr) (hs : f.body.length ≤ maxLen) (h1 : (bytesG x.geo f).2 = 0) (h2 : x.c.left = 0) (h4 : (openC x.c).1.2.2 = true) (h5 : (openT x).1 = 0) (h3 : (programD (openT x).2.d (takeC (openT x).2.c).1.1 (bytesG x.geo f).1).1 ≠ 0) : Calls Tryz.prog 17 #[.pointer (some ⟨t, 0, none⟩), fV f] w fun e w' => e = .returned (.tuple #[.int .i64 ((appendT x f).1.1 : Int), .int .i64 ((appendT x f).1.2 : Int)]) ∧ ∃ S', RAt w' t p q (appendT x f).2 S' R ∧ After (both S R) w w' (both S' R) := by
  have HZ := Lib.hid (show appendT x f = ((0, (programD (openT x).2.d (takeC (openT x).2.c).1.1 (bytesG x.geo f).1).1), ⟨(programD (openT x).2.d (takeC (openT x).2.c).1.1 (bytesG x.geo f).1).2, (takeC (openT x).2.c).2⟩) by unfold appendT; rw [if_neg (by rw [h1]; simp), if_pos h2, if_neg (by rw [h5]; simp)]; unfold writeT; rw [if_pos h3])
  rw [HZ.out]
  have hfb := Go.Proofs.YtcmjambbdfangaaGreat.Frame.refBytes_any x.geo f hs
  unfold Geom.gV Tp.geo fV at hfb
  have HL := Lib.hid (fun w R (h : DHas w q x.c R) => Chart.dLeft_any h hd.c)
  unfold Chart.ptr at HL
  have H := Lib.hid h
  rw [show bytesG ⟨(x.d.pg : Int), (x.d.pgs : Int), (x.d.rgs : Int)⟩ f = bytesG x.geo f from rfl, h1] at hfb
  rw [h2] at HL
  have HO := Lib.hid (fun w R (h : DHas w q x.c R) => Chart.dOpen_any h hd.c)
  unfold Chart.ptr at HO
  obtain ⟨s1, s2, s3⟩ := open_says hd.c h4
  have s4 := hd.c.r1
  have s6 := hd.rgs
  have s7 := hd.d.s1
  have hot : openT x = ((programD x.d (((openC x.c).1.1 * x.d.pgs : Nat) : Int) (headB x)).1, ⟨(programD x.d (((openC x.c).1.1 * x.d.pgs : Nat) : Int) (headB x)).2, (openC x.c).2⟩) := by unfold openT; rw [h4, if_neg (by simp)]
  have hyo := open_ok hd
  rw [h4] at HO
  have hB : headB x = page x.d.pg (headF (openC x.c).1.2.1 (openC x.c).1.1) := rfl
  obtain ⟨HB, hHB⟩ : ∃ HB, HB = headB x := ⟨_, rfl⟩
  have hfh := Go.Proofs.YtcmjambbdfangaaGreat.Frame.refBytes_any x.geo (headF (openC x.c).1.2.1 (openC x.c).1.1) (by show 0 ≤ maxLen; omega)
  rw [head_bytes hd, ← hB, ← hHB] at hfh
  unfold fV headF Geom.gV Tp.geo at hfh
  have hph := fun w S (h : RHas w p x.d S) => rProgram h hd.d (((openC x.c).1.1 * x.d.pgs : Nat) : Int) (bs HB)
  simp only [list_bs] at hph
  rw [← hHB] at hot
  obtain ⟨c2, hc2⟩ : ∃ c2, c2 = (openC x.c).2 := ⟨_, rfl⟩
  rw [← hc2] at HO hot
  obtain ⟨r, hr⟩ : ∃ r, r = (openC x.c).1.1 := ⟨_, rfl⟩
  obtain ⟨e, he⟩ : ∃ e, e = (openC x.c).1.2.1 := ⟨_, rfl⟩
  rw [← hr] at HO s1 hfh hph hot
  rw [← he] at HO s2 s3 hfh
  have s5 : r < 12 := by omega
  simp only [vl_ofNat (show e < 4294967296 by omega), vl_ofNat (show r < 4294967296 by omega)] at hfh
  obtain ⟨NN, hNN⟩ : ∃ NN, NN = r * x.d.pgs := ⟨_, rfl⟩
  have hNm : (r : Int) * (x.d.pgs : Int) = (NN : Int) := by rw [hNN, Int.natCast_mul]
  have hNb : NN ≤ 120 := by rw [hNN]; exact Nat.le_trans (Nat.mul_le_mul (show r ≤ 12 by omega) s7) (by omega)
  rw [← hNN] at hph hot
  have hk4 : (programD x.d (NN : Int) HB).1 = 0 := by rw [← h5, hot]
  rw [hk4] at hph
  clear hk4 h5
  rw [hot] at hyo h3 ⊢
  simp only at hyo h3 ⊢
  generalize (programD x.d (NN : Int) HB).2 = d1 at hph hyo h3 ⊢
  have HPH := Lib.hid hph
  have HT := Lib.hid (fun w R (h : DHas w q c2 R) => Chart.dTake_any h hyo.c)
  unfold Chart.ptr at HT
  have hpr := fun w S (h : RHas w p d1 S) => rProgram h hyo.d ((takeC c2).1.1 : Int) (bs (bytesG x.geo f).1)
  simp only [list_bs] at hpr
  generalize (bytesG x.geo f).1 = B0 at hfb hpr h3 ⊢
  obtain ⟨k3, hk3⟩ : ∃ k3, k3 = (programD d1 (takeC c2).1.1 B0).1 := ⟨_, rfl⟩
  have q3 : ((k3 : Int) != 0) = true := by rw [hk3]; simpa using h3
  rw [← hk3] at hpr ⊢
  generalize (programD d1 (takeC c2).1.1 B0).2 = d2 at hpr ⊢
  obtain ⟨N, hN⟩ : ∃ N, N = (takeC c2).1.1 := ⟨_, rfl⟩
  obtain ⟨c3, hc3⟩ : ∃ c3, c3 = (takeC c2).2 := ⟨_, rfl⟩
  rw [← hN] at HT hpr
  rw [← hc3] at HT ⊢
  generalize (takeC c2).1.2 = tb at HT
  have HPR := Lib.hid hpr
  obtain ⟨kd, fa, fb, bd⟩ := f
  obtain ⟨BD, hBD⟩ : ∃ BD, BD = bs bd := ⟨_, rfl⟩
  unfold fV
  simp only at hfb ⊢
  rw [← hBD] at hfb ⊢
  generalize vl fa = va at hfb ⊢
  generalize vl fb = vb at hfb ⊢
  obtain ⟨g0, hg0⟩ : ∃ g0, g0 = x.d.pg := ⟨_, rfl⟩
  obtain ⟨g1, hg1⟩ : ∃ g1, g1 = x.d.pgs := ⟨_, rfl⟩
  obtain ⟨g2, hg2⟩ : ∃ g2, g2 = x.d.rgs := ⟨_, rfl⟩
  rw [← hg0, ← hg1, ← hg2] at hfb hfh
  rw [← hg1] at hNm
  have HFB : Hid (∀ w, Calls Tryz.prog 49 #[.agg #[.int .i64 (g0 : Int), .int .i64 (g1 : Int), .int .i64 (g2 : Int)], .agg #[.int .i64 kd, .int .u32 va, .int .u32 vb, .string BD]] w fun e w' => e = .returned (.tuple #[.string (bs B0), .int .i64 0]) ∧ Below w.heap.size w w') := hfb
  have HFH : Hid (∀ w, Calls Tryz.prog 49 #[.agg #[.int .i64 (g0 : Int), .int .i64 (g1 : Int), .int .i64 (g2 : Int)], .agg #[.int .i64 1, .int .u32 (e : Int), .int .u32 (r : Int), .string ⟨#[]⟩]] w fun e w' => e = .returned (.tuple #[.string (bs HB), .int .i64 0]) ∧ Below w.heap.size w w') := hfh
  have HDC : Hid (∀ w S, RHas w p x.d S → w.cell? ⟨p, 0, none⟩ = some (.int .i64 (g0 : Int)) ∧ w.cell? ⟨p, 1, none⟩ = some (.int .i64 (g1 : Int)) ∧ w.cell? ⟨p, 2, none⟩ = some (.int .i64 (g2 : Int))) := fun w S h => by rw [hg0, hg1, hg2]; exact rCells h
  clear h HZ hfb hs h1 h2 h3 hpr hN hc3 hk3 hot hB hHB hfh hph hc2 hr he s1 s2 s3 s4 s6 s7 hNN hyo h4 hg0 hg1 hg2 hBD
  obtain ⟨w1, hw1⟩ : ∃ w1, w1 = w.alloc (.cells #[.int .i64 kd, .int .u32 va, .int .u32 vb, .string BD] 31) := ⟨_, rfl⟩
  have B1 := Lib.hid (show Below w.heap.size w w1 by rw [hw1]; exact Geom.bel_alloc _ _)
  have T1 := Lib.hid (H.out.below B1.out)
  have V1 := Lib.hid (show Var w1 w.heap.size 31 [.int .i64 kd, .int .u32 va, .int .u32 vb, .string BD] by rw [hw1]; exact Var.new _ _ _)
  go_enter Tryz.func17, Tryz.ntmps17
  go_wp2
  rw [← hw1]
  clear hw1
  refine wp_region_is [18, 19, 20, 21, 22, 23, 24, 25, 26, 17, 27, 28, 6, 7] (fun w' => Below w1.heap.size w1 w')
    [.pointer (some ⟨t, 0, none⟩), .pointer (some ⟨t, 0, none⟩), .pointer (some ⟨t, 0, none⟩), .pointer (some ⟨p, 0, none⟩), .pointer (some ⟨p, 0, none⟩), .pointer (some ⟨p, 0, none⟩), .agg #[.int .i64 (g0 : Int), .int .i64 (g1 : Int), .int .i64 (g2 : Int)], .agg #[.int .i64 kd, .int .u32 va, .int .u32 vb, .string BD], .tuple #[.string (bs B0), .int .i64 0], .tuple #[.string (bs B0), .int .i64 0], .string (bs B0), .int .i64 0, .string (bs B0), .int .i64 0] (by kernel_rfl) (by kernel_rfl) rfl (by decide) (by simp) (Below.refl _ _).drew ?each ?done
  case each =>
    simp only [Each]
    repeat' (first | exact trivial | refine And.intro ?_ ?_)
    all_goals
      intro ys wx hBx hdeps
      simp only [Deps, Region.binds, List.getD_cons_zero, List.getD_cons_succ, forall_const, and_true] at hdeps
      have u0 := (T1.out.below hBx).var.cell (j := 0) rfl
      unfold ptr at u0
      have dd := HDC.out _ _ (T1.out.below hBx).f
      have e0 := dd.1
      have e1 := dd.2.1
      have e2 := dd.2.2
      clear dd
      have v0 := (V1.out.below hBx V1.out.lt).cell (j := 0) rfl
      have v1 := (V1.out.below hBx V1.out.lt).cell (j := 1) rfl
      have v2 := (V1.out.below hBx V1.out.lt).cell (j := 2) rfl
      have v3 := (V1.out.below hBx V1.out.lt).cell (j := 3) rfl
      simp only [hdeps, fill, List.foldl_cons, List.foldl_nil, Act.put, List.setIfInBounds_toArray, List.set_cons_succ, List.set_cons_zero]
      first
        | (go_wp2_with fail; exact ⟨_, rfl, rfl, hBx, Below.refl _ _⟩)
        | (go_wp2_with (go_at_call 49; (with_reducible refine (HFB.out _).mono ?_); rintro e w3 ⟨rfl, hm⟩); exact ⟨_, rfl, rfl, hBx.trans (hm.mono hBx.size), hm⟩)
  case done =>
    intro ys wx hBx hV
    have h6 : ys 6 = .string (bs B0) := hV 12 (by decide)
    have h7 : ys 7 = .int .i64 0 := hV 13 (by decide)
    have B2 := Lib.hid (B1.out.trans (hBx.mono B1.out.size))
    have T2 := Lib.hid (T1.out.below hBx)
    clear hBx hV V1 T1
    have a0 := T2.out.var.cell (j := 0) rfl
    have a1 := T2.out.var.cell (j := 1) rfl
    unfold ptr at a0 a1
    simp only [h6, h7, fill, List.drop_succ_cons, List.drop_zero, List.foldl_cons, List.foldl_nil, Act.put, List.setIfInBounds_toArray, List.set_cons_succ, List.set_cons_zero]
    go_wp2_with (first
      | (go_at_call 23; (with_reducible refine (HL.out _ _ T2.out.c).mono ?_); rintro e w3 ⟨rfl, b3⟩; have T3 := Lib.hid (T2.out.below b3); have A3 := Lib.hid (show After (both S R) w w3 (both S R) from ⟨Grows.of_below (B2.out.trans (b3.mono B2.out.size)), fun k hk => .inl hk⟩); clear b3 a0 a1; have a0 := T3.out.var.cell (j := 0) rfl; have a1 := T3.out.var.cell (j := 1) rfl; unfold ptr at a0 a1)
      | (go_at_call 50; (with_reducible refine (HO.out _ _ T3.out.c).mono ?_); rintro e w4 ⟨rfl, c4, g4⟩; have TA4 := Lib.hid (T3.out.right c4 g4); have A4 := Lib.hid (A3.out.trans TA4.out.2); have T4 := Lib.hid TA4.out.1; clear c4 g4 a0 a1; have a0 := T4.out.var.cell (j := 0) rfl; have a1 := T4.out.var.cell (j := 1) rfl; unfold ptr at a0 a1; have dd := HDC.out _ _ T4.out.f; have e0 := dd.1; have e1 := dd.2.1; have e2 := dd.2.2; clear dd)
      | (go_at_call 49; (with_reducible refine (HFH.out _).mono ?_); rintro e w5 ⟨rfl, b5⟩; have T5 := Lib.hid (T4.out.below b5); have A5 := Lib.hid (show After (both S R) w w5 (both S R) from A4.out.trans ⟨Grows.of_below b5, fun k hk => .inl hk⟩); clear b5 a0 a1 e0 e1 e2))
    refine wp_region_is_tail 15 [64, 65, 66, 67, 68, 69, 70, 71, 72, 73, 74, 75, 76, 77, 78] (fun w' => Below w5.heap.size w5 w')
      [.pointer (some ⟨t, 0, none⟩), .pointer (some ⟨t, 0, none⟩), .pointer (some ⟨t, 0, none⟩), .pointer (some ⟨p, 0, none⟩), .int .i64 (r : Int), .pointer (some ⟨t, 0, none⟩), .pointer (some ⟨t, 0, none⟩), .pointer (some ⟨t, 0, none⟩), .pointer (some ⟨p, 0, none⟩), .pointer (some ⟨p, 0, none⟩), .pointer (some ⟨p, 0, none⟩), .pointer (some ⟨p, 1, none⟩), .int .i64 (g1 : Int), .int .i64 (NN : Int), .string (bs HB)] (by kernel_rfl) (by kernel_rfl) (by kernel_rfl) (by decide) rfl (by decide) (by simp) (Below.refl _ _).drew ?eacht ?donet
    case eacht =>
      simp only [List.take_succ_cons, List.take_zero, Each]
      repeat' (first | exact trivial | refine And.intro ?_ ?_)
      all_goals
        intro ys wx hBx hdeps
        simp only [Deps, Region.binds, List.getD_cons_zero, List.getD_cons_succ, forall_const, and_true] at hdeps
        have u0 := (T5.out.below hBx).var.cell (j := 0) rfl
        unfold ptr at u0
        have dd := HDC.out _ _ (T5.out.below hBx).f
        have e0 := dd.1
        have e1 := dd.2.1
        have e2 := dd.2.2
        clear dd
        simp only [hdeps, fill, List.foldl_cons, List.foldl_nil, Act.put, List.setIfInBounds_toArray, List.set_cons_succ, List.set_cons_zero]
        first
          | (go_wp2_with fail; exact ⟨_, rfl, rfl, hBx, Below.refl _ _⟩)
    case donet =>
      intro ys wx hBx hV
      have h67 : ys 67 = .pointer (some ⟨p, 0, none⟩) := hV 3 (by decide)
      have h77 : ys 77 = .int .i64 (NN : Int) := hV 13 (by decide)
      have h78 : ys 78 = .string (bs HB) := hV 14 (by decide)
      have T9 := Lib.hid (T5.out.below hBx)
      have A9 := Lib.hid (show After (both S R) w wx (both S R) from A5.out.trans ⟨Grows.of_below hBx, fun k hk => .inl hk⟩)
      clear hBx hV
      simp only [h67, h77, h78, fill, List.drop_succ_cons, List.drop_zero, List.foldl_cons, List.foldl_nil, Act.put, List.setIfInBounds_toArray, List.set_cons_succ, List.set_cons_zero]
      go_wp2_with (first
            | (go_at_call 51; (with_reducible refine (HPH.out _ _ T9.out.f).mono ?_); rintro e w6 ⟨rfl, S6, f6, g6⟩; have TA6 := Lib.hid (T9.out.left f6 g6); have A6 := Lib.hid (A9.out.trans TA6.out.2); have T6 := Lib.hid TA6.out.1; clear f6 g6; have a0 := T6.out.var.cell (j := 0) rfl; have a1 := T6.out.var.cell (j := 1) rfl; unfold ptr at a0 a1)
            | (go_at_call 52; (with_reducible refine (HT.out _ _ T6.out.c).mono ?_); rintro e w7 ⟨rfl, c7, g7⟩; have TA7 := Lib.hid (T6.out.right c7 g7); have A7 := Lib.hid (A6.out.trans TA7.out.2); clear c7 g7 a0 a1; have a0 := TA7.out.1.var.cell (j := 0) rfl; have a1 := TA7.out.1.var.cell (j := 1) rfl; unfold ptr at a0 a1)
            | (go_at_call 51; (with_reducible refine (HPR.out _ _ TA7.out.1.f).mono ?_); rintro e w8 ⟨rfl, S8, f8, g8⟩; have TA8 := Lib.hid (TA7.out.1.left f8 g8); have A8 := Lib.hid (A7.out.trans TA8.out.2); clear f8 g8 a0 a1))
      go_ret2
      exact ⟨rfl, S8, TA8.out.1, A8.out⟩
theorem refAppend_any {w : World} {t p q : Nat} {x : Tp} {S R : Nat → Prop} (h : RAt w t p q x S R) (hd : x.Ok) (f : Fr) (hs : f.body.length ≤ maxLen) : Calls Tryz.prog 17 #[.pointer (some ⟨t, 0, none⟩), fV f] w fun e w' => e = .returned (.tuple #[.int .i64 ((appendT x f).1.1 : Int), .int .i64 ((appendT x f).1.2 : Int)]) ∧ ∃ S', RAt w' t p q (appendT x f).2 S' R ∧ After (both S R) w w' (both S' R) := by
  by_cases h1 : (bytesG x.geo f).2 = 0
  · by_cases h2 : x.c.left = 0
    · cases h4 : (openC x.c).1.2.2
      · exact app_full h hd f hs h1 h2 h4
      · by_cases h5 : (openT x).1 = 0
        · by_cases h3 : (programD (openT x).2.d (takeC (openT x).2.c).1.1 (bytesG x.geo f).1).1 = 0
          · exact app_nok h hd f hs h1 h2 h4 h5 h3
          · exact app_nno h hd f hs h1 h2 h4 h5 h3
        · exact app_head h hd f hs h1 h2 h4 h5
    · by_cases h3 : (programD x.d (takeC x.c).1.1 (bytesG x.geo f).1).1 = 0
      · exact app_wok h hd f hs h1 h2 h3
      · exact app_wno h hd f hs h1 h2 h3
  · exact app_code h hd f hs h1
end Go.Proofs.YtcmjambbdfangaaGreat.Tape
