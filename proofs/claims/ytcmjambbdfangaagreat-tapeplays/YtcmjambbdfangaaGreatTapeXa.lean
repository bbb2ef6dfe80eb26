/-
  The landed tape: New, Flush, open, Erase.
-/
import Derived.Test.YtcmjambbdfangaaGreatRunTapeR
import Derived.Test.YtcmjambbdfangaaGreatRunRefPiece
import Derived.Test.YtcmjambbdfangaaGreatRunFrameXb
set_option linter.unusedVariables false
set_option linter.unusedSimpArgs false
namespace Go.Proofs.YtcmjambbdfangaaGreat.Tape
open Go.RowKit
open Go.Proofs.YtcmjambbdfangaaGreat.Own
open CrcM (W)
open Crc (vl wd)
open Flash (Dev FHas RHas programD eraseD flushD bs list_bs)
open Chart (Ch CHas DHas openC takeC eraseC setC)
open Go.Proofs.YtcmjambbdfangaaGreat.Frame (Fr fV page bytesG)
open Tup Foot Bytes
open Go.Proofs.YtcmjambbdfangaaGreat.Region (fill Then Deps Each wp_region_is wp_region_is_tail)

theorem geo_eq {d : Dev} {c : Ch} : (decide ((d.pg : Int) = (c.pg : Int)) && decide ((d.pgs : Int) = (c.pgs : Int)) && decide ((d.rgs : Int) = (c.rgs : Int))) = true ↔ c.pg = d.pg ∧ c.pgs = d.pgs ∧ c.rgs = d.rgs := by
  simp only [Bool.and_eq_true, decide_eq_true_eq]; omega
theorem self_int (n : Nat) : ((n : Int) == (n : Int)) = true := by simp
set_option maxRecDepth 100000 in
set_option maxHeartbeats 8000000 in
theorem new_any {w : World} {p q : Nat} {d : Dev} {c : Ch} {S R : Nat → Prop} (hf : FHas w p d S) (hd : d.Ok) (hc : CHas w q c R) (e0 : c.pg = d.pg) (e1 : c.pgs = d.pgs) (e2 : c.rgs = d.rgs) :
    Calls Tryz.prog 28 #[.pointer (some ⟨p, 0, none⟩), .pointer (some ⟨q, 0, none⟩)] w fun e w' => ∃ t w2, e = .returned (.pointer (some ⟨t, 0, none⟩)) ∧ Below w.heap.size w w2 ∧ t = w2.heap.size ∧ Below w2.heap.size w2 w' ∧ Var w' t 71 [ptr p, ptr q] := by
  have HF := Lib.hid (fun w S (h : FHas w p d S) => Flash.fGeom_any h hd)
  have HC := Lib.hid (fun w S (h : CHas w q c S) => Chart.cGeom_any h)
  rw [e0, e1, e2] at HC
  unfold Geom.gV at HF
  unfold Chart.ptr at HC
  generalize d.pg = g0 at HF HC
  generalize d.pgs = g1 at HF HC
  generalize d.rgs = g2 at HF HC
  have q0 : ((g0 : Int) != (g0 : Int)) = false := by simp
  have q1 : ((g1 : Int) != (g1 : Int)) = false := by simp
  have q2 : ((g2 : Int) != (g2 : Int)) = false := by simp
  have HS := Lib.hid hf
  have HT := Lib.hid hc
  clear hf hc e0 e1 e2
  go_enter Tryz.func28, Tryz.ntmps28
  go_wp2_with (first
    | (go_at_call 45; (with_reducible refine (HF.out _ _ HS.out).mono ?_); rintro e w2 ⟨rfl, b2⟩; have HT2 := Lib.hid (HT.out.below b2); have B2 := Lib.hid b2; clear b2)
    | (go_at_call 60; (with_reducible refine (HC.out _ _ HT2.out).mono ?_); rintro e w3 ⟨rfl, b3⟩; have B3 := Lib.hid (bel2 B2.out b3); clear b3))
  go_ret
  exact ⟨_, w3, rfl, B3.out, rfl, Geom.bel_alloc _ _, Var.new _ _ _⟩
theorem new_unlike {w : World} {p q : Nat} {d : Dev} {c : Ch} {S R : Nat → Prop} (hf : FHas w p d S) (hd : d.Ok) (hc : CHas w q c R) (hn : ¬ (d.pg = c.pg ∧ d.pgs = c.pgs ∧ d.rgs = c.rgs)) :
    Calls Tryz.prog 28 #[.pointer (some ⟨p, 0, none⟩), .pointer (some ⟨q, 0, none⟩)] w fun e w' => e = .returned (.pointer none) ∧ Below w.heap.size w w' := by
  have HF := Lib.hid (fun w S (h : FHas w p d S) => Flash.fGeom_any h hd)
  have HC := Lib.hid (fun w S (h : CHas w q c S) => Chart.cGeom_any h)
  unfold Geom.gV at HF
  unfold Chart.ptr at HC
  generalize d.pg = g0 at HF hn
  generalize d.pgs = g1 at HF hn
  generalize d.rgs = g2 at HF hn
  generalize c.pg = h0 at HC hn
  generalize c.pgs = h1 at HC hn
  generalize c.rgs = h2 at HC hn
  have HS := Lib.hid hf
  have HT := Lib.hid hc
  clear hf hc
  by_cases e0 : g0 = h0
  · by_cases e1 : g1 = h1
    · have e2 : g2 ≠ h2 := fun x => hn ⟨e0, e1, x⟩
      have q0 : ((g0 : Int) != (h0 : Int)) = false := by rw [e0]; simp
      have q1 : ((g1 : Int) != (h1 : Int)) = false := by rw [e1]; simp
      have q2 : ((g2 : Int) != (h2 : Int)) = true := by simp; omega
      have q3 : ((g0 : Int) == (h0 : Int)) = true := by rw [e0]; simp
      have q4 : ((g1 : Int) == (h1 : Int)) = true := by rw [e1]; simp
      have q5 : ((g2 : Int) == (h2 : Int)) = false := by simp; omega
      clear e0 e1 e2 hn
      go_enter Tryz.func28, Tryz.ntmps28
      go_wp2_with (first
        | (go_at_call 45; (with_reducible refine (HF.out _ _ HS.out).mono ?_); rintro e w2 ⟨rfl, b2⟩; have HT2 := Lib.hid (HT.out.below b2); have B2 := Lib.hid b2; clear b2)
        | (go_at_call 60; (with_reducible refine (HC.out _ _ HT2.out).mono ?_); rintro e w3 ⟨rfl, b3⟩; have B3 := Lib.hid (bel2 B2.out b3); clear b3))
      go_ret
      exact ⟨rfl, B3.out⟩
    · have q0 : ((g0 : Int) != (h0 : Int)) = false := by rw [e0]; simp
      have q1 : ((g1 : Int) != (h1 : Int)) = true := by simp; omega
      have q3 : ((g0 : Int) == (h0 : Int)) = true := by rw [e0]; simp
      have q4 : ((g1 : Int) == (h1 : Int)) = false := by simp; omega
      clear e0 e1 hn
      go_enter Tryz.func28, Tryz.ntmps28
      go_wp2_with (first
        | (go_at_call 45; (with_reducible refine (HF.out _ _ HS.out).mono ?_); rintro e w2 ⟨rfl, b2⟩; have HT2 := Lib.hid (HT.out.below b2); have B2 := Lib.hid b2; clear b2)
        | (go_at_call 60; (with_reducible refine (HC.out _ _ HT2.out).mono ?_); rintro e w3 ⟨rfl, b3⟩; have B3 := Lib.hid (bel2 B2.out b3); clear b3))
      go_ret
      exact ⟨rfl, B3.out⟩
  · have q0 : ((g0 : Int) != (h0 : Int)) = true := by simp; omega
    have q3 : ((g0 : Int) == (h0 : Int)) = false := by simp; omega
    clear e0 hn
    go_enter Tryz.func28, Tryz.ntmps28
    go_wp2_with (first
      | (go_at_call 45; (with_reducible refine (HF.out _ _ HS.out).mono ?_); rintro e w2 ⟨rfl, b2⟩; have HT2 := Lib.hid (HT.out.below b2); have B2 := Lib.hid b2; clear b2)
      | (go_at_call 60; (with_reducible refine (HC.out _ _ HT2.out).mono ?_); rintro e w3 ⟨rfl, b3⟩; have B3 := Lib.hid (bel2 B2.out b3); clear b3))
    go_ret
    exact ⟨rfl, B3.out⟩
theorem new_nil1 (q : Option Addr) (w : World) : Calls Tryz.prog 28 #[.pointer none, .pointer q] w fun e w' => e = .returned (.pointer none) ∧ w = w' := by
  go_enter Tryz.func28, Tryz.ntmps28
  go_wp2
  go_ret
  exact ⟨rfl, rfl⟩
theorem new_nil2 (p : Nat) (w : World) : Calls Tryz.prog 28 #[.pointer (some ⟨p, 0, none⟩), .pointer none] w fun e w' => e = .returned (.pointer none) ∧ w = w' := by
  go_enter Tryz.func28, Tryz.ntmps28
  go_wp2
  go_ret
  exact ⟨rfl, rfl⟩
set_option maxRecDepth 100000 in
set_option maxHeartbeats 8000000 in
theorem atFlush_any {w : World} {t p q : Nat} {x : Tp} {S R : Nat → Prop} (h : TAt w t p q x S R) (hd : x.Ok) : Calls Tryz.prog 10 #[.pointer (some ⟨t, 0, none⟩)] w fun e w' => e = .returned (.int .i64 ((flushT x).1 : Int)) ∧ ∃ S', TAt w' t p q (flushT x).2 S' R ∧ After (both S R) w w' (both S' R) := by
  have HF := Lib.hid (fun w S (h : FHas w p x.d S) => Flash.fFlush_any h hd.d)
  have H := Lib.hid h
  have a0 := h.var.cell (j := 0) rfl
  unfold ptr at a0
  unfold flushT
  generalize flushD x.d = z at HF ⊢
  obtain ⟨z1, z2⟩ := z
  clear h
  go_enter Tryz.func10, Tryz.ntmps10
  go_wp2_with (go_at_call 33; (with_reducible refine (HF.out _ _ H.out.f).mono ?_); rintro e w2 ⟨rfl, S2, f2, g2⟩)
  go_ret
  exact ⟨rfl, S2, H.out.left f2 g2⟩
theorem flush_nil (w : World) : Calls Tryz.prog 10 #[.pointer none] w fun e w' => e = .returned (.int .i64 1) ∧ w = w' := by
  go_enter Tryz.func10, Tryz.ntmps10
  go_wp2
  go_ret
  exact ⟨rfl, rfl⟩
set_option maxRecDepth 100000 in
set_option maxHeartbeats 8000000 in
theorem open_full {w : World} {t p q : Nat} {x : Tp} {S R : Nat → Prop} (h : TAt w t p q x S R) (hd : x.Ok) (ho : (openC x.c).1.2.2 = false) : Calls Tryz.prog 46 #[.pointer (some ⟨t, 0, none⟩)] w fun e w' => e = .returned (.int .i64 ((openT x).1 : Int)) ∧ ∃ S', TAt w' t p q (openT x).2 S' R ∧ After (both S R) w w' (both S' R) := by
  have HZ := Lib.hid (show openT x = (8, ⟨x.d, (openC x.c).2⟩) by unfold openT; rw [if_pos ho])
  have HO := Lib.hid (fun w R (h : CHas w q x.c R) => Chart.cOpen_any h hd.c)
  unfold Chart.ptr at HO
  obtain ⟨c2, hc2⟩ : ∃ c2, c2 = (openC x.c).2 := ⟨_, rfl⟩
  rw [← hc2] at HO
  have H := Lib.hid h
  have a0 := h.var.cell (j := 0) rfl
  have a1 := h.var.cell (j := 1) rfl
  unfold ptr at a0 a1
  rw [← hc2] at HZ
  rw [HZ.out]
  rw [ho] at HO
  generalize (openC x.c).1.1 = o1 at HO
  generalize (openC x.c).1.2.1 = o2 at HO
  clear h hc2 HZ ho
  go_enter Tryz.func46, Tryz.ntmps46
  go_wp2_with (go_at_call 84; (with_reducible refine (HO.out _ _ H.out.c).mono ?_); rintro e w2 ⟨rfl, k2, g2⟩; have T2 := Lib.hid (H.out.right k2 g2); clear a0 a1 k2 g2; have a0 := T2.out.1.var.cell (j := 0) rfl; unfold ptr at a0)
  go_ret
  exact ⟨rfl, S, T2.out⟩
set_option maxRecDepth 100000 in
set_option maxHeartbeats 8000000 in
theorem open_goes {w : World} {t p q : Nat} {x : Tp} {S R : Nat → Prop} (h : TAt w t p q x S R) (hd : x.Ok) (ho : (openC x.c).1.2.2 = true) : Calls Tryz.prog 46 #[.pointer (some ⟨t, 0, none⟩)] w fun e w' => e = .returned (.int .i64 ((openT x).1 : Int)) ∧ ∃ S', TAt w' t p q (openT x).2 S' R ∧ After (both S R) w w' (both S' R) := by
  obtain ⟨B, hB⟩ : ∃ B, B = headB x := ⟨_, rfl⟩
  have HZ := Lib.hid (show openT x = ((programD x.d (((openC x.c).1.1 * x.d.pgs : Nat) : Int) B).1, ⟨(programD x.d (((openC x.c).1.1 * x.d.pgs : Nat) : Int) B).2, (openC x.c).2⟩) by rw [hB]; unfold openT; rw [ho, if_neg (by simp)])
  have HO := Lib.hid (fun w R (h : CHas w q x.c R) => Chart.cOpen_any h hd.c)
  unfold Chart.ptr at HO
  obtain ⟨c2, hc2⟩ : ∃ c2, c2 = (openC x.c).2 := ⟨_, rfl⟩
  rw [← hc2] at HO
  have H := Lib.hid h
  have a0 := h.var.cell (j := 0) rfl
  have a1 := h.var.cell (j := 1) rfl
  unfold ptr at a0 a1
  rw [← hc2] at HZ
  rw [HZ.out]
  obtain ⟨s1, s2, s3⟩ := open_says hd.c ho
  have s4 := hd.c.r1
  rw [ho] at HO
  unfold headB at hB
  obtain ⟨r, hr⟩ : ∃ r, r = (openC x.c).1.1 := ⟨_, rfl⟩
  obtain ⟨e, he⟩ : ∃ e, e = (openC x.c).1.2.1 := ⟨_, rfl⟩
  rw [← hr] at HO s1 hB ⊢
  rw [← he] at HO s2 s3 hB
  have s5 : r < 12 := by omega
  have hpc := Piece.frame_any (.head (BitVec.ofNat 32 e) (BitVec.ofNat 32 r))
  rw [head_piece s2 s3] at hpc
  unfold Piece.pcV Piece.headV fV headF at hpc
  simp only [vl_ofNat (show e < 4294967296 by omega), vl_ofNat (show r < 4294967296 by omega)] at hpc
  have HPF : Hid (∀ w, Calls Tryz.prog 85 #[.iface 125 (.agg #[.int .u32 (e : Int), .int .u32 (r : Int)])] w fun e' w' => e' = .returned (.tuple #[.agg #[.int .i64 1, .int .u32 (e : Int), .int .u32 (r : Int), .string ⟨#[]⟩], .int .i64 0]) ∧ Below w.heap.size w w') := hpc
  have hfb := Go.Proofs.YtcmjambbdfangaaGreat.Frame.fBytes_any x.geo (headF e r) (by show 0 ≤ maxLen; omega)
  rw [head_bytes hd, ← hB] at hfb
  unfold fV headF Geom.gV Tp.geo at hfb
  simp only [vl_ofNat (show e < 4294967296 by omega), vl_ofNat (show r < 4294967296 by omega)] at hfb
  have hfg := fun w S (h : FHas w p x.d S) => Flash.fGeom_any h hd.d
  unfold Geom.gV at hfg
  have hpg := Geom.page_any x.geo (r : Int) 0
  have hgr := geo_right hd
  have hpv : Geom.pageG x.geo (r : Int) 0 = (((r * x.d.pgs : Nat) : Int), true) := by
    have hs := hd.d.s0
    have hrg := hd.rgs
    unfold Geom.pageG
    rw [if_pos ⟨hgr, by omega, by simp only [Tp.geo]; omega, by omega, by simp only [Tp.geo]; omega⟩]
    simp only [Tp.geo, Int.natCast_mul, Int.add_zero]
  rw [hpv] at hpg
  unfold Geom.gV Tp.geo at hpg
  obtain ⟨N, hN⟩ : ∃ N, N = r * x.d.pgs := ⟨_, rfl⟩
  rw [← hN] at hpg ⊢
  have hpr := fun w S (h : FHas w p x.d S) => Flash.fProgram_any h hd.d (N : Int) (bs B)
  simp only [list_bs] at hpr
  generalize programD x.d (N : Int) B = z at hpr ⊢
  obtain ⟨z1, z2⟩ := z
  generalize hg0 : x.d.pg = g0 at hfb hfg hpg
  generalize hg1 : x.d.pgs = g1 at hfb hfg hpg
  generalize hg2 : x.d.rgs = g2 at hfb hfg hpg
  have HFB : Hid (∀ w, Calls Tryz.prog 44 #[.agg #[.int .i64 (g0 : Int), .int .i64 (g1 : Int), .int .i64 (g2 : Int)], .agg #[.int .i64 1, .int .u32 (e : Int), .int .u32 (r : Int), .string ⟨#[]⟩]] w fun e w' => e = .returned (.tuple #[.string (bs B), .int .i64 0]) ∧ Below w.heap.size w w') := hfb
  have HFG : Hid (∀ w S, FHas w p x.d S → Calls Tryz.prog 45 #[.pointer (some ⟨p, 0, none⟩)] w fun e w' => e = .returned (.agg #[.int .i64 (g0 : Int), .int .i64 (g1 : Int), .int .i64 (g2 : Int)]) ∧ Below w.heap.size w w') := hfg
  have HPG : Hid (∀ w, Calls Tryz.prog 75 #[.agg #[.int .i64 (g0 : Int), .int .i64 (g1 : Int), .int .i64 (g2 : Int)], .int .i64 (r : Int), .int .i64 0] w fun e w' => e = .returned (.tuple #[.int .i64 (N : Int), .bool true]) ∧ Below w.heap.size w w') := hpg
  have HPR := Lib.hid hpr
  clear h hc2 HZ ho hB hr he s1 s2 s3 s4 hpc hfb hfg hpg hpv hgr hN hpr hg0 hg1 hg2
  go_enter Tryz.func46, Tryz.ntmps46
  go_wp2_with (first
    | (go_at_call 84; (with_reducible refine (HO.out _ _ H.out.c).mono ?_); rintro e w2 ⟨rfl, k2, g2⟩; have T2 := Lib.hid (H.out.right k2 g2); clear a0 a1 k2 g2; have a0 := T2.out.1.var.cell (j := 0) rfl; unfold ptr at a0)
    | (go_at_call 85; (with_reducible refine (HPF.out _).mono ?_); rintro e w3 ⟨rfl, b3⟩; have T3 := Lib.hid (T2.out.1.below (b3.trans ((Geom.bel_alloc w3 (.cells #[.int .i64 1, .int .u32 (e : Int), .int .u32 (r : Int), .string ⟨#[]⟩] 31)).mono b3.size))); have B3 := Lib.hid (b3.trans ((Geom.bel_alloc w3 (.cells #[.int .i64 1, .int .u32 (e : Int), .int .u32 (r : Int), .string ⟨#[]⟩] 31)).mono b3.size)); have V3 := Lib.hid (Var.new w3 31 [.int .i64 1, .int .u32 (e : Int), .int .u32 (r : Int), .string ⟨#[]⟩]); clear a0 b3))
  obtain ⟨w4, hw4⟩ : ∃ w4, w4 = w3.alloc (.cells #[.int .i64 1, .int .u32 (e : Int), .int .u32 (r : Int), .string ⟨#[]⟩] 31) := ⟨_, rfl⟩
  rw [← hw4] at T3 B3 V3 ⊢
  clear hw4
  refine wp_region_is [33, 34, 35, 36, 37, 38, 39, 32, 40, 41, 8, 9] (fun w' => Below w4.heap.size w4 w')
    [.pointer (some ⟨t, 0, none⟩), .pointer (some ⟨t, 0, none⟩), .pointer (some ⟨t, 0, none⟩), .pointer (some ⟨p, 0, none⟩), .agg #[.int .i64 (g0 : Int), .int .i64 (g1 : Int), .int .i64 (g2 : Int)], .agg #[.int .i64 1, .int .u32 (e : Int), .int .u32 (r : Int), .string ⟨#[]⟩], .tuple #[.string (bs B), .int .i64 0], .tuple #[.string (bs B), .int .i64 0], .string (bs B), .int .i64 0, .string (bs B), .int .i64 0] (by kernel_rfl) (by kernel_rfl) rfl (by decide) (by simp) (Below.refl _ _).drew ?each ?done
  case each =>
    simp only [Each]
    repeat' (first | exact trivial | refine And.intro ?_ ?_)
    all_goals
      intro ys wx hBx hdeps
      simp only [Deps, Region.binds, List.getD_cons_zero, List.getD_cons_succ, forall_const, and_true] at hdeps
      have u0 := (T3.out.below hBx).var.cell (j := 0) rfl
      unfold ptr at u0
      have v0 := (V3.out.below hBx V3.out.lt).cell (j := 0) rfl
      have v1 := (V3.out.below hBx V3.out.lt).cell (j := 1) rfl
      have v2 := (V3.out.below hBx V3.out.lt).cell (j := 2) rfl
      have v3 := (V3.out.below hBx V3.out.lt).cell (j := 3) rfl
      simp only [hdeps, fill, List.foldl_cons, List.foldl_nil, Act.put, List.setIfInBounds_toArray, List.set_cons_succ, List.set_cons_zero]
      first
        | (go_wp2_with fail; exact ⟨_, rfl, rfl, hBx, Below.refl _ _⟩)
        | (go_wp2_with (go_at_call 45; (with_reducible refine (HFG.out _ _ (T3.out.below hBx).f).mono ?_); rintro e w3 ⟨rfl, hm⟩); exact ⟨_, rfl, rfl, hBx.trans (hm.mono hBx.size), hm⟩)
        | (go_wp2_with (go_at_call 44; (with_reducible refine (HFB.out _).mono ?_); rintro e w3 ⟨rfl, hm⟩); exact ⟨_, rfl, rfl, hBx.trans (hm.mono hBx.size), hm⟩)
  case done =>
    intro ys wx hBx hV
    have h8 : ys 8 = .string (bs B) := hV 10 (by decide)
    have h9 : ys 9 = .int .i64 0 := hV 11 (by decide)
    have T5 := Lib.hid (T3.out.below hBx)
    have B5 := Lib.hid (B3.out.trans (hBx.mono B3.out.size))
    clear hBx hV V3
    have a0 := T5.out.var.cell (j := 0) rfl
    unfold ptr at a0
    simp only [h8, h9, fill, List.drop_succ_cons, List.drop_zero, List.foldl_cons, List.foldl_nil, Act.put, List.setIfInBounds_toArray, List.set_cons_succ, List.set_cons_zero]
    go_wp2_with (first
      | (go_at_call 45; (with_reducible refine (HFG.out _ _ T5.out.f).mono ?_); rintro e w6 ⟨rfl, b6⟩; have T6 := Lib.hid (T5.out.below b6); have B6 := Lib.hid (B5.out.trans (b6.mono B5.out.size)); clear a0 b6)
      | (go_at_call 75; (with_reducible refine (HPG.out _).mono ?_); rintro e w7 ⟨rfl, b7⟩; have T7 := Lib.hid (T6.out.below b7); have B7 := Lib.hid (B6.out.trans (b7.mono B6.out.size)); clear b7; have a0 := T7.out.var.cell (j := 0) rfl; unfold ptr at a0)
      | (go_at_call 48; (with_reducible refine (HPR.out _ _ T7.out.f).mono ?_); rintro e w8 ⟨rfl, S8, f8, g8⟩; have T8 := Lib.hid (T7.out.left f8 g8); clear a0 f8 g8))
    go_ret
    exact ⟨rfl, S8, T8.out.1, (T2.out.2.trans ⟨Grows.of_below B7.out, fun k hk => .inl hk⟩).trans T8.out.2⟩
theorem open_any {w : World} {t p q : Nat} {x : Tp} {S R : Nat → Prop} (h : TAt w t p q x S R) (hd : x.Ok) : Calls Tryz.prog 46 #[.pointer (some ⟨t, 0, none⟩)] w fun e w' => e = .returned (.int .i64 ((openT x).1 : Int)) ∧ ∃ S', TAt w' t p q (openT x).2 S' R ∧ After (both S R) w w' (both S' R) := by
  cases ho : (openC x.c).1.2.2
  · exact open_full h hd ho
  · exact open_goes h hd ho
set_option maxRecDepth 100000 in
set_option maxHeartbeats 8000000 in
theorem erase_no {w : World} {t p q : Nat} {x : Tp} {S R : Nat → Prop} (h : TAt w t p q x S R) (hd : x.Ok) (i : Int) (h1 : (eraseC x.c i).1 ≠ 0) : Calls Tryz.prog 12 #[.pointer (some ⟨t, 0, none⟩), .int .i64 i] w fun e w' => e = .returned (.int .i64 ((eraseT x i).1 : Int)) ∧ ∃ S', TAt w' t p q (eraseT x i).2 S' R ∧ After (both S R) w w' (both S' R) := by
  have HZ := Lib.hid (show eraseT x i = ((eraseC x.c i).1, x) by unfold eraseT; rw [if_pos h1])
  rw [HZ.out]
  have HE := Lib.hid (fun w R (h : CHas w q x.c R) => Chart.cEpoch_any h hd.c i)
  have HU := Lib.hid (fun w R (h : CHas w q x.c R) => Chart.cUsed_any h hd.c i)
  have HC := Lib.hid (fun w R (h : CHas w q x.c R) => Chart.cErase_any h hd.c i)
  have HD := Lib.hid (fun w S (h : FHas w p x.d S) => Flash.fErase_any h hd.d i)
  unfold Chart.ptr at HE HU HC
  have H := Lib.hid h
  have HD0 := Lib.hid hd
  generalize Chart.epochC x.c i = ep at *
  generalize Chart.usedC x.c i = us at *
  obtain ⟨k1, hk1⟩ : ∃ k1, k1 = (eraseC x.c i).1 := ⟨_, rfl⟩
  obtain ⟨c1, hc1⟩ : ∃ c1, c1 = (eraseC x.c i).2 := ⟨_, rfl⟩
  obtain ⟨k2, hk2⟩ : ∃ k2, k2 = (eraseD x.d i).1 := ⟨_, rfl⟩
  obtain ⟨d2, hd2⟩ : ∃ d2, d2 = (eraseD x.d i).2 := ⟨_, rfl⟩
  rw [← hk1] at HC h1
  rw [← hc1] at HC
  have q1 : ((k1 : Int) != 0) = true := by simpa using h1
  rw [← hk1]
  clear HD
  clear h hd HZ hk1 hc1 hk2 hd2 h1
  have a0 := H.out.var.cell (j := 0) rfl
  have a1 := H.out.var.cell (j := 1) rfl
  unfold ptr at a0 a1
  go_enter Tryz.func12, Tryz.ntmps12
  go_wp2
  refine wp_region_is [11, 12, 13, 14, 15, 16, 17, 18, 19, 20, 21, 22, 5, 6] (fun w' => Below w.heap.size w w')
    [.pointer (some ⟨t, 0, none⟩), .pointer (some ⟨t, 0, none⟩), .pointer (some ⟨t, 1, none⟩), .pointer (some ⟨q, 0, none⟩), .int .i64 i, .int .u32 (ep : Int), .pointer (some ⟨t, 0, none⟩), .pointer (some ⟨t, 0, none⟩), .pointer (some ⟨t, 1, none⟩), .pointer (some ⟨q, 0, none⟩), .int .i64 i, .int .i64 (us : Int), .int .u32 (ep : Int), .int .i64 (us : Int)] (by kernel_rfl) (by kernel_rfl) rfl (by decide) (by simp) (Below.refl _ _).drew ?each ?done
  case each =>
    clear a0 a1
    simp only [Each]
    repeat' (first | exact trivial | refine And.intro ?_ ?_)
    all_goals
      intro ys wx hBx hdeps
      simp only [Deps, Region.binds, List.getD_cons_zero, List.getD_cons_succ, forall_const, and_true] at hdeps
      have u1 := (H.out.below hBx).var.cell (j := 1) rfl
      unfold ptr at u1
      simp only [hdeps, fill, List.foldl_cons, List.foldl_nil, Act.put, List.setIfInBounds_toArray, List.set_cons_succ, List.set_cons_zero]
      first
        | (go_wp2_with fail; exact ⟨_, rfl, rfl, hBx, Below.refl _ _⟩)
        | (go_wp2_with (go_at_call 36; (with_reducible refine (HE.out _ _ (H.out.below hBx).c).mono ?_); rintro e w3 ⟨rfl, rfl⟩); exact ⟨_, rfl, rfl, hBx, Below.refl _ _⟩)
        | (go_wp2_with (go_at_call 37; (with_reducible refine (HU.out _ _ (H.out.below hBx).c).mono ?_); rintro e w3 ⟨rfl, rfl⟩); exact ⟨_, rfl, rfl, hBx, Below.refl _ _⟩)
  case done =>
    intro ys wx hBx hV
    have h5 : ys 5 = .int .u32 (ep : Int) := hV 12 (by decide)
    have h6 : ys 6 = .int .i64 (us : Int) := hV 13 (by decide)
    have B1 := Lib.hid hBx
    have T1 := Lib.hid (H.out.below hBx)
    clear hBx hV a0 a1
    have a0 := T1.out.var.cell (j := 0) rfl
    have a1 := T1.out.var.cell (j := 1) rfl
    unfold ptr at a0 a1
    simp only [h5, h6, fill, List.drop_succ_cons, List.drop_zero, List.foldl_cons, List.foldl_nil, Act.put, List.setIfInBounds_toArray, List.set_cons_succ, List.set_cons_zero]
    go_wp2_with (go_at_call 38; (with_reducible refine (HC.out _ _ T1.out.c).mono ?_); rintro e w2 ⟨rfl, c2, g2, z2⟩; have T2 := Lib.hid (T1.out.right c2 g2); clear c2 g2 a0 a1; have Z2 := Lib.hid z2; clear z2; have a0 := T2.out.1.var.cell (j := 0) rfl; have a1 := T2.out.1.var.cell (j := 1) rfl; unfold ptr at a0 a1)
    go_ret
    have hb := Z2.out (by intro e; rw [e] at q1; simp at q1)
    exact ⟨rfl, S, T1.out.below hb, ⟨Grows.of_below (B1.out.trans (hb.mono B1.out.size)), fun k hk => .inl hk⟩⟩
set_option maxRecDepth 100000 in
set_option maxHeartbeats 8000000 in
theorem erase_dev {w : World} {t p q : Nat} {x : Tp} {S R : Nat → Prop} (h : TAt w t p q x S R) (hd : x.Ok) (i : Int) (h1 : (eraseC x.c i).1 = 0) (h2 : (eraseD x.d i).1 ≠ 0) : Calls Tryz.prog 12 #[.pointer (some ⟨t, 0, none⟩), .int .i64 i] w fun e w' => e = .returned (.int .i64 ((eraseT x i).1 : Int)) ∧ ∃ S', TAt w' t p q (eraseT x i).2 S' R ∧ After (both S R) w w' (both S' R) := by
  have HZ := Lib.hid (show eraseT x i = ((eraseD x.d i).1, ⟨(eraseD x.d i).2, x.c⟩) by unfold eraseT; rw [if_neg (by rw [h1]; simp), if_pos h2])
  rw [HZ.out]
  have HE := Lib.hid (fun w R (h : CHas w q x.c R) => Chart.cEpoch_any h hd.c i)
  have HU := Lib.hid (fun w R (h : CHas w q x.c R) => Chart.cUsed_any h hd.c i)
  have HC := Lib.hid (fun w R (h : CHas w q x.c R) => Chart.cErase_any h hd.c i)
  have HD := Lib.hid (fun w S (h : FHas w p x.d S) => Flash.fErase_any h hd.d i)
  unfold Chart.ptr at HE HU HC
  have HS := Lib.hid (fun w R (h : CHas w q (eraseC x.c i).2 R) => Chart.cSet_any h (Chart.erase_keeps hd.c i) i (Chart.epochC x.c i) (Chart.usedC x.c i : Int))
  simp only [set_back hd.c h1] at HS
  unfold Chart.ptr at HS
  have H := Lib.hid h
  have HD0 := Lib.hid hd
  generalize Chart.epochC x.c i = ep at *
  generalize Chart.usedC x.c i = us at *
  obtain ⟨k1, hk1⟩ : ∃ k1, k1 = (eraseC x.c i).1 := ⟨_, rfl⟩
  obtain ⟨c1, hc1⟩ : ∃ c1, c1 = (eraseC x.c i).2 := ⟨_, rfl⟩
  obtain ⟨k2, hk2⟩ : ∃ k2, k2 = (eraseD x.d i).1 := ⟨_, rfl⟩
  obtain ⟨d2, hd2⟩ : ∃ d2, d2 = (eraseD x.d i).2 := ⟨_, rfl⟩
  rw [← hk1] at HC h1
  rw [← hc1] at HC
  rw [h1] at HC
  rw [← hk2] at HD h2
  rw [← hd2] at HD
  have q2 : ((k2 : Int) != 0) = true := by simpa using h2
  rw [← hc1] at HS
  rw [← hk2, ← hd2]
  clear h hd HZ hk1 hc1 hk2 hd2 h1 h2
  have a0 := H.out.var.cell (j := 0) rfl
  have a1 := H.out.var.cell (j := 1) rfl
  unfold ptr at a0 a1
  go_enter Tryz.func12, Tryz.ntmps12
  go_wp2
  refine wp_region_is [11, 12, 13, 14, 15, 16, 17, 18, 19, 20, 21, 22, 5, 6] (fun w' => Below w.heap.size w w')
    [.pointer (some ⟨t, 0, none⟩), .pointer (some ⟨t, 0, none⟩), .pointer (some ⟨t, 1, none⟩), .pointer (some ⟨q, 0, none⟩), .int .i64 i, .int .u32 (ep : Int), .pointer (some ⟨t, 0, none⟩), .pointer (some ⟨t, 0, none⟩), .pointer (some ⟨t, 1, none⟩), .pointer (some ⟨q, 0, none⟩), .int .i64 i, .int .i64 (us : Int), .int .u32 (ep : Int), .int .i64 (us : Int)] (by kernel_rfl) (by kernel_rfl) rfl (by decide) (by simp) (Below.refl _ _).drew ?each ?done
  case each =>
    clear a0 a1
    simp only [Each]
    repeat' (first | exact trivial | refine And.intro ?_ ?_)
    all_goals
      intro ys wx hBx hdeps
      simp only [Deps, Region.binds, List.getD_cons_zero, List.getD_cons_succ, forall_const, and_true] at hdeps
      have u1 := (H.out.below hBx).var.cell (j := 1) rfl
      unfold ptr at u1
      simp only [hdeps, fill, List.foldl_cons, List.foldl_nil, Act.put, List.setIfInBounds_toArray, List.set_cons_succ, List.set_cons_zero]
      first
        | (go_wp2_with fail; exact ⟨_, rfl, rfl, hBx, Below.refl _ _⟩)
        | (go_wp2_with (go_at_call 36; (with_reducible refine (HE.out _ _ (H.out.below hBx).c).mono ?_); rintro e w3 ⟨rfl, rfl⟩); exact ⟨_, rfl, rfl, hBx, Below.refl _ _⟩)
        | (go_wp2_with (go_at_call 37; (with_reducible refine (HU.out _ _ (H.out.below hBx).c).mono ?_); rintro e w3 ⟨rfl, rfl⟩); exact ⟨_, rfl, rfl, hBx, Below.refl _ _⟩)
  case done =>
    intro ys wx hBx hV
    have h5 : ys 5 = .int .u32 (ep : Int) := hV 12 (by decide)
    have h6 : ys 6 = .int .i64 (us : Int) := hV 13 (by decide)
    have B1 := Lib.hid hBx
    have T1 := Lib.hid (H.out.below hBx)
    clear hBx hV a0 a1
    have a0 := T1.out.var.cell (j := 0) rfl
    have a1 := T1.out.var.cell (j := 1) rfl
    unfold ptr at a0 a1
    simp only [h5, h6, fill, List.drop_succ_cons, List.drop_zero, List.foldl_cons, List.foldl_nil, Act.put, List.setIfInBounds_toArray, List.set_cons_succ, List.set_cons_zero]
    go_wp2_with (first
      | (go_at_call 38; (with_reducible refine (HC.out _ _ T1.out.c).mono ?_); rintro e w2 ⟨rfl, c2, g2, z2⟩; have T2 := Lib.hid (T1.out.right c2 g2); clear c2 g2 a0 a1; clear z2; have a0 := T2.out.1.var.cell (j := 0) rfl; have a1 := T2.out.1.var.cell (j := 1) rfl; unfold ptr at a0 a1)
      | (go_at_call 39; (with_reducible refine (HD.out _ _ T2.out.1.f).mono ?_); rintro e w3 ⟨rfl, S3, f3, g3⟩; have T3 := Lib.hid (T2.out.1.left f3 g3); clear f3 g3 a0 a1; have a0 := T3.out.1.var.cell (j := 0) rfl; have a1 := T3.out.1.var.cell (j := 1) rfl; unfold ptr at a0 a1)
      | (go_at_call 40; (with_reducible refine (HS.out _ _ T3.out.1.c).mono ?_); rintro e w4 ⟨rfl, c4, g4, z4⟩; have T4 := Lib.hid (T3.out.1.right c4 g4); clear c4 g4 z4 a0 a1))
    go_ret
    exact ⟨rfl, S3, T4.out.1, ((After.trans (S1 := both S R) ⟨Grows.of_below B1.out, fun k hk => .inl hk⟩ T2.out.2).trans T3.out.2).trans T4.out.2⟩
set_option maxRecDepth 100000 in
set_option maxHeartbeats 8000000 in
theorem eraseOk {w : World} {t p q : Nat} {x : Tp} {S R : Nat → Prop} (h : TAt w t p q x S R) (hd : x.Ok) (i : Int) (h1 : (eraseC x.c i).1 = 0) (h2 : (eraseD x.d i).1 = 0) : Calls Tryz.prog 12 #[.pointer (some ⟨t, 0, none⟩), .int .i64 i] w fun e w' => e = .returned (.int .i64 ((eraseT x i).1 : Int)) ∧ ∃ S', TAt w' t p q (eraseT x i).2 S' R ∧ After (both S R) w w' (both S' R) := by
  have HZ := Lib.hid (show eraseT x i = (0, ⟨(eraseD x.d i).2, (eraseC x.c i).2⟩) by unfold eraseT; rw [if_neg (by rw [h1]; simp), if_neg (by rw [h2]; simp)])
  rw [HZ.out]
  have HE := Lib.hid (fun w R (h : CHas w q x.c R) => Chart.cEpoch_any h hd.c i)
  have HU := Lib.hid (fun w R (h : CHas w q x.c R) => Chart.cUsed_any h hd.c i)
  have HC := Lib.hid (fun w R (h : CHas w q x.c R) => Chart.cErase_any h hd.c i)
  have HD := Lib.hid (fun w S (h : FHas w p x.d S) => Flash.fErase_any h hd.d i)
  unfold Chart.ptr at HE HU HC
  have H := Lib.hid h
  have HD0 := Lib.hid hd
  generalize Chart.epochC x.c i = ep at *
  generalize Chart.usedC x.c i = us at *
  obtain ⟨k1, hk1⟩ : ∃ k1, k1 = (eraseC x.c i).1 := ⟨_, rfl⟩
  obtain ⟨c1, hc1⟩ : ∃ c1, c1 = (eraseC x.c i).2 := ⟨_, rfl⟩
  obtain ⟨k2, hk2⟩ : ∃ k2, k2 = (eraseD x.d i).1 := ⟨_, rfl⟩
  obtain ⟨d2, hd2⟩ : ∃ d2, d2 = (eraseD x.d i).2 := ⟨_, rfl⟩
  rw [← hk1] at HC h1
  rw [← hc1] at HC
  rw [h1] at HC
  rw [← hk2] at HD h2
  rw [← hd2] at HD
  rw [h2] at HD
  rw [← hd2, ← hc1]
  clear h hd HZ hk1 hc1 hk2 hd2 h1 h2
  have a0 := H.out.var.cell (j := 0) rfl
  have a1 := H.out.var.cell (j := 1) rfl
  unfold ptr at a0 a1
  go_enter Tryz.func12, Tryz.ntmps12
  go_wp2
  refine wp_region_is [11, 12, 13, 14, 15, 16, 17, 18, 19, 20, 21, 22, 5, 6] (fun w' => Below w.heap.size w w')
    [.pointer (some ⟨t, 0, none⟩), .pointer (some ⟨t, 0, none⟩), .pointer (some ⟨t, 1, none⟩), .pointer (some ⟨q, 0, none⟩), .int .i64 i, .int .u32 (ep : Int), .pointer (some ⟨t, 0, none⟩), .pointer (some ⟨t, 0, none⟩), .pointer (some ⟨t, 1, none⟩), .pointer (some ⟨q, 0, none⟩), .int .i64 i, .int .i64 (us : Int), .int .u32 (ep : Int), .int .i64 (us : Int)] (by kernel_rfl) (by kernel_rfl) rfl (by decide) (by simp) (Below.refl _ _).drew ?each ?done
  case each =>
    clear a0 a1
    simp only [Each]
    repeat' (first | exact trivial | refine And.intro ?_ ?_)
    all_goals
      intro ys wx hBx hdeps
      simp only [Deps, Region.binds, List.getD_cons_zero, List.getD_cons_succ, forall_const, and_true] at hdeps
      have u1 := (H.out.below hBx).var.cell (j := 1) rfl
      unfold ptr at u1
      simp only [hdeps, fill, List.foldl_cons, List.foldl_nil, Act.put, List.setIfInBounds_toArray, List.set_cons_succ, List.set_cons_zero]
      first
        | (go_wp2_with fail; exact ⟨_, rfl, rfl, hBx, Below.refl _ _⟩)
        | (go_wp2_with (go_at_call 36; (with_reducible refine (HE.out _ _ (H.out.below hBx).c).mono ?_); rintro e w3 ⟨rfl, rfl⟩); exact ⟨_, rfl, rfl, hBx, Below.refl _ _⟩)
        | (go_wp2_with (go_at_call 37; (with_reducible refine (HU.out _ _ (H.out.below hBx).c).mono ?_); rintro e w3 ⟨rfl, rfl⟩); exact ⟨_, rfl, rfl, hBx, Below.refl _ _⟩)
  case done =>
    intro ys wx hBx hV
    have h5 : ys 5 = .int .u32 (ep : Int) := hV 12 (by decide)
    have h6 : ys 6 = .int .i64 (us : Int) := hV 13 (by decide)
    have B1 := Lib.hid hBx
    have T1 := Lib.hid (H.out.below hBx)
    clear hBx hV a0 a1
    have a0 := T1.out.var.cell (j := 0) rfl
    have a1 := T1.out.var.cell (j := 1) rfl
    unfold ptr at a0 a1
    simp only [h5, h6, fill, List.drop_succ_cons, List.drop_zero, List.foldl_cons, List.foldl_nil, Act.put, List.setIfInBounds_toArray, List.set_cons_succ, List.set_cons_zero]
    go_wp2_with (first
      | (go_at_call 38; (with_reducible refine (HC.out _ _ T1.out.c).mono ?_); rintro e w2 ⟨rfl, c2, g2, z2⟩; have T2 := Lib.hid (T1.out.right c2 g2); clear c2 g2 a0 a1; clear z2; have a0 := T2.out.1.var.cell (j := 0) rfl; have a1 := T2.out.1.var.cell (j := 1) rfl; unfold ptr at a0 a1)
      | (go_at_call 39; (with_reducible refine (HD.out _ _ T2.out.1.f).mono ?_); rintro e w3 ⟨rfl, S3, f3, g3⟩; have T3 := Lib.hid (T2.out.1.left f3 g3); clear f3 g3 a0 a1; have a0 := T3.out.1.var.cell (j := 0) rfl; have a1 := T3.out.1.var.cell (j := 1) rfl; unfold ptr at a0 a1))
    go_ret
    exact ⟨rfl, S3, T3.out.1, (After.trans (S1 := both S R) ⟨Grows.of_below B1.out, fun k hk => .inl hk⟩ T2.out.2).trans T3.out.2⟩
theorem atErase_any {w : World} {t p q : Nat} {x : Tp} {S R : Nat → Prop} (h : TAt w t p q x S R) (hd : x.Ok) (i : Int) : Calls Tryz.prog 12 #[.pointer (some ⟨t, 0, none⟩), .int .i64 i] w fun e w' => e = .returned (.int .i64 ((eraseT x i).1 : Int)) ∧ ∃ S', TAt w' t p q (eraseT x i).2 S' R ∧ After (both S R) w w' (both S' R) := by
  by_cases h1 : (eraseC x.c i).1 = 0
  · by_cases h2 : (eraseD x.d i).1 = 0
    · exact eraseOk h hd i h1 h2
    · exact erase_dev h hd i h1 h2
  · exact erase_no h hd i h1
theorem erase_nil (i : Int) (w : World) : Calls Tryz.prog 12 #[.pointer none, .int .i64 i] w fun e w' => e = .returned (.int .i64 1) ∧ w = w' := by
  go_enter Tryz.func12, Tryz.ntmps12
  go_wp2
  go_ret
  exact ⟨rfl, rfl⟩
end Go.Proofs.YtcmjambbdfangaaGreat.Tape
