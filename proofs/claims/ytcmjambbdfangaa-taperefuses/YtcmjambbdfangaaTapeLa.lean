/-
  TapeRefuses' walk.
-/
import Derived.Test.YtcmjambbdfangaaRunTapeL
import Derived.Test.YtcmjambbdfangaaRegionTurn
set_option linter.unusedVariables false
set_option linter.unusedSimpArgs false
namespace Go.Proofs.Ytcmjambbdfangaa.Tape
open Go.RowKit
open Go.Proofs.Ytcmjambbdfangaa.Own
open CrcM (W)
open Crc (vl wd)
open Flash (newD readD Dev FHas RHas programD eraseD flushD bs list_bs)
open Chart (newC pgC Ch CHas DHas openC takeC eraseC setC)
open Go.Proofs.Ytcmjambbdfangaa.Frame (Fr fV page bytesG)
open Tup Foot Bytes
open Go.Proofs.Ytcmjambbdfangaa.Region (fill Then Deps Each wp_region_is wp_region_is_tail wp_region_each wp_region_tail slots TJ TJ2 Each2 Deps2 wp_region_each3 upd put)

theorem bytes_ok {pg pgs rgs : Nat} {f : Fr} (h : (bytesG ⟨pg, pgs, rgs⟩ f).2 = 0) (p0 : 32 ≤ pg) (p1 : pg ≤ 128) : f.Ok pg := by
  unfold Go.Proofs.Ytcmjambbdfangaa.Frame.bytesG Go.Proofs.Ytcmjambbdfangaa.Frame.bytesF at h
  split at h
  · simp at h
  split at h
  · simp at h
  split at h
  · simp at h
  rename_i h1 h2 h3
  simp only [Int.toNat_natCast] at h3
  exact ⟨by omega, by omega, by omega, p0, p1⟩
theorem new_append_code {pg pgs rgs : Nat} (z : Sz pg pgs rgs) (f : Fr) : (appendT (newT pg pgs rgs) f).1.2 = (bytesG ⟨pg, pgs, rgs⟩ f).2 := by
  by_cases h : (bytesG ⟨pg, pgs, rgs⟩ f).2 = 0
  · obtain ⟨t1, h1, _⟩ := append_goes z (t := newT pg pgs rgs) (i := 0) (fz := none) (at_new none) (Nat.mul_pos (by have := z.r0; omega) (by have := z.s0; omega)) (bytes_ok h z.p0 z.p1) (fun n hn => by cases hn)
    rw [h1, h]
  · unfold appendT
    rw [show (newT pg pgs rgs).geo = ⟨(pg : Int), (pgs : Int), (rgs : Int)⟩ from rfl, if_pos h]
theorem new_append_not {pg pgs rgs : Nat} {f : Fr} (h : (bytesG ⟨pg, pgs, rgs⟩ f).2 ≠ 0) : (appendT (newT pg pgs rgs) f).2 = newT pg pgs rgs := by
  unfold appendT
  rw [show (newT pg pgs rgs).geo = ⟨(pg : Int), (pgs : Int), (rgs : Int)⟩ from rfl, if_pos h]
set_option maxRecDepth 100000 in
set_option maxHeartbeats 8000000 in
theorem refuses_ok (gp gs gr : Int) (f : Fr) (hs : f.body.length ≤ maxLen) (w : World) (hk : (bytesG ⟨((32 + gp % 33).toNat : Int), ((3 + gs % 4).toNat : Int), ((4 + gr % 4).toNat : Int)⟩ f).2 = 0) :
    Calls Try.prog 5 #[Geom.gV ⟨gp, gs, gr⟩, fV f] w fun e w' => e = .returned (.bool true) ∧ Below w.heap.size w w' := by
  unfold Geom.gV
  obtain ⟨pg, hpg⟩ : ∃ n : Nat, (n : Int) = 32 + gp % 33 := ⟨(32 + gp % 33).toNat, by omega⟩
  obtain ⟨pgs, hpgs⟩ : ∃ n : Nat, (n : Int) = 3 + gs % 4 := ⟨(3 + gs % 4).toNat, by omega⟩
  obtain ⟨rgs, hrgs⟩ : ∃ n : Nat, (n : Int) = 4 + gr % 4 := ⟨(4 + gr % 4).toNat, by omega⟩
  have p0 : 32 ≤ pg := by omega
  have p1 : pg ≤ 64 := by omega
  have s0 : 3 ≤ pgs := by omega
  have s1 : pgs ≤ 6 := by omega
  have r0 : 4 ≤ rgs := by omega
  have r1 : rgs ≤ 7 := by omega
  have HG : Hid (∀ w, Calls Try.prog 8 #[.agg #[.int .i64 gp, .int .i64 gs, .int .i64 gr]] w fun e w' => e = .returned (.agg #[.int .i64 (pg : Int), .int .i64 (pgs : Int), .int .i64 (rgs : Int)]) ∧ Below w.heap.size w w') := fun w => by
    rw [hpg, hpgs, hrgs]; exact Geom.geom_any ⟨gp, gs, gr⟩ w
  have HAL := Lib.hid (fun w => alive_any w)
  have SZ := Lib.hid (show Sz pg pgs rgs from ⟨p0, by omega, s0, by omega, r0, by omega⟩)
  have HM := Lib.hid (fun w => made_any SZ.out w)
  have OK0 := Lib.hid (new_ok (pg := pg) (pgs := pgs) (rgs := rgs) p0 (by omega) s0 (by omega) r0 (by omega))
  have hk2 : (bytesG ⟨(pg : Int), (pgs : Int), (rgs : Int)⟩ f).2 = 0 := by
    have e0 : (32 + gp % 33).toNat = pg := by omega
    have e1 : (3 + gs % 4).toNat = pgs := by omega
    have e2 : (4 + gr % 4).toNat = rgs := by omega
    rw [e0, e1, e2] at hk; exact hk
  have hcode := new_append_code SZ.out f
  have hfb := fun w => Go.Proofs.Ytcmjambbdfangaa.Frame.refBytes_any ⟨pg, pgs, rgs⟩ f hs w
  unfold Geom.gV at hfb
  have hap := fun w P p q t r p' q' F G (h : Pair w P p q t r p' q' (newT pg pgs rgs) (newT pg pgs rgs) F G) => pAppend h OK0.out f hs
  rw [hk2] at hfb hcode
  rw [hcode] at hap
  generalize (bytesG ⟨(pg : Int), (pgs : Int), (rgs : Int)⟩ f).1 = B0 at hfb
  generalize (appendT (newT pg pgs rgs) f).1.1 = AT at hap
  generalize (appendT (newT pg pgs rgs) f).2 = x2 at hap
  obtain ⟨kd, fa, fb, bd⟩ := f
  obtain ⟨BD, hBD⟩ : ∃ BD, BD = bs bd := ⟨_, rfl⟩
  unfold fV at hfb hap ⊢
  simp only at hfb hap ⊢
  rw [← hBD] at hfb hap ⊢
  generalize vl fa = va at hfb hap ⊢
  generalize vl fb = vb at hfb hap ⊢
  have HFB : Hid (∀ w, Calls Try.prog 21 #[.agg #[.int .i64 (pg : Int), .int .i64 (pgs : Int), .int .i64 (rgs : Int)], .agg #[.int .i64 kd, .int .u32 va, .int .u32 vb, .string BD]] w fun e w' => e = .returned (.tuple #[.string (bs B0), .int .i64 0]) ∧ Below w.heap.size w w') := hfb
  have HAP := Lib.hid hap
  clear hfb hap hk hk2 hcode hs hBD hpg hpgs hrgs
  have vf1 := (show Var ((w.alloc (.cells #[.int .i64 gp, .int .i64 gs, .int .i64 gr] 23)).alloc (.cells #[.int .i64 kd, .int .u32 va, .int .u32 vb, .string BD] 43)) (w.heap.size) 23 [.int .i64 gp, .int .i64 gs, .int .i64 gr] from ((Var.new w 23 [.int .i64 gp, .int .i64 gs, .int .i64 gr]).alloc _))
  have c2 := vf1.cell (j := 0) rfl
  have c3 := vf1.cell (j := 1) rfl
  have c4 := vf1.cell (j := 2) rfl
  clear vf1
  have vf5 := (show Var ((w.alloc (.cells #[.int .i64 gp, .int .i64 gs, .int .i64 gr] 23)).alloc (.cells #[.int .i64 kd, .int .u32 va, .int .u32 vb, .string BD] 43)) (w.heap.size + 1) 43 [.int .i64 kd, .int .u32 va, .int .u32 vb, .string BD] from (show Var ((w.alloc (.cells #[.int .i64 gp, .int .i64 gs, .int .i64 gr] 23)).alloc (.cells #[.int .i64 kd, .int .u32 va, .int .u32 vb, .string BD] 43)) (w.heap.size + 1) 43 [.int .i64 kd, .int .u32 va, .int .u32 vb, .string BD] from by have h := Var.new (w.alloc (.cells #[.int .i64 gp, .int .i64 gs, .int .i64 gr] 23)) 43 [.int .i64 kd, .int .u32 va, .int .u32 vb, .string BD]; rw [show (w.alloc (.cells #[.int .i64 gp, .int .i64 gs, .int .i64 gr] 23)).heap.size = w.heap.size + 1 by simp] at h; exact h))
  have c6 := vf5.cell (j := 0) rfl
  have c7 := vf5.cell (j := 1) rfl
  have c8 := vf5.cell (j := 2) rfl
  have c9 := vf5.cell (j := 3) rfl
  clear vf5
  go_enter Try.func5, Try.ntmps5
  go_wp2_with (first
    | (go_at_call 8; ((with_reducible refine (HG.out _).mono ?_); rintro e w2 ⟨rfl, bz⟩; obtain ⟨w1, hw1⟩ : ∃ wx, wx = ((w.alloc (.cells #[.int .i64 gp, .int .i64 gs, .int .i64 gr] 23)).alloc (.cells #[.int .i64 kd, .int .u32 va, .int .u32 vb, .string BD] 43)) := ⟨_, rfl⟩; have bw1 := Lib.hid (show Below w.heap.size w w1 by rw [hw1]; exact (bel2 (Geom.bel_alloc _ _) (Geom.bel_alloc _ _))); have zw1 := Lib.hid (show w.heap.size + 2 ≤ w1.heap.size by rw [hw1]; simp); have vw1g := Lib.hid (show Var w1 (w.heap.size) 23 [.int .i64 gp, .int .i64 gs, .int .i64 gr] by rw [hw1]; exact ((Var.new w 23 [.int .i64 gp, .int .i64 gs, .int .i64 gr]).alloc _)); have vw1x := Lib.hid (show Var w1 (w.heap.size + 1) 43 [.int .i64 kd, .int .u32 va, .int .u32 vb, .string BD] by rw [hw1]; exact (show Var ((w.alloc (.cells #[.int .i64 gp, .int .i64 gs, .int .i64 gr] 23)).alloc (.cells #[.int .i64 kd, .int .u32 va, .int .u32 vb, .string BD] 43)) (w.heap.size + 1) 43 [.int .i64 kd, .int .u32 va, .int .u32 vb, .string BD] from by have h := Var.new (w.alloc (.cells #[.int .i64 gp, .int .i64 gs, .int .i64 gr] 23)) 43 [.int .i64 kd, .int .u32 va, .int .u32 vb, .string BD]; rw [show (w.alloc (.cells #[.int .i64 gp, .int .i64 gs, .int .i64 gr] 23)).heap.size = w.heap.size + 1 by simp] at h; exact h)); have hbel : Below w1.heap.size w1 w2 := (by rw [hw1]; exact bz); clear bz; have bw2 := Lib.hid (bel2 bw1.out hbel); have zw2 := Lib.hid hbel.size; have vw2g := Lib.hid (vw1g.out.below hbel vw1g.out.lt); have vw2x := Lib.hid (vw1x.out.below hbel vw1x.out.lt); clear hbel; clear c2 c3 c4 c6 c7 c8 c9; have vf10 := (show Var w2 (w.heap.size) 23 [.int .i64 gp, .int .i64 gs, .int .i64 gr] from vw2g.out); have c11 := vf10.cell (j := 0) rfl; have c12 := vf10.cell (j := 1) rfl; have c13 := vf10.cell (j := 2) rfl; clear vf10; have vf14 := (show Var w2 (w.heap.size + 1) 43 [.int .i64 kd, .int .u32 va, .int .u32 vb, .string BD] from vw2x.out); have c15 := vf14.cell (j := 0) rfl; have c16 := vf14.cell (j := 1) rfl; have c17 := vf14.cell (j := 2) rfl; have c18 := vf14.cell (j := 3) rfl; clear vf14; have vf19 := (show Var w2 (w.heap.size) 23 [.int .i64 gp, .int .i64 gs, .int .i64 gr] from vw2g.out); have f20 := vf19.frozen 0; have f21 := vf19.frozen 1; have f22 := vf19.frozen 2; clear vf19; have vf23 := (show Var (((w2.setCell ⟨w.heap.size, 0, none⟩ (.int .i64 (pg : Int))).setCell ⟨w.heap.size, 1, none⟩ (.int .i64 (pgs : Int))).setCell ⟨w.heap.size, 2, none⟩ (.int .i64 (rgs : Int))) (w.heap.size) 23 [.int .i64 (pg : Int), .int .i64 (pgs : Int), .int .i64 (rgs : Int)] from (((vw2g.out.set 0 (.int .i64 (pg : Int))).set 1 (.int .i64 (pgs : Int))).set 2 (.int .i64 (rgs : Int)))); have c24 := vf23.cell (j := 0) rfl; have c25 := vf23.cell (j := 1) rfl; have c26 := vf23.cell (j := 2) rfl; clear vf23))
    | (go_at_call 9; ((with_reducible refine (HM.out _).mono ?_); rintro e w4 ⟨P, p, q, t, r, p', q', F, G, rfl, hpair, bz, hfoot⟩; obtain ⟨w3, hw3⟩ : ∃ wx, wx = (((w2.setCell ⟨w.heap.size, 0, none⟩ (.int .i64 (pg : Int))).setCell ⟨w.heap.size, 1, none⟩ (.int .i64 (pgs : Int))).setCell ⟨w.heap.size, 2, none⟩ (.int .i64 (rgs : Int))) := ⟨_, rfl⟩; have bw3 := Lib.hid (show Below w.heap.size w w3 by rw [hw3]; exact (((bw2.out.setCell (p := ⟨w.heap.size, 0, none⟩) (by have := zw1.out; have := zw2.out; simp only; omega) _).setCell (p := ⟨w.heap.size, 1, none⟩) (by have := zw1.out; have := zw2.out; simp only; omega) _).setCell (p := ⟨w.heap.size, 2, none⟩) (by have := zw1.out; have := zw2.out; simp only; omega) _)); have zw3 := Lib.hid (show w2.heap.size + 0 ≤ w3.heap.size by rw [hw3]; simp); have vw3g := Lib.hid (show Var w3 (w.heap.size) 23 [.int .i64 (pg : Int), .int .i64 (pgs : Int), .int .i64 (rgs : Int)] by rw [hw3]; exact (((vw2g.out.set 0 (.int .i64 (pg : Int))).set 1 (.int .i64 (pgs : Int))).set 2 (.int .i64 (rgs : Int)))); have vw3x := Lib.hid (show Var w3 (w.heap.size + 1) 43 [.int .i64 kd, .int .u32 va, .int .u32 vb, .string BD] by rw [hw3]; exact (Piece.Var.othr2 (Piece.Var.othr2 (Piece.Var.othr2 vw2x.out ⟨w.heap.size, 0, none⟩ (.int .i64 (pg : Int)) (by have := zw1.out; have := zw2.out; have := vw2x.out.lt; simp only; omega)) ⟨w.heap.size, 1, none⟩ (.int .i64 (pgs : Int)) (by have := zw1.out; have := zw2.out; have := vw2x.out.lt; simp only; omega)) ⟨w.heap.size, 2, none⟩ (.int .i64 (rgs : Int)) (by have := zw1.out; have := zw2.out; have := vw2x.out.lt; simp only; omega))); have hbel : Below w3.heap.size w3 w4 := (by rw [hw3]; exact bz); clear bz; have bw4 := Lib.hid (bel2 bw3.out hbel); have zw4 := Lib.hid hbel.size; have vw4g := Lib.hid (vw3g.out.below hbel vw3g.out.lt); have vw4x := Lib.hid (vw3x.out.below hbel vw3x.out.lt); clear hbel; clear c11 c12 c13 c15 c16 c17 c18 f20 f21 f22 c24 c25 c26; rw [← hw3] at hfoot; have kH := Lib.hid hpair; have HFT := Lib.hid hfoot; clear hpair hfoot))
    | (go_at_call 10; ((with_reducible refine (HAL.out _).mono ?_); rintro e w5 ⟨rfl, bz⟩; have hbel : Below w4.heap.size w4 w5 := (by exact bz); clear bz; have bw5 := Lib.hid (bel2 bw4.out hbel); have zw5 := Lib.hid hbel.size; have vw5g := Lib.hid (vw4g.out.below hbel vw4g.out.lt); have vw5x := Lib.hid (vw4x.out.below hbel vw4x.out.lt); have kw5H := Lib.hid (kH.out.below hbel); clear hbel; have vf27 := (show Var w5 (w.heap.size) 23 [.int .i64 (pg : Int), .int .i64 (pgs : Int), .int .i64 (rgs : Int)] from vw5g.out); have c28 := vf27.cell (j := 0) rfl; have c29 := vf27.cell (j := 1) rfl; have c30 := vf27.cell (j := 2) rfl; clear vf27; have vf31 := (show Var w5 (w.heap.size + 1) 43 [.int .i64 kd, .int .u32 va, .int .u32 vb, .string BD] from vw5x.out); have c32 := vf31.cell (j := 0) rfl; have c33 := vf31.cell (j := 1) rfl; have c34 := vf31.cell (j := 2) rfl; have c35 := vf31.cell (j := 3) rfl; clear vf31))
    | (go_at_call 21; ((with_reducible refine (HFB.out _).mono ?_); rintro e w6 ⟨rfl, bz⟩; have hbel : Below w5.heap.size w5 w6 := (by exact bz); clear bz; have bw6 := Lib.hid (bel2 bw5.out hbel); have zw6 := Lib.hid hbel.size; have vw6g := Lib.hid (vw5g.out.below hbel vw5g.out.lt); have vw6x := Lib.hid (vw5x.out.below hbel vw5x.out.lt); have kw6H := Lib.hid (kw5H.out.below hbel); clear hbel; clear c28 c29 c30 c32 c33 c34 c35)))
  have FT0 := Lib.hid (show ∀ k, both F G k → w.heap.size ≤ k from fun k hk => by have := HFT.out k hk; have := zw1.out; have := zw2.out; have := zw3.out; have := zw4.out; have := zw5.out; have := zw6.out; omega)
  have NNg := Lib.hid (show ¬ both F G (w.heap.size) from fun hk => by have := HFT.out _ hk; have := zw1.out; have := zw2.out; have := zw3.out; have := zw4.out; have := zw5.out; have := zw6.out; omega)
  have NNx := Lib.hid (show ¬ both F G (w.heap.size + 1) from fun hk => by have := HFT.out _ hk; have := zw1.out; have := zw2.out; have := zw3.out; have := zw4.out; have := zw5.out; have := zw6.out; omega)
  refine wp_region_each3 [some 27, some 28, some 29, some 30, some 31, some 32, some 26, some 33, some 34, some 8, some 9] (TJ [27, 28, 29, 30, 31, 32, 26, 33, 34, 8, 9] [.pointer (some ⟨P, 0, none⟩), .pointer (some ⟨P, 0, none⟩), .pointer (some ⟨P, 2, none⟩), .pointer (some ⟨t, 0, none⟩), .agg #[.int .i64 kd, .int .u32 va, .int .u32 vb, .string BD], .tuple #[.int .i64 (AT : Int), .int .i64 0], .tuple #[.int .i64 (AT : Int), .int .i64 0], .int .i64 (AT : Int), .int .i64 0, .int .i64 (AT : Int), .int .i64 0] 5 (fun wx => Grows (both F G) w6 wx) (fun wx => Below w6.heap.size w6 wx) (fun wx => ∃ F2, Pair wx P p q t r p' q' x2 (newT pg pgs rgs) F2 G ∧ After (both F G) w6 wx (both F2 G))) (by kernel_rfl) (by kernel_rfl) (by simp [slots]) ?start ?each ?done
  case start => exact ⟨by simp, Grows.of_below ((Below.refl _ _).drew), fun _ => (Below.refl _ _).drew, by simp⟩
  case each =>
    simp only [Each2]
    refine ⟨?o0, ?o1, ?o2, ?o3, ?o4, ?o5, ?o6, ?o7, ?o8, ?o9, ?o10, trivial⟩
    case o0 =>
      intro d0 ys wx hJ hdi hw hdeps
      clear hdeps
      have HJ := Lib.hid hJ
      clear hJ hw
      simp only [List.getD_cons_succ, List.getD_cons_zero, fill, slots, List.filterMap_cons, List.filterMap_nil, id, List.foldl_cons, List.foldl_nil, Act.put, List.setIfInBounds_toArray, List.set_cons_succ, List.set_cons_zero]
      go_wp2_with fail
      exact ⟨_, rfl, HJ.out.plain (i := 0) (by decide) (by decide) (by decide) rfl (HJ.out.com.trans (S' := fun _ => False) (Grows.of_below (Below.refl _ _)) (fun _ h => h.elim)) (fun h => h.trans (Below.mono (Below.refl _ _) h.size)) (fun h => h.elim fun F2 hh => ⟨F2, hh.1.below (Below.refl _ _), hh.2.trans ⟨Grows.of_below (Below.refl _ _), fun _ h => .inl h⟩⟩)⟩
    case o1 =>
      intro d0 ys wx hJ hdi hw hdeps
      have q0 : d0 0 = true := by simp [Region.Deps2, Go.Region.binds] at hdeps; simp [hdeps]
      have y0 : ys 27 = .pointer (some ⟨P, 0, none⟩) := hJ.val 0 (by decide) q0
      clear hdeps
      have HJ := Lib.hid hJ
      clear hJ hw
      simp only [y0, List.getD_cons_succ, List.getD_cons_zero, fill, slots, List.filterMap_cons, List.filterMap_nil, id, List.foldl_cons, List.foldl_nil, Act.put, List.setIfInBounds_toArray, List.set_cons_succ, List.set_cons_zero]
      go_wp2_with fail
      exact ⟨_, rfl, HJ.out.plain (i := 1) (by decide) (by decide) (by decide) rfl (HJ.out.com.trans (S' := fun _ => False) (Grows.of_below (Below.refl _ _)) (fun _ h => h.elim)) (fun h => h.trans (Below.mono (Below.refl _ _) h.size)) (fun h => h.elim fun F2 hh => ⟨F2, hh.1.below (Below.refl _ _), hh.2.trans ⟨Grows.of_below (Below.refl _ _), fun _ h => .inl h⟩⟩)⟩
    case o2 =>
      intro d0 ys wx hJ hdi hw hdeps
      have q1 : d0 1 = true := by simp [Region.Deps2, Go.Region.binds] at hdeps; simp [hdeps]
      have y1 : ys 28 = .pointer (some ⟨P, 0, none⟩) := hJ.val 1 (by decide) q1
      clear hdeps
      have HJ := Lib.hid hJ
      clear hJ hw
      simp only [y1, List.getD_cons_succ, List.getD_cons_zero, fill, slots, List.filterMap_cons, List.filterMap_nil, id, List.foldl_cons, List.foldl_nil, Act.put, List.setIfInBounds_toArray, List.set_cons_succ, List.set_cons_zero]
      go_wp2_with fail
      exact ⟨_, rfl, HJ.out.plain (i := 2) (by decide) (by decide) (by decide) rfl (HJ.out.com.trans (S' := fun _ => False) (Grows.of_below (Below.refl _ _)) (fun _ h => h.elim)) (fun h => h.trans (Below.mono (Below.refl _ _) h.size)) (fun h => h.elim fun F2 hh => ⟨F2, hh.1.below (Below.refl _ _), hh.2.trans ⟨Grows.of_below (Below.refl _ _), fun _ h => .inl h⟩⟩)⟩
    case o3 =>
      intro d0 ys wx hJ hdi hw hdeps
      have q2 : d0 2 = true := by simp [Region.Deps2, Go.Region.binds] at hdeps; simp [hdeps]
      have y2 : ys 29 = .pointer (some ⟨P, 2, none⟩) := hJ.val 2 (by decide) q2
      clear hdeps
      have hC := Lib.hid hJ.com
      have vP := hC.out.var kw6H.out.var (fun h => h.elim kw6H.out.nF kw6H.out.nG)
      have p0 := vP.cell (j := 0) rfl
      have p1 := vP.cell (j := 1) rfl
      have p2 := vP.cell (j := 2) rfl
      have p3 := vP.cell (j := 3) rfl
      unfold ptr at p0 p1 p2 p3
      clear vP
      have vX := hC.out.var vw6g.out NNg.out
      have g0 := vX.cell (j := 0) rfl
      have g1 := vX.cell (j := 1) rfl
      have g2 := vX.cell (j := 2) rfl
      clear vX
      have vX := hC.out.var vw6x.out NNx.out
      have x0 := vX.cell (j := 0) rfl
      have x1 := vX.cell (j := 1) rfl
      have x2 := vX.cell (j := 2) rfl
      have x3 := vX.cell (j := 3) rfl
      clear vX
      have HJ := Lib.hid hJ
      clear hJ hw
      simp only [y2, List.getD_cons_succ, List.getD_cons_zero, fill, slots, List.filterMap_cons, List.filterMap_nil, id, List.foldl_cons, List.foldl_nil, Act.put, List.setIfInBounds_toArray, List.set_cons_succ, List.set_cons_zero]
      go_wp2_with fail
      exact ⟨_, rfl, HJ.out.plain (i := 3) (by decide) (by decide) (by decide) rfl (HJ.out.com.trans (S' := fun _ => False) (Grows.of_below (Below.refl _ _)) (fun _ h => h.elim)) (fun h => h.trans (Below.mono (Below.refl _ _) h.size)) (fun h => h.elim fun F2 hh => ⟨F2, hh.1.below (Below.refl _ _), hh.2.trans ⟨Grows.of_below (Below.refl _ _), fun _ h => .inl h⟩⟩)⟩
    case o4 =>
      intro d0 ys wx hJ hdi hw hdeps
      clear hdeps
      have hC := Lib.hid hJ.com
      have vP := hC.out.var kw6H.out.var (fun h => h.elim kw6H.out.nF kw6H.out.nG)
      have p0 := vP.cell (j := 0) rfl
      have p1 := vP.cell (j := 1) rfl
      have p2 := vP.cell (j := 2) rfl
      have p3 := vP.cell (j := 3) rfl
      unfold ptr at p0 p1 p2 p3
      clear vP
      have vX := hC.out.var vw6g.out NNg.out
      have g0 := vX.cell (j := 0) rfl
      have g1 := vX.cell (j := 1) rfl
      have g2 := vX.cell (j := 2) rfl
      clear vX
      have vX := hC.out.var vw6x.out NNx.out
      have x0 := vX.cell (j := 0) rfl
      have x1 := vX.cell (j := 1) rfl
      have x2 := vX.cell (j := 2) rfl
      have x3 := vX.cell (j := 3) rfl
      clear vX
      have HJ := Lib.hid hJ
      clear hJ hw
      simp only [List.getD_cons_succ, List.getD_cons_zero, fill, slots, List.filterMap_cons, List.filterMap_nil, id, List.foldl_cons, List.foldl_nil, Act.put, List.setIfInBounds_toArray, List.set_cons_succ, List.set_cons_zero]
      go_wp2_with fail
      exact ⟨_, rfl, HJ.out.plain (i := 4) (by decide) (by decide) (by decide) rfl (HJ.out.com.trans (S' := fun _ => False) (Grows.of_below (Below.refl _ _)) (fun _ h => h.elim)) (fun h => h.trans (Below.mono (Below.refl _ _) h.size)) (fun h => h.elim fun F2 hh => ⟨F2, hh.1.below (Below.refl _ _), hh.2.trans ⟨Grows.of_below (Below.refl _ _), fun _ h => .inl h⟩⟩)⟩
    case o5 =>
      intro d0 ys wx hJ hdi hw hdeps
      have q3 : d0 3 = true := by simp [Region.Deps2, Go.Region.binds] at hdeps; simp [hdeps]
      have y3 : ys 30 = .pointer (some ⟨t, 0, none⟩) := hJ.val 3 (by decide) q3
      have q4 : d0 4 = true := by simp [Region.Deps2, Go.Region.binds] at hdeps; simp [hdeps]
      have y4 : ys 31 = .agg #[.int .i64 kd, .int .u32 va, .int .u32 vb, .string BD] := hJ.val 4 (by decide) q4
      clear hdeps
      have hC := Lib.hid hJ.com
      have hB := Lib.hid (hJ.m0 hdi)
      have HJ := Lib.hid hJ
      clear hJ hw
      simp only [y3, y4, List.getD_cons_succ, List.getD_cons_zero, fill, slots, List.filterMap_cons, List.filterMap_nil, id, List.foldl_cons, List.foldl_nil, Act.put, List.setIfInBounds_toArray, List.set_cons_succ, List.set_cons_zero]
      go_wp2_with (go_at_call 13; (with_reducible refine (HAP.out _ _ _ _ _ _ _ _ _ _ (kw6H.out.below hB.out)).mono ?_); rintro e wy ⟨rfl, Fy, hy, ay⟩)
      exact ⟨_, rfl, HJ.out.turn (by decide) (by decide) rfl (hC.out.trans (S' := both F G) ay.grows (fun _ h => .inl h)) ⟨Fy, hy, After.trans (S1 := both F G) ⟨Grows.of_below hB.out, fun _ h => .inl h⟩ ay⟩⟩
    case o6 =>
      intro d0 ys wx hJ hdi hw hdeps
      have q5 : d0 5 = true := by simp [Region.Deps2, Go.Region.binds] at hdeps; simp [hdeps]
      have y5 : ys 32 = .tuple #[.int .i64 (AT : Int), .int .i64 0] := hJ.val 5 (by decide) q5
      clear hdeps
      have HJ := Lib.hid hJ
      clear hJ hw
      simp only [y5, List.getD_cons_succ, List.getD_cons_zero, fill, slots, List.filterMap_cons, List.filterMap_nil, id, List.foldl_cons, List.foldl_nil, Act.put, List.setIfInBounds_toArray, List.set_cons_succ, List.set_cons_zero]
      go_wp2_with fail
      exact ⟨_, rfl, HJ.out.plain (i := 6) (by decide) (by decide) (by decide) rfl (HJ.out.com.trans (S' := fun _ => False) (Grows.of_below (Below.refl _ _)) (fun _ h => h.elim)) (fun h => h.trans (Below.mono (Below.refl _ _) h.size)) (fun h => h.elim fun F2 hh => ⟨F2, hh.1.below (Below.refl _ _), hh.2.trans ⟨Grows.of_below (Below.refl _ _), fun _ h => .inl h⟩⟩)⟩
    case o7 =>
      intro d0 ys wx hJ hdi hw hdeps
      have q6 : d0 6 = true := by simp [Region.Deps2, Go.Region.binds] at hdeps; simp [hdeps]
      have y6 : ys 26 = .tuple #[.int .i64 (AT : Int), .int .i64 0] := hJ.val 6 (by decide) q6
      clear hdeps
      have HJ := Lib.hid hJ
      clear hJ hw
      simp only [y6, List.getD_cons_succ, List.getD_cons_zero, fill, slots, List.filterMap_cons, List.filterMap_nil, id, List.foldl_cons, List.foldl_nil, Act.put, List.setIfInBounds_toArray, List.set_cons_succ, List.set_cons_zero]
      go_wp2_with fail
      exact ⟨_, rfl, HJ.out.plain (i := 7) (by decide) (by decide) (by decide) rfl (HJ.out.com.trans (S' := fun _ => False) (Grows.of_below (Below.refl _ _)) (fun _ h => h.elim)) (fun h => h.trans (Below.mono (Below.refl _ _) h.size)) (fun h => h.elim fun F2 hh => ⟨F2, hh.1.below (Below.refl _ _), hh.2.trans ⟨Grows.of_below (Below.refl _ _), fun _ h => .inl h⟩⟩)⟩
    case o8 =>
      intro d0 ys wx hJ hdi hw hdeps
      have q6 : d0 6 = true := by simp [Region.Deps2, Go.Region.binds] at hdeps; simp [hdeps]
      have y6 : ys 26 = .tuple #[.int .i64 (AT : Int), .int .i64 0] := hJ.val 6 (by decide) q6
      clear hdeps
      have HJ := Lib.hid hJ
      clear hJ hw
      simp only [y6, List.getD_cons_succ, List.getD_cons_zero, fill, slots, List.filterMap_cons, List.filterMap_nil, id, List.foldl_cons, List.foldl_nil, Act.put, List.setIfInBounds_toArray, List.set_cons_succ, List.set_cons_zero]
      go_wp2_with fail
      exact ⟨_, rfl, HJ.out.plain (i := 8) (by decide) (by decide) (by decide) rfl (HJ.out.com.trans (S' := fun _ => False) (Grows.of_below (Below.refl _ _)) (fun _ h => h.elim)) (fun h => h.trans (Below.mono (Below.refl _ _) h.size)) (fun h => h.elim fun F2 hh => ⟨F2, hh.1.below (Below.refl _ _), hh.2.trans ⟨Grows.of_below (Below.refl _ _), fun _ h => .inl h⟩⟩)⟩
    case o9 =>
      intro d0 ys wx hJ hdi hw hdeps
      have q7 : d0 7 = true := by simp [Region.Deps2, Go.Region.binds] at hdeps; simp [hdeps]
      have y7 : ys 33 = .int .i64 (AT : Int) := hJ.val 7 (by decide) q7
      clear hdeps
      have HJ := Lib.hid hJ
      clear hJ hw
      simp only [y7, List.getD_cons_succ, List.getD_cons_zero, fill, slots, List.filterMap_cons, List.filterMap_nil, id, List.foldl_cons, List.foldl_nil, Act.put, List.setIfInBounds_toArray, List.set_cons_succ, List.set_cons_zero]
      go_wp2_with fail
      exact ⟨_, rfl, HJ.out.plain (i := 9) (by decide) (by decide) (by decide) rfl (HJ.out.com.trans (S' := fun _ => False) (Grows.of_below (Below.refl _ _)) (fun _ h => h.elim)) (fun h => h.trans (Below.mono (Below.refl _ _) h.size)) (fun h => h.elim fun F2 hh => ⟨F2, hh.1.below (Below.refl _ _), hh.2.trans ⟨Grows.of_below (Below.refl _ _), fun _ h => .inl h⟩⟩)⟩
    case o10 =>
      intro d0 ys wx hJ hdi hw hdeps
      have q8 : d0 8 = true := by simp [Region.Deps2, Go.Region.binds] at hdeps; simp [hdeps]
      have y8 : ys 34 = .int .i64 0 := hJ.val 8 (by decide) q8
      clear hdeps
      have HJ := Lib.hid hJ
      clear hJ hw
      simp only [y8, List.getD_cons_succ, List.getD_cons_zero, fill, slots, List.filterMap_cons, List.filterMap_nil, id, List.foldl_cons, List.foldl_nil, Act.put, List.setIfInBounds_toArray, List.set_cons_succ, List.set_cons_zero]
      go_wp2_with fail
      exact ⟨_, rfl, HJ.out.plain (i := 10) (by decide) (by decide) (by decide) rfl (HJ.out.com.trans (S' := fun _ => False) (Grows.of_below (Below.refl _ _)) (fun _ h => h.elim)) (fun h => h.trans (Below.mono (Below.refl _ _) h.size)) (fun h => h.elim fun F2 hh => ⟨F2, hh.1.below (Below.refl _ _), hh.2.trans ⟨Grows.of_below (Below.refl _ _), fun _ h => .inl h⟩⟩)⟩
  case done =>
    intro d0 ys wx hJ hall
    have hM : ∃ F2, Pair wx P p q t r p' q' x2 (newT pg pgs rgs) F2 G ∧ After (both F G) w6 wx (both F2 G) := hJ.m1 (hall 5 (by decide))
    have h8 : ys 8 = .int .i64 (AT : Int) := hJ.val 9 (by decide) (hall 9 (by decide))
    have h9 : ys 9 = .int .i64 0 := hJ.val 10 (by decide) (hall 10 (by decide))
    clear hJ hall
    simp only [h8, h9, List.getD_cons_succ, List.getD_cons_zero, fill, slots, List.filterMap_cons, List.filterMap_nil, id, List.foldl_cons, List.foldl_nil, Act.put, List.setIfInBounds_toArray, List.set_cons_succ, List.set_cons_zero]
    with_reducible refine Exists.elim hM ?_
    intro F2 hMM
    have ht6 := Lib.hid hMM.1
    have at6 := Lib.hid hMM.2
    clear hM hMM
    obtain ⟨wt6, hwt6⟩ : ∃ wy, wy = wx := ⟨_, rfl⟩
    rw [← hwt6] at ht6 at6 ⊢
    clear hwt6
    have vwt7g := Lib.hid (at6.out.grows.var vw6g.out NNg.out)
    have nnt7g := Lib.hid (not_after at6.out NNg.out vw6g.out.lt)
    have vwt7x := Lib.hid (at6.out.grows.var vw6x.out NNx.out)
    have nnt7x := Lib.hid (not_after at6.out NNx.out vw6x.out.lt)
    have bwt7 := Lib.hid (bw6.out.trans (at6.out.grows.below bw6.out.size FT0.out))
    have ftt7 := Lib.hid (at6.out.beyond bw6.out.size FT0.out)
    have zwt7 := Lib.hid at6.out.grows.size
    go_wp2
    refine wp_region_is [38, 39, 40, 41, 42, 43, 44, 45, 46, 47, 48, 49, 50, 51, 52, 53, 54, 55, 56, 57, 4] (fun w' => Below wt6.heap.size wt6 w')
      [.int .i64 0, .bool true, .bool true, undef, undef, undef, undef, undef, undef, undef, undef, undef, undef, undef, undef, undef, undef, undef, undef, .bool true, .bool true] (by kernel_rfl) (by kernel_rfl) rfl (by decide) (by simp) (Below.refl _ _).drew ?each2 ?done2
    case each2 =>
      simp only [Each]
      repeat' (first | exact trivial | refine And.intro ?_ ?_)
      all_goals
        intro ys wx hBx hdeps
        simp only [Deps, Region.binds, List.getD_cons_zero, List.getD_cons_succ, forall_const, and_true] at hdeps
        have vP := ht6.out.var.below hBx ht6.out.var.lt
        have p0 := vP.cell (j := 0) rfl
        have p1 := vP.cell (j := 1) rfl
        unfold ptr at p0 p1
        clear vP
        have g2 := (vwt7g.out.below hBx vwt7g.out.lt).cell (j := 2) rfl
        simp only [hdeps, fill, List.foldl_cons, List.foldl_nil, Act.put, List.setIfInBounds_toArray, List.set_cons_succ, List.set_cons_zero]
        first
          | (go_wp2_with fail; exact ⟨_, rfl, rfl, hBx, Below.refl _ _⟩)
    case done2 =>
      intro ys wx hBx hV
      have h4 : ys 4 = .bool true := hV 20 (by decide)
      have BF := Lib.hid (bwt7.out.trans (hBx.mono bwt7.out.size))
      clear hBx hV
      simp only [h4, fill, List.drop_succ_cons, List.drop_zero, List.foldl_cons, List.foldl_nil, Act.put, List.setIfInBounds_toArray, List.set_cons_succ, List.set_cons_zero]
      go_wp2
      go_ret
      exact ⟨rfl, BF.out⟩
set_option maxRecDepth 100000 in
set_option maxHeartbeats 8000000 in
theorem refuses_no (gp gs gr : Int) (f : Fr) (hs : f.body.length ≤ maxLen) (w : World) (hk : (bytesG ⟨((32 + gp % 33).toNat : Int), ((3 + gs % 4).toNat : Int), ((4 + gr % 4).toNat : Int)⟩ f).2 ≠ 0) :
    Calls Try.prog 5 #[Geom.gV ⟨gp, gs, gr⟩, fV f] w fun e w' => e = .returned (.bool true) ∧ Below w.heap.size w w' := by
  unfold Geom.gV
  obtain ⟨pg, hpg⟩ : ∃ n : Nat, (n : Int) = 32 + gp % 33 := ⟨(32 + gp % 33).toNat, by omega⟩
  obtain ⟨pgs, hpgs⟩ : ∃ n : Nat, (n : Int) = 3 + gs % 4 := ⟨(3 + gs % 4).toNat, by omega⟩
  obtain ⟨rgs, hrgs⟩ : ∃ n : Nat, (n : Int) = 4 + gr % 4 := ⟨(4 + gr % 4).toNat, by omega⟩
  have p0 : 32 ≤ pg := by omega
  have p1 : pg ≤ 64 := by omega
  have s0 : 3 ≤ pgs := by omega
  have s1 : pgs ≤ 6 := by omega
  have r0 : 4 ≤ rgs := by omega
  have r1 : rgs ≤ 7 := by omega
  have HG : Hid (∀ w, Calls Try.prog 8 #[.agg #[.int .i64 gp, .int .i64 gs, .int .i64 gr]] w fun e w' => e = .returned (.agg #[.int .i64 (pg : Int), .int .i64 (pgs : Int), .int .i64 (rgs : Int)]) ∧ Below w.heap.size w w') := fun w => by
    rw [hpg, hpgs, hrgs]; exact Geom.geom_any ⟨gp, gs, gr⟩ w
  have HAL := Lib.hid (fun w => alive_any w)
  have SZ := Lib.hid (show Sz pg pgs rgs from ⟨p0, by omega, s0, by omega, r0, by omega⟩)
  have HM := Lib.hid (fun w => made_any SZ.out w)
  have OK0 := Lib.hid (new_ok (pg := pg) (pgs := pgs) (rgs := rgs) p0 (by omega) s0 (by omega) r0 (by omega))
  have hk2 : (bytesG ⟨(pg : Int), (pgs : Int), (rgs : Int)⟩ f).2 ≠ 0 := by
    have e0 : (32 + gp % 33).toNat = pg := by omega
    have e1 : (3 + gs % 4).toNat = pgs := by omega
    have e2 : (4 + gr % 4).toNat = rgs := by omega
    rw [e0, e1, e2] at hk; exact hk
  have hcode := new_append_code SZ.out f
  have hfb := fun w => Go.Proofs.Ytcmjambbdfangaa.Frame.refBytes_any ⟨pg, pgs, rgs⟩ f hs w
  unfold Geom.gV at hfb
  have hap := fun w P p q t r p' q' F G (h : Pair w P p q t r p' q' (newT pg pgs rgs) (newT pg pgs rgs) F G) => pAppend h OK0.out f hs
  have OK1 := OK0
  have hnot := new_append_not hk2
  rw [hnot] at hap
  obtain ⟨k, hkk⟩ : ∃ k, k = (bytesG ⟨(pg : Int), (pgs : Int), (rgs : Int)⟩ f).2 := ⟨_, rfl⟩
  rw [← hkk] at hfb hcode hk2
  have q1 : ((k : Int) == 0) = false := by simpa using hk2
  have q2 : ((k : Int) != (k : Int)) = false := by simp
  have HPN : Hid (∀ w P p q t r p' q' F G, Pair w P p q t r p' q' (newT pg pgs rgs) (newT pg pgs rgs) F G → Calls Try.prog 17 #[.pointer (some ⟨p, 0, none⟩)] w fun e w' => e = .returned (.int .i64 0) ∧ Below w.heap.size w w') := fun w P p q t r p' q' F G h => pPending h OK0.out
  have hfr := fun w P p q t r p' q' F G (h : Pair w P p q t r p' q' (newT pg pgs rgs) (newT pg pgs rgs) F G) => pFree h OK0.out
  rw [show (newT pg pgs rgs).c.free = rgs by show (newC pg pgs rgs).free = rgs; rw [← Chart.pg_zero pg pgs rgs 0, Chart.pg_free (Nat.zero_le _)]; rfl] at hfr
  have HFR := Lib.hid hfr
  have q3 : ((rgs : Int) == (rgs : Int)) = true := by simp
  clear hnot hkk hfr
  rw [hcode] at hap
  generalize (bytesG ⟨(pg : Int), (pgs : Int), (rgs : Int)⟩ f).1 = B0 at hfb
  generalize (appendT (newT pg pgs rgs) f).1.1 = AT at hap
  obtain ⟨kd, fa, fb, bd⟩ := f
  obtain ⟨BD, hBD⟩ : ∃ BD, BD = bs bd := ⟨_, rfl⟩
  unfold fV at hfb hap ⊢
  simp only at hfb hap ⊢
  rw [← hBD] at hfb hap ⊢
  generalize vl fa = va at hfb hap ⊢
  generalize vl fb = vb at hfb hap ⊢
  have HFB : Hid (∀ w, Calls Try.prog 21 #[.agg #[.int .i64 (pg : Int), .int .i64 (pgs : Int), .int .i64 (rgs : Int)], .agg #[.int .i64 kd, .int .u32 va, .int .u32 vb, .string BD]] w fun e w' => e = .returned (.tuple #[.string (bs B0), .int .i64 (k : Int)]) ∧ Below w.heap.size w w') := hfb
  have HAP := Lib.hid hap
  clear hfb hap hk hk2 hcode hs hBD hpg hpgs hrgs
  have vf1 := (show Var ((w.alloc (.cells #[.int .i64 gp, .int .i64 gs, .int .i64 gr] 23)).alloc (.cells #[.int .i64 kd, .int .u32 va, .int .u32 vb, .string BD] 43)) (w.heap.size) 23 [.int .i64 gp, .int .i64 gs, .int .i64 gr] from ((Var.new w 23 [.int .i64 gp, .int .i64 gs, .int .i64 gr]).alloc _))
  have c2 := vf1.cell (j := 0) rfl
  have c3 := vf1.cell (j := 1) rfl
  have c4 := vf1.cell (j := 2) rfl
  clear vf1
  have vf5 := (show Var ((w.alloc (.cells #[.int .i64 gp, .int .i64 gs, .int .i64 gr] 23)).alloc (.cells #[.int .i64 kd, .int .u32 va, .int .u32 vb, .string BD] 43)) (w.heap.size + 1) 43 [.int .i64 kd, .int .u32 va, .int .u32 vb, .string BD] from (show Var ((w.alloc (.cells #[.int .i64 gp, .int .i64 gs, .int .i64 gr] 23)).alloc (.cells #[.int .i64 kd, .int .u32 va, .int .u32 vb, .string BD] 43)) (w.heap.size + 1) 43 [.int .i64 kd, .int .u32 va, .int .u32 vb, .string BD] from by have h := Var.new (w.alloc (.cells #[.int .i64 gp, .int .i64 gs, .int .i64 gr] 23)) 43 [.int .i64 kd, .int .u32 va, .int .u32 vb, .string BD]; rw [show (w.alloc (.cells #[.int .i64 gp, .int .i64 gs, .int .i64 gr] 23)).heap.size = w.heap.size + 1 by simp] at h; exact h))
  have c6 := vf5.cell (j := 0) rfl
  have c7 := vf5.cell (j := 1) rfl
  have c8 := vf5.cell (j := 2) rfl
  have c9 := vf5.cell (j := 3) rfl
  clear vf5
  go_enter Try.func5, Try.ntmps5
  go_wp2_with (first
    | (go_at_call 8; ((with_reducible refine (HG.out _).mono ?_); rintro e w2 ⟨rfl, bz⟩; obtain ⟨w1, hw1⟩ : ∃ wx, wx = ((w.alloc (.cells #[.int .i64 gp, .int .i64 gs, .int .i64 gr] 23)).alloc (.cells #[.int .i64 kd, .int .u32 va, .int .u32 vb, .string BD] 43)) := ⟨_, rfl⟩; have bw1 := Lib.hid (show Below w.heap.size w w1 by rw [hw1]; exact (bel2 (Geom.bel_alloc _ _) (Geom.bel_alloc _ _))); have zw1 := Lib.hid (show w.heap.size + 2 ≤ w1.heap.size by rw [hw1]; simp); have vw1g := Lib.hid (show Var w1 (w.heap.size) 23 [.int .i64 gp, .int .i64 gs, .int .i64 gr] by rw [hw1]; exact ((Var.new w 23 [.int .i64 gp, .int .i64 gs, .int .i64 gr]).alloc _)); have vw1x := Lib.hid (show Var w1 (w.heap.size + 1) 43 [.int .i64 kd, .int .u32 va, .int .u32 vb, .string BD] by rw [hw1]; exact (show Var ((w.alloc (.cells #[.int .i64 gp, .int .i64 gs, .int .i64 gr] 23)).alloc (.cells #[.int .i64 kd, .int .u32 va, .int .u32 vb, .string BD] 43)) (w.heap.size + 1) 43 [.int .i64 kd, .int .u32 va, .int .u32 vb, .string BD] from by have h := Var.new (w.alloc (.cells #[.int .i64 gp, .int .i64 gs, .int .i64 gr] 23)) 43 [.int .i64 kd, .int .u32 va, .int .u32 vb, .string BD]; rw [show (w.alloc (.cells #[.int .i64 gp, .int .i64 gs, .int .i64 gr] 23)).heap.size = w.heap.size + 1 by simp] at h; exact h)); have hbel : Below w1.heap.size w1 w2 := (by rw [hw1]; exact bz); clear bz; have bw2 := Lib.hid (bel2 bw1.out hbel); have zw2 := Lib.hid hbel.size; have vw2g := Lib.hid (vw1g.out.below hbel vw1g.out.lt); have vw2x := Lib.hid (vw1x.out.below hbel vw1x.out.lt); clear hbel; clear c2 c3 c4 c6 c7 c8 c9; have vf10 := (show Var w2 (w.heap.size) 23 [.int .i64 gp, .int .i64 gs, .int .i64 gr] from vw2g.out); have c11 := vf10.cell (j := 0) rfl; have c12 := vf10.cell (j := 1) rfl; have c13 := vf10.cell (j := 2) rfl; clear vf10; have vf14 := (show Var w2 (w.heap.size + 1) 43 [.int .i64 kd, .int .u32 va, .int .u32 vb, .string BD] from vw2x.out); have c15 := vf14.cell (j := 0) rfl; have c16 := vf14.cell (j := 1) rfl; have c17 := vf14.cell (j := 2) rfl; have c18 := vf14.cell (j := 3) rfl; clear vf14; have vf19 := (show Var w2 (w.heap.size) 23 [.int .i64 gp, .int .i64 gs, .int .i64 gr] from vw2g.out); have f20 := vf19.frozen 0; have f21 := vf19.frozen 1; have f22 := vf19.frozen 2; clear vf19; have vf23 := (show Var (((w2.setCell ⟨w.heap.size, 0, none⟩ (.int .i64 (pg : Int))).setCell ⟨w.heap.size, 1, none⟩ (.int .i64 (pgs : Int))).setCell ⟨w.heap.size, 2, none⟩ (.int .i64 (rgs : Int))) (w.heap.size) 23 [.int .i64 (pg : Int), .int .i64 (pgs : Int), .int .i64 (rgs : Int)] from (((vw2g.out.set 0 (.int .i64 (pg : Int))).set 1 (.int .i64 (pgs : Int))).set 2 (.int .i64 (rgs : Int)))); have c24 := vf23.cell (j := 0) rfl; have c25 := vf23.cell (j := 1) rfl; have c26 := vf23.cell (j := 2) rfl; clear vf23))
    | (go_at_call 9; ((with_reducible refine (HM.out _).mono ?_); rintro e w4 ⟨P, p, q, t, r, p', q', F, G, rfl, hpair, bz, hfoot⟩; obtain ⟨w3, hw3⟩ : ∃ wx, wx = (((w2.setCell ⟨w.heap.size, 0, none⟩ (.int .i64 (pg : Int))).setCell ⟨w.heap.size, 1, none⟩ (.int .i64 (pgs : Int))).setCell ⟨w.heap.size, 2, none⟩ (.int .i64 (rgs : Int))) := ⟨_, rfl⟩; have bw3 := Lib.hid (show Below w.heap.size w w3 by rw [hw3]; exact (((bw2.out.setCell (p := ⟨w.heap.size, 0, none⟩) (by have := zw1.out; have := zw2.out; simp only; omega) _).setCell (p := ⟨w.heap.size, 1, none⟩) (by have := zw1.out; have := zw2.out; simp only; omega) _).setCell (p := ⟨w.heap.size, 2, none⟩) (by have := zw1.out; have := zw2.out; simp only; omega) _)); have zw3 := Lib.hid (show w2.heap.size + 0 ≤ w3.heap.size by rw [hw3]; simp); have vw3g := Lib.hid (show Var w3 (w.heap.size) 23 [.int .i64 (pg : Int), .int .i64 (pgs : Int), .int .i64 (rgs : Int)] by rw [hw3]; exact (((vw2g.out.set 0 (.int .i64 (pg : Int))).set 1 (.int .i64 (pgs : Int))).set 2 (.int .i64 (rgs : Int)))); have vw3x := Lib.hid (show Var w3 (w.heap.size + 1) 43 [.int .i64 kd, .int .u32 va, .int .u32 vb, .string BD] by rw [hw3]; exact (Piece.Var.othr2 (Piece.Var.othr2 (Piece.Var.othr2 vw2x.out ⟨w.heap.size, 0, none⟩ (.int .i64 (pg : Int)) (by have := zw1.out; have := zw2.out; have := vw2x.out.lt; simp only; omega)) ⟨w.heap.size, 1, none⟩ (.int .i64 (pgs : Int)) (by have := zw1.out; have := zw2.out; have := vw2x.out.lt; simp only; omega)) ⟨w.heap.size, 2, none⟩ (.int .i64 (rgs : Int)) (by have := zw1.out; have := zw2.out; have := vw2x.out.lt; simp only; omega))); have hbel : Below w3.heap.size w3 w4 := (by rw [hw3]; exact bz); clear bz; have bw4 := Lib.hid (bel2 bw3.out hbel); have zw4 := Lib.hid hbel.size; have vw4g := Lib.hid (vw3g.out.below hbel vw3g.out.lt); have vw4x := Lib.hid (vw3x.out.below hbel vw3x.out.lt); clear hbel; clear c11 c12 c13 c15 c16 c17 c18 f20 f21 f22 c24 c25 c26; rw [← hw3] at hfoot; have kH := Lib.hid hpair; have HFT := Lib.hid hfoot; clear hpair hfoot))
    | (go_at_call 10; ((with_reducible refine (HAL.out _).mono ?_); rintro e w5 ⟨rfl, bz⟩; have hbel : Below w4.heap.size w4 w5 := (by exact bz); clear bz; have bw5 := Lib.hid (bel2 bw4.out hbel); have zw5 := Lib.hid hbel.size; have vw5g := Lib.hid (vw4g.out.below hbel vw4g.out.lt); have vw5x := Lib.hid (vw4x.out.below hbel vw4x.out.lt); have kw5H := Lib.hid (kH.out.below hbel); clear hbel; have vf27 := (show Var w5 (w.heap.size) 23 [.int .i64 (pg : Int), .int .i64 (pgs : Int), .int .i64 (rgs : Int)] from vw5g.out); have c28 := vf27.cell (j := 0) rfl; have c29 := vf27.cell (j := 1) rfl; have c30 := vf27.cell (j := 2) rfl; clear vf27; have vf31 := (show Var w5 (w.heap.size + 1) 43 [.int .i64 kd, .int .u32 va, .int .u32 vb, .string BD] from vw5x.out); have c32 := vf31.cell (j := 0) rfl; have c33 := vf31.cell (j := 1) rfl; have c34 := vf31.cell (j := 2) rfl; have c35 := vf31.cell (j := 3) rfl; clear vf31))
    | (go_at_call 21; ((with_reducible refine (HFB.out _).mono ?_); rintro e w6 ⟨rfl, bz⟩; have hbel : Below w5.heap.size w5 w6 := (by exact bz); clear bz; have bw6 := Lib.hid (bel2 bw5.out hbel); have zw6 := Lib.hid hbel.size; have vw6g := Lib.hid (vw5g.out.below hbel vw5g.out.lt); have vw6x := Lib.hid (vw5x.out.below hbel vw5x.out.lt); have kw6H := Lib.hid (kw5H.out.below hbel); clear hbel; clear c28 c29 c30 c32 c33 c34 c35)))
  have FT0 := Lib.hid (show ∀ k, both F G k → w.heap.size ≤ k from fun k hk => by have := HFT.out k hk; have := zw1.out; have := zw2.out; have := zw3.out; have := zw4.out; have := zw5.out; have := zw6.out; omega)
  have NNg := Lib.hid (show ¬ both F G (w.heap.size) from fun hk => by have := HFT.out _ hk; have := zw1.out; have := zw2.out; have := zw3.out; have := zw4.out; have := zw5.out; have := zw6.out; omega)
  have NNx := Lib.hid (show ¬ both F G (w.heap.size + 1) from fun hk => by have := HFT.out _ hk; have := zw1.out; have := zw2.out; have := zw3.out; have := zw4.out; have := zw5.out; have := zw6.out; omega)
  refine wp_region_each3 [some 27, some 28, some 29, some 30, some 31, some 32, some 26, some 33, some 34, some 8, some 9] (TJ [27, 28, 29, 30, 31, 32, 26, 33, 34, 8, 9] [.pointer (some ⟨P, 0, none⟩), .pointer (some ⟨P, 0, none⟩), .pointer (some ⟨P, 2, none⟩), .pointer (some ⟨t, 0, none⟩), .agg #[.int .i64 kd, .int .u32 va, .int .u32 vb, .string BD], .tuple #[.int .i64 (AT : Int), .int .i64 (k : Int)], .tuple #[.int .i64 (AT : Int), .int .i64 (k : Int)], .int .i64 (AT : Int), .int .i64 (k : Int), .int .i64 (AT : Int), .int .i64 (k : Int)] 5 (fun wx => Grows (both F G) w6 wx) (fun wx => Below w6.heap.size w6 wx) (fun wx => ∃ F2, Pair wx P p q t r p' q' (newT pg pgs rgs) (newT pg pgs rgs) F2 G ∧ After (both F G) w6 wx (both F2 G))) (by kernel_rfl) (by kernel_rfl) (by simp [slots]) ?start ?each ?done
  case start => exact ⟨by simp, Grows.of_below ((Below.refl _ _).drew), fun _ => (Below.refl _ _).drew, by simp⟩
  case each =>
    simp only [Each2]
    refine ⟨?o0, ?o1, ?o2, ?o3, ?o4, ?o5, ?o6, ?o7, ?o8, ?o9, ?o10, trivial⟩
    case o0 =>
      intro d0 ys wx hJ hdi hw hdeps
      clear hdeps
      have HJ := Lib.hid hJ
      clear hJ hw
      simp only [List.getD_cons_succ, List.getD_cons_zero, fill, slots, List.filterMap_cons, List.filterMap_nil, id, List.foldl_cons, List.foldl_nil, Act.put, List.setIfInBounds_toArray, List.set_cons_succ, List.set_cons_zero]
      go_wp2_with fail
      exact ⟨_, rfl, HJ.out.plain (i := 0) (by decide) (by decide) (by decide) rfl (HJ.out.com.trans (S' := fun _ => False) (Grows.of_below (Below.refl _ _)) (fun _ h => h.elim)) (fun h => h.trans (Below.mono (Below.refl _ _) h.size)) (fun h => h.elim fun F2 hh => ⟨F2, hh.1.below (Below.refl _ _), hh.2.trans ⟨Grows.of_below (Below.refl _ _), fun _ h => .inl h⟩⟩)⟩
    case o1 =>
      intro d0 ys wx hJ hdi hw hdeps
      have q0 : d0 0 = true := by simp [Region.Deps2, Go.Region.binds] at hdeps; simp [hdeps]
      have y0 : ys 27 = .pointer (some ⟨P, 0, none⟩) := hJ.val 0 (by decide) q0
      clear hdeps
      have HJ := Lib.hid hJ
      clear hJ hw
      simp only [y0, List.getD_cons_succ, List.getD_cons_zero, fill, slots, List.filterMap_cons, List.filterMap_nil, id, List.foldl_cons, List.foldl_nil, Act.put, List.setIfInBounds_toArray, List.set_cons_succ, List.set_cons_zero]
      go_wp2_with fail
      exact ⟨_, rfl, HJ.out.plain (i := 1) (by decide) (by decide) (by decide) rfl (HJ.out.com.trans (S' := fun _ => False) (Grows.of_below (Below.refl _ _)) (fun _ h => h.elim)) (fun h => h.trans (Below.mono (Below.refl _ _) h.size)) (fun h => h.elim fun F2 hh => ⟨F2, hh.1.below (Below.refl _ _), hh.2.trans ⟨Grows.of_below (Below.refl _ _), fun _ h => .inl h⟩⟩)⟩
    case o2 =>
      intro d0 ys wx hJ hdi hw hdeps
      have q1 : d0 1 = true := by simp [Region.Deps2, Go.Region.binds] at hdeps; simp [hdeps]
      have y1 : ys 28 = .pointer (some ⟨P, 0, none⟩) := hJ.val 1 (by decide) q1
      clear hdeps
      have HJ := Lib.hid hJ
      clear hJ hw
      simp only [y1, List.getD_cons_succ, List.getD_cons_zero, fill, slots, List.filterMap_cons, List.filterMap_nil, id, List.foldl_cons, List.foldl_nil, Act.put, List.setIfInBounds_toArray, List.set_cons_succ, List.set_cons_zero]
      go_wp2_with fail
      exact ⟨_, rfl, HJ.out.plain (i := 2) (by decide) (by decide) (by decide) rfl (HJ.out.com.trans (S' := fun _ => False) (Grows.of_below (Below.refl _ _)) (fun _ h => h.elim)) (fun h => h.trans (Below.mono (Below.refl _ _) h.size)) (fun h => h.elim fun F2 hh => ⟨F2, hh.1.below (Below.refl _ _), hh.2.trans ⟨Grows.of_below (Below.refl _ _), fun _ h => .inl h⟩⟩)⟩
    case o3 =>
      intro d0 ys wx hJ hdi hw hdeps
      have q2 : d0 2 = true := by simp [Region.Deps2, Go.Region.binds] at hdeps; simp [hdeps]
      have y2 : ys 29 = .pointer (some ⟨P, 2, none⟩) := hJ.val 2 (by decide) q2
      clear hdeps
      have hC := Lib.hid hJ.com
      have vP := hC.out.var kw6H.out.var (fun h => h.elim kw6H.out.nF kw6H.out.nG)
      have p0 := vP.cell (j := 0) rfl
      have p1 := vP.cell (j := 1) rfl
      have p2 := vP.cell (j := 2) rfl
      have p3 := vP.cell (j := 3) rfl
      unfold ptr at p0 p1 p2 p3
      clear vP
      have vX := hC.out.var vw6g.out NNg.out
      have g0 := vX.cell (j := 0) rfl
      have g1 := vX.cell (j := 1) rfl
      have g2 := vX.cell (j := 2) rfl
      clear vX
      have vX := hC.out.var vw6x.out NNx.out
      have x0 := vX.cell (j := 0) rfl
      have x1 := vX.cell (j := 1) rfl
      have x2 := vX.cell (j := 2) rfl
      have x3 := vX.cell (j := 3) rfl
      clear vX
      have HJ := Lib.hid hJ
      clear hJ hw
      simp only [y2, List.getD_cons_succ, List.getD_cons_zero, fill, slots, List.filterMap_cons, List.filterMap_nil, id, List.foldl_cons, List.foldl_nil, Act.put, List.setIfInBounds_toArray, List.set_cons_succ, List.set_cons_zero]
      go_wp2_with fail
      exact ⟨_, rfl, HJ.out.plain (i := 3) (by decide) (by decide) (by decide) rfl (HJ.out.com.trans (S' := fun _ => False) (Grows.of_below (Below.refl _ _)) (fun _ h => h.elim)) (fun h => h.trans (Below.mono (Below.refl _ _) h.size)) (fun h => h.elim fun F2 hh => ⟨F2, hh.1.below (Below.refl _ _), hh.2.trans ⟨Grows.of_below (Below.refl _ _), fun _ h => .inl h⟩⟩)⟩
    case o4 =>
      intro d0 ys wx hJ hdi hw hdeps
      clear hdeps
      have hC := Lib.hid hJ.com
      have vP := hC.out.var kw6H.out.var (fun h => h.elim kw6H.out.nF kw6H.out.nG)
      have p0 := vP.cell (j := 0) rfl
      have p1 := vP.cell (j := 1) rfl
      have p2 := vP.cell (j := 2) rfl
      have p3 := vP.cell (j := 3) rfl
      unfold ptr at p0 p1 p2 p3
      clear vP
      have vX := hC.out.var vw6g.out NNg.out
      have g0 := vX.cell (j := 0) rfl
      have g1 := vX.cell (j := 1) rfl
      have g2 := vX.cell (j := 2) rfl
      clear vX
      have vX := hC.out.var vw6x.out NNx.out
      have x0 := vX.cell (j := 0) rfl
      have x1 := vX.cell (j := 1) rfl
      have x2 := vX.cell (j := 2) rfl
      have x3 := vX.cell (j := 3) rfl
      clear vX
      have HJ := Lib.hid hJ
      clear hJ hw
      simp only [List.getD_cons_succ, List.getD_cons_zero, fill, slots, List.filterMap_cons, List.filterMap_nil, id, List.foldl_cons, List.foldl_nil, Act.put, List.setIfInBounds_toArray, List.set_cons_succ, List.set_cons_zero]
      go_wp2_with fail
      exact ⟨_, rfl, HJ.out.plain (i := 4) (by decide) (by decide) (by decide) rfl (HJ.out.com.trans (S' := fun _ => False) (Grows.of_below (Below.refl _ _)) (fun _ h => h.elim)) (fun h => h.trans (Below.mono (Below.refl _ _) h.size)) (fun h => h.elim fun F2 hh => ⟨F2, hh.1.below (Below.refl _ _), hh.2.trans ⟨Grows.of_below (Below.refl _ _), fun _ h => .inl h⟩⟩)⟩
    case o5 =>
      intro d0 ys wx hJ hdi hw hdeps
      have q3 : d0 3 = true := by simp [Region.Deps2, Go.Region.binds] at hdeps; simp [hdeps]
      have y3 : ys 30 = .pointer (some ⟨t, 0, none⟩) := hJ.val 3 (by decide) q3
      have q4 : d0 4 = true := by simp [Region.Deps2, Go.Region.binds] at hdeps; simp [hdeps]
      have y4 : ys 31 = .agg #[.int .i64 kd, .int .u32 va, .int .u32 vb, .string BD] := hJ.val 4 (by decide) q4
      clear hdeps
      have hC := Lib.hid hJ.com
      have hB := Lib.hid (hJ.m0 hdi)
      have HJ := Lib.hid hJ
      clear hJ hw
      simp only [y3, y4, List.getD_cons_succ, List.getD_cons_zero, fill, slots, List.filterMap_cons, List.filterMap_nil, id, List.foldl_cons, List.foldl_nil, Act.put, List.setIfInBounds_toArray, List.set_cons_succ, List.set_cons_zero]
      go_wp2_with (go_at_call 13; (with_reducible refine (HAP.out _ _ _ _ _ _ _ _ _ _ (kw6H.out.below hB.out)).mono ?_); rintro e wy ⟨rfl, Fy, hy, ay⟩)
      exact ⟨_, rfl, HJ.out.turn (by decide) (by decide) rfl (hC.out.trans (S' := both F G) ay.grows (fun _ h => .inl h)) ⟨Fy, hy, After.trans (S1 := both F G) ⟨Grows.of_below hB.out, fun _ h => .inl h⟩ ay⟩⟩
    case o6 =>
      intro d0 ys wx hJ hdi hw hdeps
      have q5 : d0 5 = true := by simp [Region.Deps2, Go.Region.binds] at hdeps; simp [hdeps]
      have y5 : ys 32 = .tuple #[.int .i64 (AT : Int), .int .i64 (k : Int)] := hJ.val 5 (by decide) q5
      clear hdeps
      have HJ := Lib.hid hJ
      clear hJ hw
      simp only [y5, List.getD_cons_succ, List.getD_cons_zero, fill, slots, List.filterMap_cons, List.filterMap_nil, id, List.foldl_cons, List.foldl_nil, Act.put, List.setIfInBounds_toArray, List.set_cons_succ, List.set_cons_zero]
      go_wp2_with fail
      exact ⟨_, rfl, HJ.out.plain (i := 6) (by decide) (by decide) (by decide) rfl (HJ.out.com.trans (S' := fun _ => False) (Grows.of_below (Below.refl _ _)) (fun _ h => h.elim)) (fun h => h.trans (Below.mono (Below.refl _ _) h.size)) (fun h => h.elim fun F2 hh => ⟨F2, hh.1.below (Below.refl _ _), hh.2.trans ⟨Grows.of_below (Below.refl _ _), fun _ h => .inl h⟩⟩)⟩
    case o7 =>
      intro d0 ys wx hJ hdi hw hdeps
      have q6 : d0 6 = true := by simp [Region.Deps2, Go.Region.binds] at hdeps; simp [hdeps]
      have y6 : ys 26 = .tuple #[.int .i64 (AT : Int), .int .i64 (k : Int)] := hJ.val 6 (by decide) q6
      clear hdeps
      have HJ := Lib.hid hJ
      clear hJ hw
      simp only [y6, List.getD_cons_succ, List.getD_cons_zero, fill, slots, List.filterMap_cons, List.filterMap_nil, id, List.foldl_cons, List.foldl_nil, Act.put, List.setIfInBounds_toArray, List.set_cons_succ, List.set_cons_zero]
      go_wp2_with fail
      exact ⟨_, rfl, HJ.out.plain (i := 7) (by decide) (by decide) (by decide) rfl (HJ.out.com.trans (S' := fun _ => False) (Grows.of_below (Below.refl _ _)) (fun _ h => h.elim)) (fun h => h.trans (Below.mono (Below.refl _ _) h.size)) (fun h => h.elim fun F2 hh => ⟨F2, hh.1.below (Below.refl _ _), hh.2.trans ⟨Grows.of_below (Below.refl _ _), fun _ h => .inl h⟩⟩)⟩
    case o8 =>
      intro d0 ys wx hJ hdi hw hdeps
      have q6 : d0 6 = true := by simp [Region.Deps2, Go.Region.binds] at hdeps; simp [hdeps]
      have y6 : ys 26 = .tuple #[.int .i64 (AT : Int), .int .i64 (k : Int)] := hJ.val 6 (by decide) q6
      clear hdeps
      have HJ := Lib.hid hJ
      clear hJ hw
      simp only [y6, List.getD_cons_succ, List.getD_cons_zero, fill, slots, List.filterMap_cons, List.filterMap_nil, id, List.foldl_cons, List.foldl_nil, Act.put, List.setIfInBounds_toArray, List.set_cons_succ, List.set_cons_zero]
      go_wp2_with fail
      exact ⟨_, rfl, HJ.out.plain (i := 8) (by decide) (by decide) (by decide) rfl (HJ.out.com.trans (S' := fun _ => False) (Grows.of_below (Below.refl _ _)) (fun _ h => h.elim)) (fun h => h.trans (Below.mono (Below.refl _ _) h.size)) (fun h => h.elim fun F2 hh => ⟨F2, hh.1.below (Below.refl _ _), hh.2.trans ⟨Grows.of_below (Below.refl _ _), fun _ h => .inl h⟩⟩)⟩
    case o9 =>
      intro d0 ys wx hJ hdi hw hdeps
      have q7 : d0 7 = true := by simp [Region.Deps2, Go.Region.binds] at hdeps; simp [hdeps]
      have y7 : ys 33 = .int .i64 (AT : Int) := hJ.val 7 (by decide) q7
      clear hdeps
      have HJ := Lib.hid hJ
      clear hJ hw
      simp only [y7, List.getD_cons_succ, List.getD_cons_zero, fill, slots, List.filterMap_cons, List.filterMap_nil, id, List.foldl_cons, List.foldl_nil, Act.put, List.setIfInBounds_toArray, List.set_cons_succ, List.set_cons_zero]
      go_wp2_with fail
      exact ⟨_, rfl, HJ.out.plain (i := 9) (by decide) (by decide) (by decide) rfl (HJ.out.com.trans (S' := fun _ => False) (Grows.of_below (Below.refl _ _)) (fun _ h => h.elim)) (fun h => h.trans (Below.mono (Below.refl _ _) h.size)) (fun h => h.elim fun F2 hh => ⟨F2, hh.1.below (Below.refl _ _), hh.2.trans ⟨Grows.of_below (Below.refl _ _), fun _ h => .inl h⟩⟩)⟩
    case o10 =>
      intro d0 ys wx hJ hdi hw hdeps
      have q8 : d0 8 = true := by simp [Region.Deps2, Go.Region.binds] at hdeps; simp [hdeps]
      have y8 : ys 34 = .int .i64 (k : Int) := hJ.val 8 (by decide) q8
      clear hdeps
      have HJ := Lib.hid hJ
      clear hJ hw
      simp only [y8, List.getD_cons_succ, List.getD_cons_zero, fill, slots, List.filterMap_cons, List.filterMap_nil, id, List.foldl_cons, List.foldl_nil, Act.put, List.setIfInBounds_toArray, List.set_cons_succ, List.set_cons_zero]
      go_wp2_with fail
      exact ⟨_, rfl, HJ.out.plain (i := 10) (by decide) (by decide) (by decide) rfl (HJ.out.com.trans (S' := fun _ => False) (Grows.of_below (Below.refl _ _)) (fun _ h => h.elim)) (fun h => h.trans (Below.mono (Below.refl _ _) h.size)) (fun h => h.elim fun F2 hh => ⟨F2, hh.1.below (Below.refl _ _), hh.2.trans ⟨Grows.of_below (Below.refl _ _), fun _ h => .inl h⟩⟩)⟩
  case done =>
    intro d0 ys wx hJ hall
    have hM : ∃ F2, Pair wx P p q t r p' q' (newT pg pgs rgs) (newT pg pgs rgs) F2 G ∧ After (both F G) w6 wx (both F2 G) := hJ.m1 (hall 5 (by decide))
    have h8 : ys 8 = .int .i64 (AT : Int) := hJ.val 9 (by decide) (hall 9 (by decide))
    have h9 : ys 9 = .int .i64 (k : Int) := hJ.val 10 (by decide) (hall 10 (by decide))
    clear hJ hall
    simp only [h8, h9, List.getD_cons_succ, List.getD_cons_zero, fill, slots, List.filterMap_cons, List.filterMap_nil, id, List.foldl_cons, List.foldl_nil, Act.put, List.setIfInBounds_toArray, List.set_cons_succ, List.set_cons_zero]
    with_reducible refine Exists.elim hM ?_
    intro F2 hMM
    have ht6 := Lib.hid hMM.1
    have at6 := Lib.hid hMM.2
    clear hM hMM
    obtain ⟨wt6, hwt6⟩ : ∃ wy, wy = wx := ⟨_, rfl⟩
    rw [← hwt6] at ht6 at6 ⊢
    clear hwt6
    have vwt7g := Lib.hid (at6.out.grows.var vw6g.out NNg.out)
    have nnt7g := Lib.hid (not_after at6.out NNg.out vw6g.out.lt)
    have vwt7x := Lib.hid (at6.out.grows.var vw6x.out NNx.out)
    have nnt7x := Lib.hid (not_after at6.out NNx.out vw6x.out.lt)
    have bwt7 := Lib.hid (bw6.out.trans (at6.out.grows.below bw6.out.size FT0.out))
    have ftt7 := Lib.hid (at6.out.beyond bw6.out.size FT0.out)
    have zwt7 := Lib.hid at6.out.grows.size
    go_wp2
    refine wp_region_is [38, 39, 40, 41, 42, 43, 44, 45, 46, 47, 48, 49, 50, 51, 52, 53, 54, 55, 56, 57, 4] (fun w' => Below wt6.heap.size wt6 w')
      [.int .i64 (k : Int), .bool false, .bool false, .pointer (some ⟨P, 0, none⟩), .pointer (some ⟨P, 0, none⟩), .pointer (some ⟨P, 0, none⟩), .pointer (some ⟨p, 0, none⟩), .int .i64 0, .bool true, .bool true, .pointer (some ⟨P, 0, none⟩), .pointer (some ⟨P, 0, none⟩), .pointer (some ⟨P, 1, none⟩), .pointer (some ⟨q, 0, none⟩), .int .i64 (rgs : Int), .pointer (some ⟨w.heap.size, 2, none⟩), .int .i64 (rgs : Int), .bool true, .bool true, .bool true, .bool true] (by kernel_rfl) (by kernel_rfl) rfl (by decide) (by simp) (Below.refl _ _).drew ?each2 ?done2
    case each2 =>
      simp only [Each]
      repeat' (first | exact trivial | refine And.intro ?_ ?_)
      all_goals
        intro ys wx hBx hdeps
        simp only [Deps, Region.binds, List.getD_cons_zero, List.getD_cons_succ, forall_const, and_true] at hdeps
        have vP := ht6.out.var.below hBx ht6.out.var.lt
        have p0 := vP.cell (j := 0) rfl
        have p1 := vP.cell (j := 1) rfl
        unfold ptr at p0 p1
        clear vP
        have g2 := (vwt7g.out.below hBx vwt7g.out.lt).cell (j := 2) rfl
        simp only [hdeps, fill, List.foldl_cons, List.foldl_nil, Act.put, List.setIfInBounds_toArray, List.set_cons_succ, List.set_cons_zero]
        first
          | (go_wp2_with fail; exact ⟨_, rfl, rfl, hBx, Below.refl _ _⟩)
          | (go_wp2_with (go_at_call 17; (with_reducible refine (HPN.out _ _ _ _ _ _ _ _ _ _ (ht6.out.below hBx)).mono ?_); rintro e w3 ⟨rfl, hm⟩); exact ⟨_, rfl, rfl, hBx.trans (hm.mono hBx.size), hm⟩)
          | (go_wp2_with (go_at_call 22; (with_reducible refine (HFR.out _ _ _ _ _ _ _ _ _ _ (ht6.out.below hBx)).mono ?_); rintro e w3 ⟨rfl, hm⟩); exact ⟨_, rfl, rfl, hBx.trans (hm.mono hBx.size), hm⟩)
    case done2 =>
      intro ys wx hBx hV
      have h4 : ys 4 = .bool true := hV 20 (by decide)
      have BF := Lib.hid (bwt7.out.trans (hBx.mono bwt7.out.size))
      clear hBx hV
      simp only [h4, fill, List.drop_succ_cons, List.drop_zero, List.foldl_cons, List.foldl_nil, Act.put, List.setIfInBounds_toArray, List.set_cons_succ, List.set_cons_zero]
      go_wp2
      go_ret
      exact ⟨rfl, BF.out⟩
theorem refuses_any (gp gs gr : Int) (f : Fr) (hs : f.body.length ≤ maxLen) (w : World) :
    Calls Try.prog 5 #[Geom.gV ⟨gp, gs, gr⟩, fV f] w fun e w' => e = .returned (.bool true) ∧ Below w.heap.size w w' := by
  by_cases hk : (bytesG ⟨((32 + gp % 33).toNat : Int), ((3 + gs % 4).toNat : Int), ((4 + gr % 4).toNat : Int)⟩ f).2 = 0
  · exact refuses_ok gp gs gr f hs w hk
  · exact refuses_no gp gs gr f hs w hk
end Go.Proofs.Ytcmjambbdfangaa.Tape
