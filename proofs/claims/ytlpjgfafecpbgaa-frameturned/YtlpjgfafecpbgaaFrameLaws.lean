/-
  The walks of the laws of chapter 8: alive, FrameLays, FrameReads.
-/
import Derived.Test.YtlpjgfafecpbgaaFrameX
import Derived.Test.YtlpjgfafecpbgaaGeomB
import Derived.Test.YtlpjgfafecpbgaaFoot
set_option linter.unusedVariables false
set_option linter.unusedSimpArgs false
namespace Go.Proofs.Ytlpjgfafecpbgaa.Frame
open Go.RowKit
open CrcM (W)
open Crc (le4 sumOf vl wd putS)
open Flash (bs bs_size bs_list list_bs)
open Tup Bytes Foot
open Go.Proofs.Ytlpjgfafecpbgaa.Region (fill Then Deps Each wp_region_is wp_region_is_tail wp_region_each wp_region_tail)

/-- a variable, where another one is written -/
theorem Var.other {w : World} {k : Nat} {t : TypeId} {cs : List Value} (h : Var w k t cs) (p : Addr) (v : Value) (hp : k ≠ p.block) : Var (w.setCell p v) k t cs := (Grows.set (S := fun j => j = p.block) w p v rfl).var h hp
def aliveF : Fr := ⟨2, 7#32, 0#32, [97, 98]⟩
theorem alive_ok : aliveF.Ok 32 := ⟨by decide, by decide, by decide, by decide, by decide⟩
theorem alive_bytes : bytesG ⟨32, 4, 4⟩ aliveF = (page 32 aliveF, 0) := bytesG_ok (by decide) (by decide) (by decide)
theorem alive_none : readF (List.replicate 32 255) = (zeroF, 9) := read_none (by simp) (Flash.blank_replicate 32)
set_option maxRecDepth 100000 in
set_option maxHeartbeats 4000000 in
theorem alive_any (w : World) : Calls Try.prog 14 #[] w fun e w' => e = .returned (.bool true) ∧ Below w.heap.size w w' := by
  have HBY := Lib.hid (fun w => fBytes_any ⟨32, 4, 4⟩ aliveF (by decide) w)
  rw [alive_bytes] at HBY
  have hpl := page_length alive_ok
  have HR1 := Lib.hid (fun w => fRead_any (bs (page 32 aliveF)) (by rw [bs_size, hpl]; unfold maxLen; omega) w)
  rw [list_bs, read_page alive_ok] at HR1
  have HR2 := Lib.hid (fun w => fRead_any (bs (List.replicate 32 255)) (by rw [bs_size, List.length_replicate]; unfold maxLen; omega) w)
  rw [list_bs, alive_none] at HR2
  have HF := Lib.hid (fun w => Flash.fill_any 255 32 32 (.inl rfl) (by omega) w)
  rw [show (((255 : UInt8).toNat : Int)) = 255 from rfl] at HF
  obtain ⟨S, hS⟩ : ∃ S, S = bs (page 32 aliveF) := ⟨_, rfl⟩
  have hSz : (S.size : Int) = 32 := by rw [hS, bs_size, hpl]; rfl
  rw [← hS] at HBY HR1
  obtain ⟨T, hT⟩ : ∃ T, T = bs (List.replicate 32 (255 : UInt8)) := ⟨_, rfl⟩
  rw [← hT] at HF HR2
  unfold fV aliveF at HBY HR1
  unfold fV zeroF at HR2
  unfold Geom.gV at HBY
  simp only at HBY HR1 HR2
  rw [show vl 7#32 = 7 from rfl, show vl 0#32 = 0 from rfl, show bs [97, 98] = ⟨#[97, 98]⟩ from rfl] at HBY HR1
  rw [show vl 0#32 = 0 from rfl, show bs [] = ⟨#[]⟩ from rfl] at HR2
  clear hS hT hpl
  go_enter Try.func14, Try.ntmps14
  go_wp2_with (first
    | (go_at_call 12; (with_reducible refine (HBY.out _).mono ?_); rintro e w1 ⟨rfl, b1⟩)
    | (go_at_call 16; (with_reducible refine (HR1.out _).mono ?_); rintro e w2 ⟨rfl, b2⟩; have HV2 := Lib.hid (Var.new w2 26 [.int .i64 2, .int .u32 7, .int .u32 0, .string ⟨#[97, 98]⟩]))
    | (go_at_call 15; (with_reducible refine (HF.out _).mono ?_); rintro e w3 ⟨rfl, b3⟩)
    | (go_at_call 16; (with_reducible refine (HR2.out _).mono ?_); rintro e w4 ⟨rfl, b4⟩; have v4 := (HV2.out.below (bel2 b3 b4) HV2.out.lt).alloc (.cells #[.int .i64 0, .int .u32 0, .int .u32 0, .string ⟨#[]⟩] 26); have k0 := v4.cell (j := 0) rfl; have k1 := v4.cell (j := 1) rfl; have k2 := v4.cell (j := 2) rfl; have k3 := v4.cell (j := 3) rfl; clear v4))
  go_ret
  exact ⟨rfl, ((bel2 (bel2 ((bel2 b1 b2).alloc (bel2 b1 b2).size _) b3) b4).alloc (bel2 (bel2 ((bel2 b1 b2).alloc (bel2 b1 b2).size _) b3) b4).size _)⟩
set_option maxRecDepth 100000 in
set_option maxHeartbeats 8000000 in
theorem lays_plain (g : Geom.Gm) (f : Fr) (hs : f.body.length ≤ maxLen) (w : World) : Calls Try.prog 3 #[Geom.gV g, fV f, .bool false] w fun e w' => e = .returned (.bool true) ∧ Below w.heap.size w w' := by
  have HX := Lib.hid (fun w => fBytes_any g f hs w)
  have HY := Lib.hid (fun w => refBytes_any g f hs w)
  generalize (bytesG g f).1 = S at *
  generalize (bytesG g f).2 = cd at *
  obtain ⟨gp, gs, gr⟩ := g
  obtain ⟨kd, a, b, body⟩ := f
  obtain ⟨B, hB⟩ : ∃ B, B = bs body := ⟨_, rfl⟩
  simp only at hs
  have HG := Lib.hid ((Var.new w 23 [.int .i64 gp, .int .i64 gs, .int .i64 gr]).alloc (.cells #[.int .i64 kd, .int .u32 (vl a), .int .u32 (vl b), .string B] 26))
  have HF := Lib.hid (Var.new (w.alloc (.cells #[.int .i64 gp, .int .i64 gs, .int .i64 gr] 23)) 26 [.int .i64 kd, .int .u32 (vl a), .int .u32 (vl b), .string B])
  have hsz1 : (w.alloc (.cells #[.int .i64 gp, .int .i64 gs, .int .i64 gr] 23)).heap.size = w.heap.size + 1 := by simp
  rw [hsz1] at HF
  obtain ⟨w1, hw1⟩ : ∃ w1, w1 = (w.alloc (.cells #[.int .i64 gp, .int .i64 gs, .int .i64 gr] 23)).alloc (.cells #[.int .i64 kd, .int .u32 (vl a), .int .u32 (vl b), .string B] 26) := ⟨_, rfl⟩
  have HB1 := Lib.hid (show Below w.heap.size w w1 by rw [hw1]; exact bel2 (Geom.bel_alloc _ _) (Geom.bel_alloc _ _))
  have HG1 := Lib.hid (show Var w1 w.heap.size 23 [.int .i64 gp, .int .i64 gs, .int .i64 gr] by rw [hw1]; exact HG.out)
  have HF1 := Lib.hid (show Var w1 (w.heap.size + 1) 26 [.int .i64 kd, .int .u32 (vl a), .int .u32 (vl b), .string B] by rw [hw1]; exact HF.out)
  have HAL := Lib.hid (fun w => alive_any w)
  unfold Geom.gV fV at HX HY ⊢
  simp only at HX HY ⊢
  rw [← hB] at HX HY ⊢
  clear hB
  go_enter Try.func3, Try.ntmps3
  go_wp2_with (first
    | (go_at_call 12; (with_reducible refine (HX.out _).mono ?_); rintro e w5 ⟨rfl, b50⟩; have b5 : Below w1.heap.size w1 w5 := (by rw [hw1]; exact b50); have VG5 := Lib.hid (HG1.out.below b5 HG1.out.lt); have VF5 := Lib.hid (HF1.out.below b5 HF1.out.lt); have BW5 := Lib.hid (bel2 HB1.out b5); clear b50; have g0 := (VG5.out).cell (j := 0) rfl; have g1 := (VG5.out).cell (j := 1) rfl; have g2 := (VG5.out).cell (j := 2) rfl; have k0 := (VF5.out).cell (j := 0) rfl; have k1 := (VF5.out).cell (j := 1) rfl; have k2 := (VF5.out).cell (j := 2) rfl; have k3 := (VF5.out).cell (j := 3) rfl)
    | (go_at_call 13; (with_reducible refine (HY.out _).mono ?_); rintro e w6 ⟨rfl, b6⟩; have VG6 := Lib.hid (VG5.out.below b6 VG5.out.lt); have VF6 := Lib.hid (VF5.out.below b6 VF5.out.lt); have BW6 := Lib.hid (bel2 BW5.out b6))
    | (go_at_call 14; (with_reducible refine (HAL.out _).mono ?_); rintro e w7 ⟨rfl, b7⟩; have VG7 := Lib.hid (VG6.out.below b7 VG6.out.lt); have VF7 := Lib.hid (VF6.out.below b7 VF6.out.lt); have BW7 := Lib.hid (bel2 BW6.out b7)))
  go_ret
  exact ⟨rfl, BW7.out⟩
set_option maxRecDepth 100000 in
set_option maxHeartbeats 8000000 in
theorem lays_small (g : Geom.Gm) (f : Fr) (hs : f.body.length ≤ maxLen) (w : World) : Calls Try.prog 3 #[Geom.gV g, fV f, .bool true] w fun e w' => e = .returned (.bool true) ∧ Below w.heap.size w w' := by
  have HGE := Lib.hid (fun w => Geom.geom_any g w)
  have HX := Lib.hid (fun w => fBytes_any (Geom.smallG g) { f with kind := f.kind % 6 } hs w)
  have HY := Lib.hid (fun w => refBytes_any (Geom.smallG g) { f with kind := f.kind % 6 } hs w)
  have HP : Hid (∀ w, Calls Try.prog 11 #[.int .i64 f.kind, .int .i64 6] w fun e w' => e = .returned (.int .i64 (f.kind % 6)) ∧ w = w') := fun w => Book.pick_any f.kind 6 (by decide) (by decide) w
  generalize (bytesG (Geom.smallG g) { f with kind := f.kind % 6 }).1 = S at *
  generalize (bytesG (Geom.smallG g) { f with kind := f.kind % 6 }).2 = cd at *
  obtain ⟨hp, hq, hr, hsg⟩ : ∃ hp hq hr, Geom.smallG g = ⟨hp, hq, hr⟩ := ⟨_, _, _, rfl⟩
  rw [hsg] at HX HY HGE
  obtain ⟨gp, gs, gr⟩ := g
  obtain ⟨kd, a, b, body⟩ := f
  obtain ⟨B, hB⟩ : ∃ B, B = bs body := ⟨_, rfl⟩
  simp only at hs
  have HG := Lib.hid ((Var.new w 23 [.int .i64 gp, .int .i64 gs, .int .i64 gr]).alloc (.cells #[.int .i64 kd, .int .u32 (vl a), .int .u32 (vl b), .string B] 26))
  have HF := Lib.hid (Var.new (w.alloc (.cells #[.int .i64 gp, .int .i64 gs, .int .i64 gr] 23)) 26 [.int .i64 kd, .int .u32 (vl a), .int .u32 (vl b), .string B])
  have hsz1 : (w.alloc (.cells #[.int .i64 gp, .int .i64 gs, .int .i64 gr] 23)).heap.size = w.heap.size + 1 := by simp
  rw [hsz1] at HF
  obtain ⟨w1, hw1⟩ : ∃ w1, w1 = (w.alloc (.cells #[.int .i64 gp, .int .i64 gs, .int .i64 gr] 23)).alloc (.cells #[.int .i64 kd, .int .u32 (vl a), .int .u32 (vl b), .string B] 26) := ⟨_, rfl⟩
  have HB1 := Lib.hid (show Below w.heap.size w w1 by rw [hw1]; exact bel2 (Geom.bel_alloc _ _) (Geom.bel_alloc _ _))
  have HG1 := Lib.hid (show Var w1 w.heap.size 23 [.int .i64 gp, .int .i64 gs, .int .i64 gr] by rw [hw1]; exact HG.out)
  have HF1 := Lib.hid (show Var w1 (w.heap.size + 1) 26 [.int .i64 kd, .int .u32 (vl a), .int .u32 (vl b), .string B] by rw [hw1]; exact HF.out)
  have HAL := Lib.hid (fun w => alive_any w)
  unfold Geom.gV at HX HY HGE ⊢
  unfold fV at HX HY ⊢
  simp only at HX HY HP ⊢
  obtain ⟨k6, hk6⟩ : ∃ k6, k6 = kd % 6 := ⟨_, rfl⟩
  rw [← hk6] at HX HY HP
  rw [← hB] at HX HY ⊢
  clear hB hsg hk6
  go_enter Try.func3, Try.ntmps3
  go_wp2_with (first
    | (go_at_call 10; (with_reducible refine (HGE.out _).mono ?_); rintro e w2 ⟨rfl, b20⟩; have b2 : Below w1.heap.size w1 w2 := (by rw [hw1]; exact b20); clear b20; have vg := HG1.out.below b2 HG1.out.lt; have vf := HF1.out.below b2 HF1.out.lt; have y0 := vg.cell (j := 0) rfl; have y1 := vg.cell (j := 1) rfl; have y2 := vg.cell (j := 2) rfl; have x0 := vg.frozen 0; have x1 := vg.frozen 1; have x2 := vg.frozen 2; have VG3 := Lib.hid (((vg.set 0 (.int .i64 hp)).set 1 (.int .i64 hq)).set 2 (.int .i64 hr)); have vf3 := Var.other (Var.other (Var.other vf ⟨w.heap.size, 0, none⟩ (.int .i64 hp) (Nat.succ_ne_self _)) ⟨w.heap.size, 1, none⟩ (.int .i64 hq) (Nat.succ_ne_self _)) ⟨w.heap.size, 2, none⟩ (.int .i64 hr) (Nat.succ_ne_self _); have VF3 := Lib.hid vf3; have t0 := vf3.cell (j := 0) rfl; have u0 := vf3.frozen 0; have BW3 := Lib.hid ((((bel2 HB1.out b2).setCell (p := ⟨w.heap.size, 0, none⟩) (Nat.le_refl _) (.int .i64 hp)).setCell (p := ⟨w.heap.size, 1, none⟩) (Nat.le_refl _) (.int .i64 hq)).setCell (p := ⟨w.heap.size, 2, none⟩) (Nat.le_refl _) (.int .i64 hr)); clear vg vf vf3)
    | (go_at_call 11; (with_reducible refine (HP.out _).mono ?_); rintro e w4 ⟨rfl, rfl⟩; have VF4 := Lib.hid (VF3.out.set 0 (.int .i64 k6)); have VG4 := Lib.hid (Var.other VG3.out ⟨w.heap.size + 1, 0, none⟩ (.int .i64 k6) (Ne.symm (Nat.succ_ne_self _))); have BW4 := Lib.hid (BW3.out.setCell (p := ⟨w.heap.size + 1, 0, none⟩) (Nat.le_succ _) (.int .i64 k6)); have g0 := (VG4.out).cell (j := 0) rfl; have g1 := (VG4.out).cell (j := 1) rfl; have g2 := (VG4.out).cell (j := 2) rfl; have k0 := (VF4.out).cell (j := 0) rfl; have k1 := (VF4.out).cell (j := 1) rfl; have k2 := (VF4.out).cell (j := 2) rfl; have k3 := (VF4.out).cell (j := 3) rfl)
    | (go_at_call 12; (with_reducible refine (HX.out _).mono ?_); rintro e w5 ⟨rfl, b5⟩; have VG5 := Lib.hid (VG4.out.below b5 VG4.out.lt); have VF5 := Lib.hid (VF4.out.below b5 VF4.out.lt); have BW5 := Lib.hid (bel2 BW4.out b5); clear g0 g1 g2 k0 k1 k2 k3; have g0 := (VG5.out).cell (j := 0) rfl; have g1 := (VG5.out).cell (j := 1) rfl; have g2 := (VG5.out).cell (j := 2) rfl; have k0 := (VF5.out).cell (j := 0) rfl; have k1 := (VF5.out).cell (j := 1) rfl; have k2 := (VF5.out).cell (j := 2) rfl; have k3 := (VF5.out).cell (j := 3) rfl)
    | (go_at_call 13; (with_reducible refine (HY.out _).mono ?_); rintro e w6 ⟨rfl, b6⟩; have VG6 := Lib.hid (VG5.out.below b6 VG5.out.lt); have VF6 := Lib.hid (VF5.out.below b6 VF5.out.lt); have BW6 := Lib.hid (bel2 BW5.out b6))
    | (go_at_call 14; (with_reducible refine (HAL.out _).mono ?_); rintro e w7 ⟨rfl, b7⟩; have VG7 := Lib.hid (VG6.out.below b7 VG6.out.lt); have VF7 := Lib.hid (VF6.out.below b7 VF6.out.lt); have BW7 := Lib.hid (bel2 BW6.out b7)))
  go_ret
  exact ⟨rfl, BW7.out⟩
set_option maxRecDepth 100000 in
set_option maxHeartbeats 8000000 in
theorem reads_plain (s : ByteArray) (hs : s.size ≤ maxLen) (k : Int) (w : World) : Calls Try.prog 4 #[.string s, .int .i64 k, .bool false] w fun e w' => e = .returned (.bool true) ∧ Below w.heap.size w w' := by
  have HX := Lib.hid (fun w => fRead_any s hs w)
  have HY := Lib.hid (fun w => refRead_any s hs w)
  have HB := Lib.hid (fun w => fBlank_any s hs w)
  have HC := Lib.hid (fun w => Flash.refBlank_any s hs w)
  have HAL := Lib.hid (fun w => alive_any w)
  generalize Flash.blank s.data.toList = bl at *
  generalize (readF s.data.toList).2 = cd at *
  generalize (readF s.data.toList).1 = F at *
  obtain ⟨kd, a, bb, body⟩ := F
  unfold fV at HX HY
  simp only at HX HY
  obtain ⟨B, hB⟩ : ∃ B, B = bs body := ⟨_, rfl⟩
  rw [← hB] at HX HY
  have q1 : (bl == bl) = true := by simp
  clear hB hs
  go_enter Try.func4, Try.ntmps4
  go_wp2_with (first
    | (go_at_call 16; (with_reducible refine (HX.out _).mono ?_); rintro e w5 ⟨rfl, b5⟩; have BW5 := Lib.hid (b5); have HV5 := Lib.hid (Var.new w5 26 [.int .i64 kd, .int .u32 (vl a), .int .u32 (vl bb), .string B]))
    | (go_at_call 17; (with_reducible refine (HY.out _).mono ?_); rintro e w6 ⟨rfl, b6⟩; have BW6 := Lib.hid (bel2 (bel2 BW5.out (Geom.bel_alloc _ _)) b6); have VA6 := Lib.hid ((HV5.out.below b6 HV5.out.lt).alloc (.cells #[.int .i64 kd, .int .u32 (vl a), .int .u32 (vl bb), .string B] 26)); have VB6 := Lib.hid (Var.new w6 26 [.int .i64 kd, .int .u32 (vl a), .int .u32 (vl bb), .string B]))
    | (go_at_call 14; (with_reducible refine (HAL.out _).mono ?_); rintro e w7 ⟨rfl, b7⟩; have BW7 := Lib.hid (bel2 (bel2 BW6.out (Geom.bel_alloc _ _)) b7); have va := VA6.out.below b7 VA6.out.lt; have vb := VB6.out.below b7 VB6.out.lt; have k0 := va.cell (j := 0) rfl; have k1 := va.cell (j := 1) rfl; have k2 := va.cell (j := 2) rfl; have k3 := va.cell (j := 3) rfl; have m0 := vb.cell (j := 0) rfl; have m1 := vb.cell (j := 1) rfl; have m2 := vb.cell (j := 2) rfl; have m3 := vb.cell (j := 3) rfl; clear va vb)
    | (go_at_call 18; (with_reducible refine (HB.out _).mono ?_); rintro e w8 ⟨rfl, b8⟩; have BW8 := Lib.hid (bel2 BW7.out b8))
    | (go_at_call 19; (with_reducible refine (HC.out _).mono ?_); rintro e w9 ⟨rfl, rfl⟩))
  go_ret
  exact ⟨rfl, BW8.out⟩
set_option maxRecDepth 100000 in
set_option maxHeartbeats 8000000 in
theorem reads_blank (s0 : ByteArray) (k : Int) (w : World) : Calls Try.prog 4 #[.string s0, .int .i64 k, .bool true] w fun e w' => e = .returned (.bool true) ∧ Below w.heap.size w w' := by
  obtain ⟨n, hn⟩ : ∃ n : Nat, (n : Int) = k % 140 := ⟨(k % 140).toNat, by omega⟩
  have hn1 : n < 140 := by omega
  have HP : Hid (∀ w, Calls Try.prog 11 #[.int .i64 k, .int .i64 140] w fun e w' => e = .returned (.int .i64 (k % 140)) ∧ w = w') := fun w => Book.pick_any k 140 (by decide) (by decide) w
  rw [← hn] at HP
  have HF := Lib.hid (fun w => Flash.fill_any 255 (n : Int) n (.inl rfl) (by omega) w)
  rw [show (((255 : UInt8).toNat : Int)) = 255 from rfl] at HF
  obtain ⟨s, hsd⟩ : ∃ s, s = bs (List.replicate n (255 : UInt8)) := ⟨_, rfl⟩
  have hs : s.size ≤ maxLen := by rw [hsd, bs_size, List.length_replicate]; unfold maxLen; omega
  rw [← hsd] at HF
  clear hsd hn
  have HX := Lib.hid (fun w => fRead_any s hs w)
  have HY := Lib.hid (fun w => refRead_any s hs w)
  have HB := Lib.hid (fun w => fBlank_any s hs w)
  have HC := Lib.hid (fun w => Flash.refBlank_any s hs w)
  have HAL := Lib.hid (fun w => alive_any w)
  generalize Flash.blank s.data.toList = bl at *
  generalize (readF s.data.toList).2 = cd at *
  generalize (readF s.data.toList).1 = F at *
  obtain ⟨kd, a, bb, body⟩ := F
  unfold fV at HX HY
  simp only at HX HY
  obtain ⟨B, hB⟩ : ∃ B, B = bs body := ⟨_, rfl⟩
  rw [← hB] at HX HY
  have q1 : (bl == bl) = true := by simp
  clear hB hs
  go_enter Try.func4, Try.ntmps4
  go_wp2_with (first
    | (go_at_call 11; (with_reducible refine (HP.out _).mono ?_); rintro e w3 ⟨rfl, rfl⟩)
    | (go_at_call 15; (with_reducible refine (HF.out _).mono ?_); rintro e w4 ⟨rfl, b4⟩)
    | (go_at_call 16; (with_reducible refine (HX.out _).mono ?_); rintro e w5 ⟨rfl, b5⟩; have BW5 := Lib.hid (bel2 b4 b5); have HV5 := Lib.hid (Var.new w5 26 [.int .i64 kd, .int .u32 (vl a), .int .u32 (vl bb), .string B]))
    | (go_at_call 17; (with_reducible refine (HY.out _).mono ?_); rintro e w6 ⟨rfl, b6⟩; have BW6 := Lib.hid (bel2 (bel2 BW5.out (Geom.bel_alloc _ _)) b6); have VA6 := Lib.hid ((HV5.out.below b6 HV5.out.lt).alloc (.cells #[.int .i64 kd, .int .u32 (vl a), .int .u32 (vl bb), .string B] 26)); have VB6 := Lib.hid (Var.new w6 26 [.int .i64 kd, .int .u32 (vl a), .int .u32 (vl bb), .string B]))
    | (go_at_call 14; (with_reducible refine (HAL.out _).mono ?_); rintro e w7 ⟨rfl, b7⟩; have BW7 := Lib.hid (bel2 (bel2 BW6.out (Geom.bel_alloc _ _)) b7); have va := VA6.out.below b7 VA6.out.lt; have vb := VB6.out.below b7 VB6.out.lt; have k0 := va.cell (j := 0) rfl; have k1 := va.cell (j := 1) rfl; have k2 := va.cell (j := 2) rfl; have k3 := va.cell (j := 3) rfl; have m0 := vb.cell (j := 0) rfl; have m1 := vb.cell (j := 1) rfl; have m2 := vb.cell (j := 2) rfl; have m3 := vb.cell (j := 3) rfl; clear va vb)
    | (go_at_call 18; (with_reducible refine (HB.out _).mono ?_); rintro e w8 ⟨rfl, b8⟩; have BW8 := Lib.hid (bel2 BW7.out b8))
    | (go_at_call 19; (with_reducible refine (HC.out _).mono ?_); rintro e w9 ⟨rfl, rfl⟩))
  go_ret
  exact ⟨rfl, BW8.out⟩
/-- a frame that may be, of a geom -/
def shapeF (g : Geom.Gm) (f : Fr) : Fr := ⟨1 + f.kind % 4, f.a, f.b, f.body.take (g.page.toNat - 15)⟩
theorem shape_ok {g : Geom.Gm} (hg : Geom.Small g) (f : Fr) : (shapeF g f).Ok g.page.toNat := by
  obtain ⟨p0, p1, -⟩ := hg
  refine ⟨by simp only [shapeF]; omega, by simp only [shapeF]; omega, ?_, by omega, by omega⟩
  simp only [shapeF, List.length_take]; omega
theorem shape_bytes {g : Geom.Gm} (hg : Geom.Small g) (f : Fr) : bytesG g (shapeF g f) = (page g.page.toNat (shapeF g f), 0) := by
  have h := shape_ok hg f
  have h1 := h.k1; have h4 := h.k4; have hf := h.fits
  exact bytesG_ok (Geom.right_small.mpr hg) (by omega) (by omega)
set_option maxRecDepth 100000 in
set_option maxHeartbeats 8000000 in
theorem shaped_any (g : Geom.Gm) (hg : Geom.Small g) (f : Fr) (hs : f.body.length ≤ maxLen) (w : World) : Calls Try.prog 20 #[Geom.gV g, fV f] w fun e w' => e = .returned (fV (shapeF g f)) ∧ Below w.heap.size w w' := by
  have HP : Hid (∀ w, Calls Try.prog 11 #[.int .i64 f.kind, .int .i64 4] w fun e w' => e = .returned (.int .i64 (f.kind % 4)) ∧ w = w') := fun w => Book.pick_any f.kind 4 (by decide) (by decide) w
  have HRM := Lib.hid (fun w => Geom.refRoom_any g hg w)
  have hbs : (bs f.body).size ≤ maxLen := by rw [bs_size]; exact hs
  have HSH := Lib.hid (fun w => Txt.shortB_any (bs f.body) hbs (g.page.toNat - 15) (by obtain ⟨_, p1, -⟩ := hg; omega) (g.page - 15) (by obtain ⟨p0, _, -⟩ := hg; omega) w)
  rw [list_bs] at HSH
  have HE := Lib.hid (show fV (shapeF g f) = .agg #[.int .i64 (1 + f.kind % 4), .int .u32 (vl f.a), .int .u32 (vl f.b), .string (bs (f.body.take (g.page.toNat - 15)))] from rfl)
  generalize f.body.take (g.page.toNat - 15) = SB at *
  obtain ⟨k6, hk6⟩ : ∃ k6, k6 = f.kind % 4 := ⟨_, rfl⟩
  have hk7 : 0 ≤ k6 ∧ k6 ≤ 4 := by omega
  rw [← hk6] at HP HE
  rw [HE.out]
  obtain ⟨gp, gs, gr⟩ := g
  obtain ⟨kd, a, b, body⟩ := f
  obtain ⟨B, hB⟩ : ∃ B, B = bs body := ⟨_, rfl⟩
  simp only at hs
  have HG := Lib.hid ((Var.new w 23 [.int .i64 gp, .int .i64 gs, .int .i64 gr]).alloc (.cells #[.int .i64 kd, .int .u32 (vl a), .int .u32 (vl b), .string B] 26))
  have HF := Lib.hid (Var.new (w.alloc (.cells #[.int .i64 gp, .int .i64 gs, .int .i64 gr] 23)) 26 [.int .i64 kd, .int .u32 (vl a), .int .u32 (vl b), .string B])
  have hsz1 : (w.alloc (.cells #[.int .i64 gp, .int .i64 gs, .int .i64 gr] 23)).heap.size = w.heap.size + 1 := by simp
  rw [hsz1] at HF
  obtain ⟨w1, hw1⟩ : ∃ w1, w1 = (w.alloc (.cells #[.int .i64 gp, .int .i64 gs, .int .i64 gr] 23)).alloc (.cells #[.int .i64 kd, .int .u32 (vl a), .int .u32 (vl b), .string B] 26) := ⟨_, rfl⟩
  have HB1 := Lib.hid (show Below w.heap.size w w1 by rw [hw1]; exact bel2 (Geom.bel_alloc _ _) (Geom.bel_alloc _ _))
  have HG1 := Lib.hid (show Var w1 w.heap.size 23 [.int .i64 gp, .int .i64 gs, .int .i64 gr] by rw [hw1]; exact HG.out)
  have HF1 := Lib.hid (show Var w1 (w.heap.size + 1) 26 [.int .i64 kd, .int .u32 (vl a), .int .u32 (vl b), .string B] by rw [hw1]; exact HF.out)
  unfold Geom.gV Geom.roomG at HRM
  unfold Geom.gV fV
  simp only at HRM HSH HP ⊢
  rw [← hB] at HSH ⊢
  obtain ⟨w3, hw3⟩ : ∃ w3, w3 = ((w.alloc (.cells #[.int .i64 gp, .int .i64 gs, .int .i64 gr] 23)).alloc (.cells #[.int .i64 (1 + k6), .int .u32 (vl a), .int .u32 (vl b), .string B] 26)).alloc (.cells #[.int .i64 0, .int .u32 0, .int .u32 0, .string ⟨#[]⟩] 26) := ⟨_, rfl⟩
  have hsz3 : ((w.alloc (.cells #[.int .i64 gp, .int .i64 gs, .int .i64 gr] 23)).alloc (.cells #[.int .i64 (1 + k6), .int .u32 (vl a), .int .u32 (vl b), .string B] 26)).heap.size = w.heap.size + 2 := by simp
  have HG3 := Lib.hid (show Var w3 w.heap.size 23 [.int .i64 gp, .int .i64 gs, .int .i64 gr] by rw [hw3]; exact ((Var.new w _ _).alloc _).alloc _)
  have HF3 := Lib.hid (show Var w3 (w.heap.size + 1) 26 [.int .i64 (1 + k6), .int .u32 (vl a), .int .u32 (vl b), .string B] by
    have := (Var.new (w.alloc (.cells #[.int .i64 gp, .int .i64 gs, .int .i64 gr] 23)) 26 [.int .i64 (1 + k6), .int .u32 (vl a), .int .u32 (vl b), .string B]).alloc (.cells #[.int .i64 0, .int .u32 0, .int .u32 0, .string ⟨#[]⟩] 26)
    rw [hsz1] at this
    rw [hw3]; exact this)
  have HR3 := Lib.hid (show Var w3 (w.heap.size + 2) 26 [.int .i64 0, .int .u32 0, .int .u32 0, .string ⟨#[]⟩] by
    have := Var.new ((w.alloc (.cells #[.int .i64 gp, .int .i64 gs, .int .i64 gr] 23)).alloc (.cells #[.int .i64 (1 + k6), .int .u32 (vl a), .int .u32 (vl b), .string B] 26)) 26 [.int .i64 0, .int .u32 0, .int .u32 0, .string ⟨#[]⟩]
    rw [hsz3] at this
    rw [hw3]; exact this)
  have HB3 := Lib.hid (show Below w.heap.size w w3 by rw [hw3]; exact bel2 (bel2 (Geom.bel_alloc _ _) (Geom.bel_alloc _ _)) (Geom.bel_alloc _ _))
  clear hB hk6 hs hbs
  go_enter Try.func20, Try.ntmps20
  go_wp2_with (go_at_call 11; (with_reducible refine (HP.out _).mono ?_); rintro e w4 ⟨rfl, rfl⟩)
  rw [← hw3]
  clear hw3 hw1 HG HF HG1 HF1 HB1
  refine wp_region_is_tail 5 [10, 11, 12, 13, 14] (fun w' => Below w3.heap.size w3 w')
    [.pointer (some ⟨w.heap.size + 1, 3, none⟩), .string B, .agg #[.int .i64 gp, .int .i64 gs, .int .i64 gr], .int .i64 (gp - 15), .string (bs SB)] (by kernel_rfl) (by kernel_rfl) (by kernel_rfl) (by decide) rfl (by decide) (by simp) (Below.refl _ _).drew ?each ?done
  case each =>
    simp only [List.take_succ_cons, List.take_zero, Each]
    repeat' (first | exact trivial | refine And.intro ?_ ?_)
    all_goals
      intro ys wx hBx hdeps
      simp only [Deps, Region.binds, List.getD_cons_zero, List.getD_cons_succ, forall_const, and_true] at hdeps
      have q3 := (HF3.out.below hBx HF3.out.lt).cell (j := 3) rfl
      have g0 := (HG3.out.below hBx HG3.out.lt).cell (j := 0) rfl
      have g1 := (HG3.out.below hBx HG3.out.lt).cell (j := 1) rfl
      have g2 := (HG3.out.below hBx HG3.out.lt).cell (j := 2) rfl
      simp only [hdeps, fill, List.foldl_cons, List.foldl_nil, Act.put, List.setIfInBounds_toArray, List.set_cons_succ, List.set_cons_zero]
      first
        | (go_wp2_with fail; exact ⟨_, rfl, rfl, hBx, Below.refl _ _⟩)
        | (go_wp2_with (go_at_call 24; (with_reducible refine (HRM.out _).mono ?_); rintro e w3 ⟨rfl, hm⟩); exact ⟨_, rfl, rfl, hBx.trans (hm.mono hBx.size), hm⟩)
        | (go_wp2_with (go_at_call 23; (with_reducible refine (HSH.out _).mono ?_); rintro e w3 ⟨rfl, rfl⟩); exact ⟨_, rfl, rfl, hBx, Below.refl _ _⟩)
  case done =>
    intro ys wx hBx hV
    have h14 : ys 14 = .string (bs SB) := hV 4 (by decide)
    have HBx := Lib.hid (bel2 HB3.out hBx)
    have k0 := (HF3.out.below hBx HF3.out.lt).cell (j := 0) rfl
    have k1 := (HF3.out.below hBx HF3.out.lt).cell (j := 1) rfl
    have k2 := (HF3.out.below hBx HF3.out.lt).cell (j := 2) rfl
    have k3 := (HF3.out.below hBx HF3.out.lt).cell (j := 3) rfl
    have f3 := (HF3.out.below hBx HF3.out.lt).frozen 3
    have r0 := (HR3.out.below hBx HR3.out.lt).cell (j := 0) rfl
    have r1 := (HR3.out.below hBx HR3.out.lt).cell (j := 1) rfl
    have r2 := (HR3.out.below hBx HR3.out.lt).cell (j := 2) rfl
    have r3 := (HR3.out.below hBx HR3.out.lt).cell (j := 3) rfl
    have s0 := (HR3.out.below hBx HR3.out.lt).frozen 0
    have s1 := (HR3.out.below hBx HR3.out.lt).frozen 1
    have s2 := (HR3.out.below hBx HR3.out.lt).frozen 2
    have s3 := (HR3.out.below hBx HR3.out.lt).frozen 3
    have vf := (HF3.out.below hBx HF3.out.lt).set 3 (.string (bs SB))
    have vr0 := Var.other (HR3.out.below hBx HR3.out.lt) ⟨w.heap.size + 1, 3, none⟩ (.string (bs SB)) (Nat.succ_ne_self _)
    have vr := (((vr0.set 0 (.int .i64 (1 + k6))).set 1 (.int .u32 (vl a))).set 2 (.int .u32 (vl b))).set 3 (.string (bs SB))
    have m0 := vf.cell (j := 0) rfl
    have m1 := vf.cell (j := 1) rfl
    have m2 := vf.cell (j := 2) rfl
    have m3 := vf.cell (j := 3) rfl
    have n0 := vr0.cell (j := 0) rfl
    have n1 := vr0.cell (j := 1) rfl
    have n2 := vr0.cell (j := 2) rfl
    have n3 := vr0.cell (j := 3) rfl
    have o0 := vr0.frozen 0
    have o1 := vr0.frozen 1
    have o2 := vr0.frozen 2
    have o3 := vr0.frozen 3
    clear hBx hV
    simp only [h14, fill, List.drop_succ_cons, List.drop_zero, List.foldl_cons, List.foldl_nil, Act.put, List.setIfInBounds_toArray, List.set_cons_succ, List.set_cons_zero]
    go_wp2
    have z0 := vr.cell (j := 0) rfl
    have z1 := vr.cell (j := 1) rfl
    have z2 := vr.cell (j := 2) rfl
    have z3 := vr.cell (j := 3) rfl
    clear k0 k1 k2 k3 f3 r0 r1 r2 r3 s0 s1 s2 s3 vf vr0 vr m0 m1 m2 m3 n0 n1 n2 n3 o0 o1 o2 o3
    refine bodyPost_ret (v := .agg #[.int .i64 (1 + k6), .int .u32 (vl a), .int .u32 (vl b), .string (bs SB)]) (by simp [results, Try.results20, go_sem, z0, z1, z2, z3]) rfl ?_
    exact ⟨rfl, ((((HBx.out.setCell (p := ⟨w.heap.size + 1, 3, none⟩) (Nat.le_succ _) _).setCell (p := ⟨w.heap.size + 2, 0, none⟩) (by simp only; omega) _).setCell (p := ⟨w.heap.size + 2, 1, none⟩) (by simp only; omega) _).setCell (p := ⟨w.heap.size + 2, 2, none⟩) (by simp only; omega) _).setCell (p := ⟨w.heap.size + 2, 3, none⟩) (by simp only; omega) _⟩
end Go.Proofs.Ytlpjgfafecpbgaa.Frame
