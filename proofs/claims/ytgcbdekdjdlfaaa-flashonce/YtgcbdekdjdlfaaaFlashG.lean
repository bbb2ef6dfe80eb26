/-
  FlashPlays: a step on both devices.
-/
import Derived.Test.YtgcbdekdjdlfaaaFlashQ
import Derived.Test.YtgcbdekdjdlfaaaPick
set_option linter.unusedVariables false
set_option linter.unusedSimpArgs false
namespace Go.Proofs.Ytgcbdekdjdlfaaa.Flash
open Go.RowKit
open Go.Proofs.Ytgcbdekdjdlfaaa.Own
open Tup Bytes Foot
open Go.Proofs.Ytgcbdekdjdlfaaa.Region (fill Then Deps Each wp_region_is wp_region_is_tail)
theorem MaskAt.sub {S T : Nat → Prop} {w : World} {ma : Option Addr} {mask : List Int} (h : MaskAt w ma mask S) (hs : ∀ k, T k → S k) : MaskAt w ma mask T := by
  rcases h with h | ⟨b, off, ha, hl, hn⟩
  · exact .inl h
  · exact .inr ⟨b, off, ha, hl, fun x => hn (hs b x)⟩
set_option maxRecDepth 100000 in
set_option maxHeartbeats 16000000 in
theorem step_false_0 {w : World} {p r : Nat} {d : Dev} {S R : Nat → Prop} (h : Two w p r d d S R) (hd : d.Ok) (tw ta tb : Int) (ts : ByteArray) (tx : UInt8) (tm : List Int) (ma : Option Addr) (ml mc : Nat) (hs : ts.size ≤ maxLen) (hM : MaskAt w ma tm (both S R)) (hm : ∀ m ∈ tm, m < 9223372036854775808) (hml : ml = tm.length) (hml2 : tm.length ≤ maxLen) (hk : tw % 12 = 0) :
    Calls Try.prog 17 #[.pointer (some ⟨p, 0, none⟩), .pointer (some ⟨r, 0, none⟩), .agg #[.int .i64 tw, .int .i64 ta, .int .i64 tb, .string ts, .int .u8 (tx.toNat : Int), .slice ma ml mc, .bool false]] w fun e w' => e = .returned (.bool true) ∧ ∃ S' R', Two w' p r (stepD d ⟨tw, ta, tb, ts, tx, tm, false⟩) (stepD d ⟨tw, ta, tb, ts, tx, tm, false⟩) S' R' ∧ After (both S R) w w' (both S' R') := by
  have HML := Lib.hid hml
  clear hml
  have H0 := Lib.hid h
  have M0 := Lib.hid hM
  have NS := Lib.hid (show ∀ k, w.heap.size ≤ k → ¬ S k from fun k hk hs => by have := h.f.lt k hs; omega)
  obtain ⟨q0, q1, q2⟩ := rCells h.r
  have r0 : (w.alloc (.cells #[.int .i64 tw, .int .i64 ta, .int .i64 tb, .string ts, .int .u8 (tx.toNat : Int), .slice ma ml mc, .bool false] 39)).cell? ⟨r, 0, none⟩ = some (.int .i64 (d.pg : Int)) := (Grows.alloc (fun _ => False) w _).cell q0 (fun x => x)
  have r1 : (w.alloc (.cells #[.int .i64 tw, .int .i64 ta, .int .i64 tb, .string ts, .int .u8 (tx.toNat : Int), .slice ma ml mc, .bool false] 39)).cell? ⟨r, 1, none⟩ = some (.int .i64 (d.pgs : Int)) := (Grows.alloc (fun _ => False) w _).cell q1 (fun x => x)
  have r2 : (w.alloc (.cells #[.int .i64 tw, .int .i64 ta, .int .i64 tb, .string ts, .int .u8 (tx.toNat : Int), .slice ma ml mc, .bool false] 39)).cell? ⟨r, 2, none⟩ = some (.int .i64 (d.rgs : Int)) := (Grows.alloc (fun _ => False) w _).cell q2 (fun x => x)
  have HVB := Lib.hid (show Var ((w.alloc (.cells #[.int .i64 tw, .int .i64 ta, .int .i64 tb, .string ts, .int .u8 (tx.toNat : Int), .slice ma ml mc, .bool false] 39)).alloc (.cells #[.int .i64 (d.pg : Int), .int .i64 (d.pgs : Int), .int .i64 (d.rgs : Int)] 23)) w.heap.size 39 [.int .i64 tw, .int .i64 ta, .int .i64 tb, .string ts, .int .u8 (tx.toNat : Int), .slice ma ml mc, .bool false] from (Var.new w 39 [.int .i64 tw, .int .i64 ta, .int .i64 tb, .string ts, .int .u8 (tx.toNat : Int), .slice ma ml mc, .bool false]).alloc _)
  have HVG := Lib.hid (show Var ((w.alloc (.cells #[.int .i64 tw, .int .i64 ta, .int .i64 tb, .string ts, .int .u8 (tx.toNat : Int), .slice ma ml mc, .bool false] 39)).alloc (.cells #[.int .i64 (d.pg : Int), .int .i64 (d.pgs : Int), .int .i64 (d.rgs : Int)] 23)) (w.heap.size + 1) 23 [.int .i64 (d.pg : Int), .int .i64 (d.pgs : Int), .int .i64 (d.rgs : Int)] by have := Var.new (w.alloc (.cells #[.int .i64 tw, .int .i64 ta, .int .i64 tb, .string ts, .int .u8 (tx.toNat : Int), .slice ma ml mc, .bool false] 39)) 23 [.int .i64 (d.pg : Int), .int .i64 (d.pgs : Int), .int .i64 (d.rgs : Int)]; rw [show (w.alloc (.cells #[.int .i64 tw, .int .i64 ta, .int .i64 tb, .string ts, .int .u8 (tx.toNat : Int), .slice ma ml mc, .bool false] 39)).heap.size = w.heap.size + 1 by simp] at this; exact this)
  have HB2 := Lib.hid (show Below w.heap.size w ((w.alloc (.cells #[.int .i64 tw, .int .i64 ta, .int .i64 tb, .string ts, .int .u8 (tx.toNat : Int), .slice ma ml mc, .bool false] 39)).alloc (.cells #[.int .i64 (d.pg : Int), .int .i64 (d.pgs : Int), .int .i64 (d.rgs : Int)] 23)) from bel2 (Geom.bel_alloc w _) (Geom.bel_alloc _ _))
  have hp0 := hd.p0
  have hp1 := hd.p1
  have hs0 := hd.s0
  have hs1 := hd.s1
  have hr0 := hd.r0
  have hr1 := hd.r1
  have hn1 := hd.n_le
  have hn0 : 0 < d.n := Nat.mul_pos (by omega) (by omega)
  have hnn : (d.pgs : Int) * (d.rgs : Int) = (d.n : Int) := by unfold Dev.n; rw [Int.natCast_mul]
  obtain ⟨fz, hfz⟩ : ∃ fz, fz = ta % 12 := ⟨_, rfl⟩
  have hf2 : 0 ≤ fz ∧ fz < 12 := by omega
  clear h hM q0 q1 q2
  have HK : Hid (∀ w, Calls Try.prog 19 #[.int .i64 tw, .int .i64 12] w fun e w' => e = .returned (.int .i64 0) ∧ w = w') := fun w => by have := Book.pick_any tw 12 (by decide) (by decide) w; rw [show tw % ((12 : Nat) : Int) = 0 from hk] at this; exact this
  have HF := Lib.hid (fun w p S (h : FHas w p d S) => fProgram_any h hd ta (ts))
  have HR := Lib.hid (fun w p R (h : RHas w p d R) => rProgram h hd ta (ts))
  have HSt := Lib.hid (show stepD d ⟨tw, ta, tb, ts, tx, tm, false⟩ = (programD d ta (ts).data.toList).2 by unfold stepD St.page St.text; simp only [hk]; rfl)
  clear hk hfz
  go_enter Try.func17, Try.ntmps17
  go_wp2
  go_quiet (fail)
  obtain ⟨w5, hw5⟩ : ∃ w5, w5 = ((w.alloc (.cells #[.int .i64 tw, .int .i64 ta, .int .i64 tb, .string ts, .int .u8 (tx.toNat : Int), .slice ma ml mc, .bool false] 39)).alloc (.cells #[.int .i64 (d.pg : Int), .int .i64 (d.pgs : Int), .int .i64 (d.rgs : Int)] 23)).drewN nq := ⟨_, rfl⟩
  rw [← hw5]
  have B5 := Lib.hid (show Below ((w.alloc (.cells #[.int .i64 tw, .int .i64 ta, .int .i64 tb, .string ts, .int .u8 (tx.toNat : Int), .slice ma ml mc, .bool false] 39)).alloc (.cells #[.int .i64 (d.pg : Int), .int .i64 (d.pgs : Int), .int .i64 (d.rgs : Int)] 23)).heap.size ((w.alloc (.cells #[.int .i64 tw, .int .i64 ta, .int .i64 tb, .string ts, .int .u8 (tx.toNat : Int), .slice ma ml mc, .bool false] 39)).alloc (.cells #[.int .i64 (d.pg : Int), .int .i64 (d.pgs : Int), .int .i64 (d.rgs : Int)] 23)) w5 by rw [hw5]; exact below_drewN _ _)
  have VB5 := Lib.hid (HVB.out.below B5.out HVB.out.lt)
  have VG5 := Lib.hid (HVG.out.below B5.out HVG.out.lt)
  have BW5 := Lib.hid (HB2.out.trans (B5.out.mono HB2.out.size))
  clear hw5 r0 r1 r2
  have x0 := VB5.out.cell (j := 0) rfl
  have x1 := VB5.out.cell (j := 1) rfl
  have x2 := VB5.out.cell (j := 2) rfl
  have x3 := VB5.out.cell (j := 3) rfl
  have x4 := VB5.out.cell (j := 4) rfl
  have x5 := VB5.out.cell (j := 5) rfl
  have x6 := VB5.out.cell (j := 6) rfl
  have g0 := VG5.out.cell (j := 0) rfl
  have g1 := VG5.out.cell (j := 1) rfl
  have g2 := VG5.out.cell (j := 2) rfl
  have VB := VB5
  have VG := VG5
  have BW := BW5
  have TB := Lib.hid (H0.out.below BW.out)
  have MB := Lib.hid (M0.out.grows (Grows.of_below (S := fun _ => False) BW.out) (fun _ x => x.elim))
  have MF := Lib.hid (MB.out.sub (T := S) (fun k hk => Or.inl hk))
  go_wp2_with (first
    | (go_at_call 19; (with_reducible refine (HK.out _).mono ?_); rintro e wz ⟨rfl, rfl⟩)
    | (go_at_call 26; (with_reducible refine (HF.out _ _ _ TB.out.f).mono ?_); rintro e wc ⟨rfl, S1, hf1, a1⟩; have two1 := TB.out.left hf1 a1; have TC := Lib.hid two1; clear two1; have VC := Lib.hid (a1.grows.var VB.out (fun hs => NS.out _ (Nat.le_refl _) hs)); have x0 := VC.out.cell (j := 0) rfl; have x1 := VC.out.cell (j := 1) rfl; have x2 := VC.out.cell (j := 2) rfl; have x3 := VC.out.cell (j := 3) rfl; have x4 := VC.out.cell (j := 4) rfl; have x5 := VC.out.cell (j := 5) rfl; have x6 := VC.out.cell (j := 6) rfl)
    | (go_at_call 43; (with_reducible refine (HR.out _ _ _ TC.out.1.r).mono ?_); rintro e wd ⟨rfl, R2, hr2, a2⟩; have two2 := TC.out.1.right hr2 a2; have TD := Lib.hid two2; clear two2))
  go_ret
  rw [HSt.out]
  exact ⟨rfl, S1, R2, TD.out.1, After.trans (after_below BW.out) (After.trans TC.out.2 TD.out.2)⟩
set_option maxRecDepth 100000 in
set_option maxHeartbeats 16000000 in
theorem step_false_1 {w : World} {p r : Nat} {d : Dev} {S R : Nat → Prop} (h : Two w p r d d S R) (hd : d.Ok) (tw ta tb : Int) (ts : ByteArray) (tx : UInt8) (tm : List Int) (ma : Option Addr) (ml mc : Nat) (hs : ts.size ≤ maxLen) (hM : MaskAt w ma tm (both S R)) (hm : ∀ m ∈ tm, m < 9223372036854775808) (hml : ml = tm.length) (hml2 : tm.length ≤ maxLen) (hk : tw % 12 = 1) :
    Calls Try.prog 17 #[.pointer (some ⟨p, 0, none⟩), .pointer (some ⟨r, 0, none⟩), .agg #[.int .i64 tw, .int .i64 ta, .int .i64 tb, .string ts, .int .u8 (tx.toNat : Int), .slice ma ml mc, .bool false]] w fun e w' => e = .returned (.bool true) ∧ ∃ S' R', Two w' p r (stepD d ⟨tw, ta, tb, ts, tx, tm, false⟩) (stepD d ⟨tw, ta, tb, ts, tx, tm, false⟩) S' R' ∧ After (both S R) w w' (both S' R') := by
  have HML := Lib.hid hml
  clear hml
  have H0 := Lib.hid h
  have M0 := Lib.hid hM
  have NS := Lib.hid (show ∀ k, w.heap.size ≤ k → ¬ S k from fun k hk hs => by have := h.f.lt k hs; omega)
  obtain ⟨q0, q1, q2⟩ := rCells h.r
  have r0 : (w.alloc (.cells #[.int .i64 tw, .int .i64 ta, .int .i64 tb, .string ts, .int .u8 (tx.toNat : Int), .slice ma ml mc, .bool false] 39)).cell? ⟨r, 0, none⟩ = some (.int .i64 (d.pg : Int)) := (Grows.alloc (fun _ => False) w _).cell q0 (fun x => x)
  have r1 : (w.alloc (.cells #[.int .i64 tw, .int .i64 ta, .int .i64 tb, .string ts, .int .u8 (tx.toNat : Int), .slice ma ml mc, .bool false] 39)).cell? ⟨r, 1, none⟩ = some (.int .i64 (d.pgs : Int)) := (Grows.alloc (fun _ => False) w _).cell q1 (fun x => x)
  have r2 : (w.alloc (.cells #[.int .i64 tw, .int .i64 ta, .int .i64 tb, .string ts, .int .u8 (tx.toNat : Int), .slice ma ml mc, .bool false] 39)).cell? ⟨r, 2, none⟩ = some (.int .i64 (d.rgs : Int)) := (Grows.alloc (fun _ => False) w _).cell q2 (fun x => x)
  have HVB := Lib.hid (show Var ((w.alloc (.cells #[.int .i64 tw, .int .i64 ta, .int .i64 tb, .string ts, .int .u8 (tx.toNat : Int), .slice ma ml mc, .bool false] 39)).alloc (.cells #[.int .i64 (d.pg : Int), .int .i64 (d.pgs : Int), .int .i64 (d.rgs : Int)] 23)) w.heap.size 39 [.int .i64 tw, .int .i64 ta, .int .i64 tb, .string ts, .int .u8 (tx.toNat : Int), .slice ma ml mc, .bool false] from (Var.new w 39 [.int .i64 tw, .int .i64 ta, .int .i64 tb, .string ts, .int .u8 (tx.toNat : Int), .slice ma ml mc, .bool false]).alloc _)
  have HVG := Lib.hid (show Var ((w.alloc (.cells #[.int .i64 tw, .int .i64 ta, .int .i64 tb, .string ts, .int .u8 (tx.toNat : Int), .slice ma ml mc, .bool false] 39)).alloc (.cells #[.int .i64 (d.pg : Int), .int .i64 (d.pgs : Int), .int .i64 (d.rgs : Int)] 23)) (w.heap.size + 1) 23 [.int .i64 (d.pg : Int), .int .i64 (d.pgs : Int), .int .i64 (d.rgs : Int)] by have := Var.new (w.alloc (.cells #[.int .i64 tw, .int .i64 ta, .int .i64 tb, .string ts, .int .u8 (tx.toNat : Int), .slice ma ml mc, .bool false] 39)) 23 [.int .i64 (d.pg : Int), .int .i64 (d.pgs : Int), .int .i64 (d.rgs : Int)]; rw [show (w.alloc (.cells #[.int .i64 tw, .int .i64 ta, .int .i64 tb, .string ts, .int .u8 (tx.toNat : Int), .slice ma ml mc, .bool false] 39)).heap.size = w.heap.size + 1 by simp] at this; exact this)
  have HB2 := Lib.hid (show Below w.heap.size w ((w.alloc (.cells #[.int .i64 tw, .int .i64 ta, .int .i64 tb, .string ts, .int .u8 (tx.toNat : Int), .slice ma ml mc, .bool false] 39)).alloc (.cells #[.int .i64 (d.pg : Int), .int .i64 (d.pgs : Int), .int .i64 (d.rgs : Int)] 23)) from bel2 (Geom.bel_alloc w _) (Geom.bel_alloc _ _))
  have hp0 := hd.p0
  have hp1 := hd.p1
  have hs0 := hd.s0
  have hs1 := hd.s1
  have hr0 := hd.r0
  have hr1 := hd.r1
  have hn1 := hd.n_le
  have hn0 : 0 < d.n := Nat.mul_pos (by omega) (by omega)
  have hnn : (d.pgs : Int) * (d.rgs : Int) = (d.n : Int) := by unfold Dev.n; rw [Int.natCast_mul]
  obtain ⟨fz, hfz⟩ : ∃ fz, fz = ta % 12 := ⟨_, rfl⟩
  have hf2 : 0 ≤ fz ∧ fz < 12 := by omega
  clear h hM q0 q1 q2
  have HK : Hid (∀ w, Calls Try.prog 19 #[.int .i64 tw, .int .i64 12] w fun e w' => e = .returned (.int .i64 1) ∧ w = w') := fun w => by have := Book.pick_any tw 12 (by decide) (by decide) w; rw [show tw % ((12 : Nat) : Int) = 1 from hk] at this; exact this
  have HF := Lib.hid (fun w p S (h : FHas w p d S) => fProgram_any h hd ta (ts))
  have HR := Lib.hid (fun w p R (h : RHas w p d R) => rProgram h hd ta (ts))
  have HSt := Lib.hid (show stepD d ⟨tw, ta, tb, ts, tx, tm, false⟩ = (programD d ta (ts).data.toList).2 by unfold stepD St.page St.text; simp only [hk]; rfl)
  clear hk hfz
  go_enter Try.func17, Try.ntmps17
  go_wp2
  go_quiet (fail)
  obtain ⟨w5, hw5⟩ : ∃ w5, w5 = ((w.alloc (.cells #[.int .i64 tw, .int .i64 ta, .int .i64 tb, .string ts, .int .u8 (tx.toNat : Int), .slice ma ml mc, .bool false] 39)).alloc (.cells #[.int .i64 (d.pg : Int), .int .i64 (d.pgs : Int), .int .i64 (d.rgs : Int)] 23)).drewN nq := ⟨_, rfl⟩
  rw [← hw5]
  have B5 := Lib.hid (show Below ((w.alloc (.cells #[.int .i64 tw, .int .i64 ta, .int .i64 tb, .string ts, .int .u8 (tx.toNat : Int), .slice ma ml mc, .bool false] 39)).alloc (.cells #[.int .i64 (d.pg : Int), .int .i64 (d.pgs : Int), .int .i64 (d.rgs : Int)] 23)).heap.size ((w.alloc (.cells #[.int .i64 tw, .int .i64 ta, .int .i64 tb, .string ts, .int .u8 (tx.toNat : Int), .slice ma ml mc, .bool false] 39)).alloc (.cells #[.int .i64 (d.pg : Int), .int .i64 (d.pgs : Int), .int .i64 (d.rgs : Int)] 23)) w5 by rw [hw5]; exact below_drewN _ _)
  have VB5 := Lib.hid (HVB.out.below B5.out HVB.out.lt)
  have VG5 := Lib.hid (HVG.out.below B5.out HVG.out.lt)
  have BW5 := Lib.hid (HB2.out.trans (B5.out.mono HB2.out.size))
  clear hw5 r0 r1 r2
  have x0 := VB5.out.cell (j := 0) rfl
  have x1 := VB5.out.cell (j := 1) rfl
  have x2 := VB5.out.cell (j := 2) rfl
  have x3 := VB5.out.cell (j := 3) rfl
  have x4 := VB5.out.cell (j := 4) rfl
  have x5 := VB5.out.cell (j := 5) rfl
  have x6 := VB5.out.cell (j := 6) rfl
  have g0 := VG5.out.cell (j := 0) rfl
  have g1 := VG5.out.cell (j := 1) rfl
  have g2 := VG5.out.cell (j := 2) rfl
  have VB := VB5
  have VG := VG5
  have BW := BW5
  have TB := Lib.hid (H0.out.below BW.out)
  have MB := Lib.hid (M0.out.grows (Grows.of_below (S := fun _ => False) BW.out) (fun _ x => x.elim))
  have MF := Lib.hid (MB.out.sub (T := S) (fun k hk => Or.inl hk))
  go_wp2_with (first
    | (go_at_call 19; (with_reducible refine (HK.out _).mono ?_); rintro e wz ⟨rfl, rfl⟩)
    | (go_at_call 26; (with_reducible refine (HF.out _ _ _ TB.out.f).mono ?_); rintro e wc ⟨rfl, S1, hf1, a1⟩; have two1 := TB.out.left hf1 a1; have TC := Lib.hid two1; clear two1; have VC := Lib.hid (a1.grows.var VB.out (fun hs => NS.out _ (Nat.le_refl _) hs)); have x0 := VC.out.cell (j := 0) rfl; have x1 := VC.out.cell (j := 1) rfl; have x2 := VC.out.cell (j := 2) rfl; have x3 := VC.out.cell (j := 3) rfl; have x4 := VC.out.cell (j := 4) rfl; have x5 := VC.out.cell (j := 5) rfl; have x6 := VC.out.cell (j := 6) rfl)
    | (go_at_call 43; (with_reducible refine (HR.out _ _ _ TC.out.1.r).mono ?_); rintro e wd ⟨rfl, R2, hr2, a2⟩; have two2 := TC.out.1.right hr2 a2; have TD := Lib.hid two2; clear two2))
  go_ret
  rw [HSt.out]
  exact ⟨rfl, S1, R2, TD.out.1, After.trans (after_below BW.out) (After.trans TC.out.2 TD.out.2)⟩
set_option maxRecDepth 100000 in
set_option maxHeartbeats 16000000 in
theorem step_false_2 {w : World} {p r : Nat} {d : Dev} {S R : Nat → Prop} (h : Two w p r d d S R) (hd : d.Ok) (tw ta tb : Int) (ts : ByteArray) (tx : UInt8) (tm : List Int) (ma : Option Addr) (ml mc : Nat) (hs : ts.size ≤ maxLen) (hM : MaskAt w ma tm (both S R)) (hm : ∀ m ∈ tm, m < 9223372036854775808) (hml : ml = tm.length) (hml2 : tm.length ≤ maxLen) (hk : tw % 12 = 2) :
    Calls Try.prog 17 #[.pointer (some ⟨p, 0, none⟩), .pointer (some ⟨r, 0, none⟩), .agg #[.int .i64 tw, .int .i64 ta, .int .i64 tb, .string ts, .int .u8 (tx.toNat : Int), .slice ma ml mc, .bool false]] w fun e w' => e = .returned (.bool true) ∧ ∃ S' R', Two w' p r (stepD d ⟨tw, ta, tb, ts, tx, tm, false⟩) (stepD d ⟨tw, ta, tb, ts, tx, tm, false⟩) S' R' ∧ After (both S R) w w' (both S' R') := by
  have HML := Lib.hid hml
  clear hml
  have H0 := Lib.hid h
  have M0 := Lib.hid hM
  have NS := Lib.hid (show ∀ k, w.heap.size ≤ k → ¬ S k from fun k hk hs => by have := h.f.lt k hs; omega)
  obtain ⟨q0, q1, q2⟩ := rCells h.r
  have r0 : (w.alloc (.cells #[.int .i64 tw, .int .i64 ta, .int .i64 tb, .string ts, .int .u8 (tx.toNat : Int), .slice ma ml mc, .bool false] 39)).cell? ⟨r, 0, none⟩ = some (.int .i64 (d.pg : Int)) := (Grows.alloc (fun _ => False) w _).cell q0 (fun x => x)
  have r1 : (w.alloc (.cells #[.int .i64 tw, .int .i64 ta, .int .i64 tb, .string ts, .int .u8 (tx.toNat : Int), .slice ma ml mc, .bool false] 39)).cell? ⟨r, 1, none⟩ = some (.int .i64 (d.pgs : Int)) := (Grows.alloc (fun _ => False) w _).cell q1 (fun x => x)
  have r2 : (w.alloc (.cells #[.int .i64 tw, .int .i64 ta, .int .i64 tb, .string ts, .int .u8 (tx.toNat : Int), .slice ma ml mc, .bool false] 39)).cell? ⟨r, 2, none⟩ = some (.int .i64 (d.rgs : Int)) := (Grows.alloc (fun _ => False) w _).cell q2 (fun x => x)
  have HVB := Lib.hid (show Var ((w.alloc (.cells #[.int .i64 tw, .int .i64 ta, .int .i64 tb, .string ts, .int .u8 (tx.toNat : Int), .slice ma ml mc, .bool false] 39)).alloc (.cells #[.int .i64 (d.pg : Int), .int .i64 (d.pgs : Int), .int .i64 (d.rgs : Int)] 23)) w.heap.size 39 [.int .i64 tw, .int .i64 ta, .int .i64 tb, .string ts, .int .u8 (tx.toNat : Int), .slice ma ml mc, .bool false] from (Var.new w 39 [.int .i64 tw, .int .i64 ta, .int .i64 tb, .string ts, .int .u8 (tx.toNat : Int), .slice ma ml mc, .bool false]).alloc _)
  have HVG := Lib.hid (show Var ((w.alloc (.cells #[.int .i64 tw, .int .i64 ta, .int .i64 tb, .string ts, .int .u8 (tx.toNat : Int), .slice ma ml mc, .bool false] 39)).alloc (.cells #[.int .i64 (d.pg : Int), .int .i64 (d.pgs : Int), .int .i64 (d.rgs : Int)] 23)) (w.heap.size + 1) 23 [.int .i64 (d.pg : Int), .int .i64 (d.pgs : Int), .int .i64 (d.rgs : Int)] by have := Var.new (w.alloc (.cells #[.int .i64 tw, .int .i64 ta, .int .i64 tb, .string ts, .int .u8 (tx.toNat : Int), .slice ma ml mc, .bool false] 39)) 23 [.int .i64 (d.pg : Int), .int .i64 (d.pgs : Int), .int .i64 (d.rgs : Int)]; rw [show (w.alloc (.cells #[.int .i64 tw, .int .i64 ta, .int .i64 tb, .string ts, .int .u8 (tx.toNat : Int), .slice ma ml mc, .bool false] 39)).heap.size = w.heap.size + 1 by simp] at this; exact this)
  have HB2 := Lib.hid (show Below w.heap.size w ((w.alloc (.cells #[.int .i64 tw, .int .i64 ta, .int .i64 tb, .string ts, .int .u8 (tx.toNat : Int), .slice ma ml mc, .bool false] 39)).alloc (.cells #[.int .i64 (d.pg : Int), .int .i64 (d.pgs : Int), .int .i64 (d.rgs : Int)] 23)) from bel2 (Geom.bel_alloc w _) (Geom.bel_alloc _ _))
  have hp0 := hd.p0
  have hp1 := hd.p1
  have hs0 := hd.s0
  have hs1 := hd.s1
  have hr0 := hd.r0
  have hr1 := hd.r1
  have hn1 := hd.n_le
  have hn0 : 0 < d.n := Nat.mul_pos (by omega) (by omega)
  have hnn : (d.pgs : Int) * (d.rgs : Int) = (d.n : Int) := by unfold Dev.n; rw [Int.natCast_mul]
  obtain ⟨fz, hfz⟩ : ∃ fz, fz = ta % 12 := ⟨_, rfl⟩
  have hf2 : 0 ≤ fz ∧ fz < 12 := by omega
  clear h hM q0 q1 q2
  have HK : Hid (∀ w, Calls Try.prog 19 #[.int .i64 tw, .int .i64 12] w fun e w' => e = .returned (.int .i64 2) ∧ w = w') := fun w => by have := Book.pick_any tw 12 (by decide) (by decide) w; rw [show tw % ((12 : Nat) : Int) = 2 from hk] at this; exact this
  have HF := Lib.hid (fun w p S (h : FHas w p d S) => fProgram_any h hd ta (ts))
  have HR := Lib.hid (fun w p R (h : RHas w p d R) => rProgram h hd ta (ts))
  have HSt := Lib.hid (show stepD d ⟨tw, ta, tb, ts, tx, tm, false⟩ = (programD d ta (ts).data.toList).2 by unfold stepD St.page St.text; simp only [hk]; rfl)
  clear hk hfz
  go_enter Try.func17, Try.ntmps17
  go_wp2
  go_quiet (fail)
  obtain ⟨w5, hw5⟩ : ∃ w5, w5 = ((w.alloc (.cells #[.int .i64 tw, .int .i64 ta, .int .i64 tb, .string ts, .int .u8 (tx.toNat : Int), .slice ma ml mc, .bool false] 39)).alloc (.cells #[.int .i64 (d.pg : Int), .int .i64 (d.pgs : Int), .int .i64 (d.rgs : Int)] 23)).drewN nq := ⟨_, rfl⟩
  rw [← hw5]
  have B5 := Lib.hid (show Below ((w.alloc (.cells #[.int .i64 tw, .int .i64 ta, .int .i64 tb, .string ts, .int .u8 (tx.toNat : Int), .slice ma ml mc, .bool false] 39)).alloc (.cells #[.int .i64 (d.pg : Int), .int .i64 (d.pgs : Int), .int .i64 (d.rgs : Int)] 23)).heap.size ((w.alloc (.cells #[.int .i64 tw, .int .i64 ta, .int .i64 tb, .string ts, .int .u8 (tx.toNat : Int), .slice ma ml mc, .bool false] 39)).alloc (.cells #[.int .i64 (d.pg : Int), .int .i64 (d.pgs : Int), .int .i64 (d.rgs : Int)] 23)) w5 by rw [hw5]; exact below_drewN _ _)
  have VB5 := Lib.hid (HVB.out.below B5.out HVB.out.lt)
  have VG5 := Lib.hid (HVG.out.below B5.out HVG.out.lt)
  have BW5 := Lib.hid (HB2.out.trans (B5.out.mono HB2.out.size))
  clear hw5 r0 r1 r2
  have x0 := VB5.out.cell (j := 0) rfl
  have x1 := VB5.out.cell (j := 1) rfl
  have x2 := VB5.out.cell (j := 2) rfl
  have x3 := VB5.out.cell (j := 3) rfl
  have x4 := VB5.out.cell (j := 4) rfl
  have x5 := VB5.out.cell (j := 5) rfl
  have x6 := VB5.out.cell (j := 6) rfl
  have g0 := VG5.out.cell (j := 0) rfl
  have g1 := VG5.out.cell (j := 1) rfl
  have g2 := VG5.out.cell (j := 2) rfl
  have VB := VB5
  have VG := VG5
  have BW := BW5
  have TB := Lib.hid (H0.out.below BW.out)
  have MB := Lib.hid (M0.out.grows (Grows.of_below (S := fun _ => False) BW.out) (fun _ x => x.elim))
  have MF := Lib.hid (MB.out.sub (T := S) (fun k hk => Or.inl hk))
  go_wp2_with (first
    | (go_at_call 19; (with_reducible refine (HK.out _).mono ?_); rintro e wz ⟨rfl, rfl⟩)
    | (go_at_call 26; (with_reducible refine (HF.out _ _ _ TB.out.f).mono ?_); rintro e wc ⟨rfl, S1, hf1, a1⟩; have two1 := TB.out.left hf1 a1; have TC := Lib.hid two1; clear two1; have VC := Lib.hid (a1.grows.var VB.out (fun hs => NS.out _ (Nat.le_refl _) hs)); have x0 := VC.out.cell (j := 0) rfl; have x1 := VC.out.cell (j := 1) rfl; have x2 := VC.out.cell (j := 2) rfl; have x3 := VC.out.cell (j := 3) rfl; have x4 := VC.out.cell (j := 4) rfl; have x5 := VC.out.cell (j := 5) rfl; have x6 := VC.out.cell (j := 6) rfl)
    | (go_at_call 43; (with_reducible refine (HR.out _ _ _ TC.out.1.r).mono ?_); rintro e wd ⟨rfl, R2, hr2, a2⟩; have two2 := TC.out.1.right hr2 a2; have TD := Lib.hid two2; clear two2))
  go_ret
  rw [HSt.out]
  exact ⟨rfl, S1, R2, TD.out.1, After.trans (after_below BW.out) (After.trans TC.out.2 TD.out.2)⟩
set_option maxRecDepth 100000 in
set_option maxHeartbeats 16000000 in
theorem step_false_3 {w : World} {p r : Nat} {d : Dev} {S R : Nat → Prop} (h : Two w p r d d S R) (hd : d.Ok) (tw ta tb : Int) (ts : ByteArray) (tx : UInt8) (tm : List Int) (ma : Option Addr) (ml mc : Nat) (hs : ts.size ≤ maxLen) (hM : MaskAt w ma tm (both S R)) (hm : ∀ m ∈ tm, m < 9223372036854775808) (hml : ml = tm.length) (hml2 : tm.length ≤ maxLen) (hk : tw % 12 = 3) :
    Calls Try.prog 17 #[.pointer (some ⟨p, 0, none⟩), .pointer (some ⟨r, 0, none⟩), .agg #[.int .i64 tw, .int .i64 ta, .int .i64 tb, .string ts, .int .u8 (tx.toNat : Int), .slice ma ml mc, .bool false]] w fun e w' => e = .returned (.bool true) ∧ ∃ S' R', Two w' p r (stepD d ⟨tw, ta, tb, ts, tx, tm, false⟩) (stepD d ⟨tw, ta, tb, ts, tx, tm, false⟩) S' R' ∧ After (both S R) w w' (both S' R') := by
  have HML := Lib.hid hml
  clear hml
  have H0 := Lib.hid h
  have M0 := Lib.hid hM
  have NS := Lib.hid (show ∀ k, w.heap.size ≤ k → ¬ S k from fun k hk hs => by have := h.f.lt k hs; omega)
  obtain ⟨q0, q1, q2⟩ := rCells h.r
  have r0 : (w.alloc (.cells #[.int .i64 tw, .int .i64 ta, .int .i64 tb, .string ts, .int .u8 (tx.toNat : Int), .slice ma ml mc, .bool false] 39)).cell? ⟨r, 0, none⟩ = some (.int .i64 (d.pg : Int)) := (Grows.alloc (fun _ => False) w _).cell q0 (fun x => x)
  have r1 : (w.alloc (.cells #[.int .i64 tw, .int .i64 ta, .int .i64 tb, .string ts, .int .u8 (tx.toNat : Int), .slice ma ml mc, .bool false] 39)).cell? ⟨r, 1, none⟩ = some (.int .i64 (d.pgs : Int)) := (Grows.alloc (fun _ => False) w _).cell q1 (fun x => x)
  have r2 : (w.alloc (.cells #[.int .i64 tw, .int .i64 ta, .int .i64 tb, .string ts, .int .u8 (tx.toNat : Int), .slice ma ml mc, .bool false] 39)).cell? ⟨r, 2, none⟩ = some (.int .i64 (d.rgs : Int)) := (Grows.alloc (fun _ => False) w _).cell q2 (fun x => x)
  have HVB := Lib.hid (show Var ((w.alloc (.cells #[.int .i64 tw, .int .i64 ta, .int .i64 tb, .string ts, .int .u8 (tx.toNat : Int), .slice ma ml mc, .bool false] 39)).alloc (.cells #[.int .i64 (d.pg : Int), .int .i64 (d.pgs : Int), .int .i64 (d.rgs : Int)] 23)) w.heap.size 39 [.int .i64 tw, .int .i64 ta, .int .i64 tb, .string ts, .int .u8 (tx.toNat : Int), .slice ma ml mc, .bool false] from (Var.new w 39 [.int .i64 tw, .int .i64 ta, .int .i64 tb, .string ts, .int .u8 (tx.toNat : Int), .slice ma ml mc, .bool false]).alloc _)
  have HVG := Lib.hid (show Var ((w.alloc (.cells #[.int .i64 tw, .int .i64 ta, .int .i64 tb, .string ts, .int .u8 (tx.toNat : Int), .slice ma ml mc, .bool false] 39)).alloc (.cells #[.int .i64 (d.pg : Int), .int .i64 (d.pgs : Int), .int .i64 (d.rgs : Int)] 23)) (w.heap.size + 1) 23 [.int .i64 (d.pg : Int), .int .i64 (d.pgs : Int), .int .i64 (d.rgs : Int)] by have := Var.new (w.alloc (.cells #[.int .i64 tw, .int .i64 ta, .int .i64 tb, .string ts, .int .u8 (tx.toNat : Int), .slice ma ml mc, .bool false] 39)) 23 [.int .i64 (d.pg : Int), .int .i64 (d.pgs : Int), .int .i64 (d.rgs : Int)]; rw [show (w.alloc (.cells #[.int .i64 tw, .int .i64 ta, .int .i64 tb, .string ts, .int .u8 (tx.toNat : Int), .slice ma ml mc, .bool false] 39)).heap.size = w.heap.size + 1 by simp] at this; exact this)
  have HB2 := Lib.hid (show Below w.heap.size w ((w.alloc (.cells #[.int .i64 tw, .int .i64 ta, .int .i64 tb, .string ts, .int .u8 (tx.toNat : Int), .slice ma ml mc, .bool false] 39)).alloc (.cells #[.int .i64 (d.pg : Int), .int .i64 (d.pgs : Int), .int .i64 (d.rgs : Int)] 23)) from bel2 (Geom.bel_alloc w _) (Geom.bel_alloc _ _))
  have hp0 := hd.p0
  have hp1 := hd.p1
  have hs0 := hd.s0
  have hs1 := hd.s1
  have hr0 := hd.r0
  have hr1 := hd.r1
  have hn1 := hd.n_le
  have hn0 : 0 < d.n := Nat.mul_pos (by omega) (by omega)
  have hnn : (d.pgs : Int) * (d.rgs : Int) = (d.n : Int) := by unfold Dev.n; rw [Int.natCast_mul]
  obtain ⟨fz, hfz⟩ : ∃ fz, fz = ta % 12 := ⟨_, rfl⟩
  have hf2 : 0 ≤ fz ∧ fz < 12 := by omega
  clear h hM q0 q1 q2
  have HK : Hid (∀ w, Calls Try.prog 19 #[.int .i64 tw, .int .i64 12] w fun e w' => e = .returned (.int .i64 3) ∧ w = w') := fun w => by have := Book.pick_any tw 12 (by decide) (by decide) w; rw [show tw % ((12 : Nat) : Int) = 3 from hk] at this; exact this
  have HF := Lib.hid (fun w p S (h : FHas w p d S) => fProgram_any h hd ta (ts))
  have HR := Lib.hid (fun w p R (h : RHas w p d R) => rProgram h hd ta (ts))
  have HSt := Lib.hid (show stepD d ⟨tw, ta, tb, ts, tx, tm, false⟩ = (programD d ta (ts).data.toList).2 by unfold stepD St.page St.text; simp only [hk]; rfl)
  clear hk hfz
  go_enter Try.func17, Try.ntmps17
  go_wp2
  go_quiet (fail)
  obtain ⟨w5, hw5⟩ : ∃ w5, w5 = ((w.alloc (.cells #[.int .i64 tw, .int .i64 ta, .int .i64 tb, .string ts, .int .u8 (tx.toNat : Int), .slice ma ml mc, .bool false] 39)).alloc (.cells #[.int .i64 (d.pg : Int), .int .i64 (d.pgs : Int), .int .i64 (d.rgs : Int)] 23)).drewN nq := ⟨_, rfl⟩
  rw [← hw5]
  have B5 := Lib.hid (show Below ((w.alloc (.cells #[.int .i64 tw, .int .i64 ta, .int .i64 tb, .string ts, .int .u8 (tx.toNat : Int), .slice ma ml mc, .bool false] 39)).alloc (.cells #[.int .i64 (d.pg : Int), .int .i64 (d.pgs : Int), .int .i64 (d.rgs : Int)] 23)).heap.size ((w.alloc (.cells #[.int .i64 tw, .int .i64 ta, .int .i64 tb, .string ts, .int .u8 (tx.toNat : Int), .slice ma ml mc, .bool false] 39)).alloc (.cells #[.int .i64 (d.pg : Int), .int .i64 (d.pgs : Int), .int .i64 (d.rgs : Int)] 23)) w5 by rw [hw5]; exact below_drewN _ _)
  have VB5 := Lib.hid (HVB.out.below B5.out HVB.out.lt)
  have VG5 := Lib.hid (HVG.out.below B5.out HVG.out.lt)
  have BW5 := Lib.hid (HB2.out.trans (B5.out.mono HB2.out.size))
  clear hw5 r0 r1 r2
  have x0 := VB5.out.cell (j := 0) rfl
  have x1 := VB5.out.cell (j := 1) rfl
  have x2 := VB5.out.cell (j := 2) rfl
  have x3 := VB5.out.cell (j := 3) rfl
  have x4 := VB5.out.cell (j := 4) rfl
  have x5 := VB5.out.cell (j := 5) rfl
  have x6 := VB5.out.cell (j := 6) rfl
  have g0 := VG5.out.cell (j := 0) rfl
  have g1 := VG5.out.cell (j := 1) rfl
  have g2 := VG5.out.cell (j := 2) rfl
  have VB := VB5
  have VG := VG5
  have BW := BW5
  have TB := Lib.hid (H0.out.below BW.out)
  have MB := Lib.hid (M0.out.grows (Grows.of_below (S := fun _ => False) BW.out) (fun _ x => x.elim))
  have MF := Lib.hid (MB.out.sub (T := S) (fun k hk => Or.inl hk))
  go_wp2_with (first
    | (go_at_call 19; (with_reducible refine (HK.out _).mono ?_); rintro e wz ⟨rfl, rfl⟩)
    | (go_at_call 26; (with_reducible refine (HF.out _ _ _ TB.out.f).mono ?_); rintro e wc ⟨rfl, S1, hf1, a1⟩; have two1 := TB.out.left hf1 a1; have TC := Lib.hid two1; clear two1; have VC := Lib.hid (a1.grows.var VB.out (fun hs => NS.out _ (Nat.le_refl _) hs)); have x0 := VC.out.cell (j := 0) rfl; have x1 := VC.out.cell (j := 1) rfl; have x2 := VC.out.cell (j := 2) rfl; have x3 := VC.out.cell (j := 3) rfl; have x4 := VC.out.cell (j := 4) rfl; have x5 := VC.out.cell (j := 5) rfl; have x6 := VC.out.cell (j := 6) rfl)
    | (go_at_call 43; (with_reducible refine (HR.out _ _ _ TC.out.1.r).mono ?_); rintro e wd ⟨rfl, R2, hr2, a2⟩; have two2 := TC.out.1.right hr2 a2; have TD := Lib.hid two2; clear two2))
  go_ret
  rw [HSt.out]
  exact ⟨rfl, S1, R2, TD.out.1, After.trans (after_below BW.out) (After.trans TC.out.2 TD.out.2)⟩
set_option maxRecDepth 100000 in
set_option maxHeartbeats 16000000 in
theorem step_false_4 {w : World} {p r : Nat} {d : Dev} {S R : Nat → Prop} (h : Two w p r d d S R) (hd : d.Ok) (tw ta tb : Int) (ts : ByteArray) (tx : UInt8) (tm : List Int) (ma : Option Addr) (ml mc : Nat) (hs : ts.size ≤ maxLen) (hM : MaskAt w ma tm (both S R)) (hm : ∀ m ∈ tm, m < 9223372036854775808) (hml : ml = tm.length) (hml2 : tm.length ≤ maxLen) (hk : tw % 12 = 4) :
    Calls Try.prog 17 #[.pointer (some ⟨p, 0, none⟩), .pointer (some ⟨r, 0, none⟩), .agg #[.int .i64 tw, .int .i64 ta, .int .i64 tb, .string ts, .int .u8 (tx.toNat : Int), .slice ma ml mc, .bool false]] w fun e w' => e = .returned (.bool true) ∧ ∃ S' R', Two w' p r (stepD d ⟨tw, ta, tb, ts, tx, tm, false⟩) (stepD d ⟨tw, ta, tb, ts, tx, tm, false⟩) S' R' ∧ After (both S R) w w' (both S' R') := by
  have HML := Lib.hid hml
  clear hml
  have H0 := Lib.hid h
  have M0 := Lib.hid hM
  have NS := Lib.hid (show ∀ k, w.heap.size ≤ k → ¬ S k from fun k hk hs => by have := h.f.lt k hs; omega)
  obtain ⟨q0, q1, q2⟩ := rCells h.r
  have r0 : (w.alloc (.cells #[.int .i64 tw, .int .i64 ta, .int .i64 tb, .string ts, .int .u8 (tx.toNat : Int), .slice ma ml mc, .bool false] 39)).cell? ⟨r, 0, none⟩ = some (.int .i64 (d.pg : Int)) := (Grows.alloc (fun _ => False) w _).cell q0 (fun x => x)
  have r1 : (w.alloc (.cells #[.int .i64 tw, .int .i64 ta, .int .i64 tb, .string ts, .int .u8 (tx.toNat : Int), .slice ma ml mc, .bool false] 39)).cell? ⟨r, 1, none⟩ = some (.int .i64 (d.pgs : Int)) := (Grows.alloc (fun _ => False) w _).cell q1 (fun x => x)
  have r2 : (w.alloc (.cells #[.int .i64 tw, .int .i64 ta, .int .i64 tb, .string ts, .int .u8 (tx.toNat : Int), .slice ma ml mc, .bool false] 39)).cell? ⟨r, 2, none⟩ = some (.int .i64 (d.rgs : Int)) := (Grows.alloc (fun _ => False) w _).cell q2 (fun x => x)
  have HVB := Lib.hid (show Var ((w.alloc (.cells #[.int .i64 tw, .int .i64 ta, .int .i64 tb, .string ts, .int .u8 (tx.toNat : Int), .slice ma ml mc, .bool false] 39)).alloc (.cells #[.int .i64 (d.pg : Int), .int .i64 (d.pgs : Int), .int .i64 (d.rgs : Int)] 23)) w.heap.size 39 [.int .i64 tw, .int .i64 ta, .int .i64 tb, .string ts, .int .u8 (tx.toNat : Int), .slice ma ml mc, .bool false] from (Var.new w 39 [.int .i64 tw, .int .i64 ta, .int .i64 tb, .string ts, .int .u8 (tx.toNat : Int), .slice ma ml mc, .bool false]).alloc _)
  have HVG := Lib.hid (show Var ((w.alloc (.cells #[.int .i64 tw, .int .i64 ta, .int .i64 tb, .string ts, .int .u8 (tx.toNat : Int), .slice ma ml mc, .bool false] 39)).alloc (.cells #[.int .i64 (d.pg : Int), .int .i64 (d.pgs : Int), .int .i64 (d.rgs : Int)] 23)) (w.heap.size + 1) 23 [.int .i64 (d.pg : Int), .int .i64 (d.pgs : Int), .int .i64 (d.rgs : Int)] by have := Var.new (w.alloc (.cells #[.int .i64 tw, .int .i64 ta, .int .i64 tb, .string ts, .int .u8 (tx.toNat : Int), .slice ma ml mc, .bool false] 39)) 23 [.int .i64 (d.pg : Int), .int .i64 (d.pgs : Int), .int .i64 (d.rgs : Int)]; rw [show (w.alloc (.cells #[.int .i64 tw, .int .i64 ta, .int .i64 tb, .string ts, .int .u8 (tx.toNat : Int), .slice ma ml mc, .bool false] 39)).heap.size = w.heap.size + 1 by simp] at this; exact this)
  have HB2 := Lib.hid (show Below w.heap.size w ((w.alloc (.cells #[.int .i64 tw, .int .i64 ta, .int .i64 tb, .string ts, .int .u8 (tx.toNat : Int), .slice ma ml mc, .bool false] 39)).alloc (.cells #[.int .i64 (d.pg : Int), .int .i64 (d.pgs : Int), .int .i64 (d.rgs : Int)] 23)) from bel2 (Geom.bel_alloc w _) (Geom.bel_alloc _ _))
  have hp0 := hd.p0
  have hp1 := hd.p1
  have hs0 := hd.s0
  have hs1 := hd.s1
  have hr0 := hd.r0
  have hr1 := hd.r1
  have hn1 := hd.n_le
  have hn0 : 0 < d.n := Nat.mul_pos (by omega) (by omega)
  have hnn : (d.pgs : Int) * (d.rgs : Int) = (d.n : Int) := by unfold Dev.n; rw [Int.natCast_mul]
  obtain ⟨fz, hfz⟩ : ∃ fz, fz = ta % 12 := ⟨_, rfl⟩
  have hf2 : 0 ≤ fz ∧ fz < 12 := by omega
  clear h hM q0 q1 q2
  have HK : Hid (∀ w, Calls Try.prog 19 #[.int .i64 tw, .int .i64 12] w fun e w' => e = .returned (.int .i64 4) ∧ w = w') := fun w => by have := Book.pick_any tw 12 (by decide) (by decide) w; rw [show tw % ((12 : Nat) : Int) = 4 from hk] at this; exact this
  have HF := Lib.hid (fun w p S (h : FHas w p d S) => fProgram_any h hd ta (ts))
  have HR := Lib.hid (fun w p R (h : RHas w p d R) => rProgram h hd ta (ts))
  have HSt := Lib.hid (show stepD d ⟨tw, ta, tb, ts, tx, tm, false⟩ = (programD d ta (ts).data.toList).2 by unfold stepD St.page St.text; simp only [hk]; rfl)
  clear hk hfz
  go_enter Try.func17, Try.ntmps17
  go_wp2
  go_quiet (fail)
  obtain ⟨w5, hw5⟩ : ∃ w5, w5 = ((w.alloc (.cells #[.int .i64 tw, .int .i64 ta, .int .i64 tb, .string ts, .int .u8 (tx.toNat : Int), .slice ma ml mc, .bool false] 39)).alloc (.cells #[.int .i64 (d.pg : Int), .int .i64 (d.pgs : Int), .int .i64 (d.rgs : Int)] 23)).drewN nq := ⟨_, rfl⟩
  rw [← hw5]
  have B5 := Lib.hid (show Below ((w.alloc (.cells #[.int .i64 tw, .int .i64 ta, .int .i64 tb, .string ts, .int .u8 (tx.toNat : Int), .slice ma ml mc, .bool false] 39)).alloc (.cells #[.int .i64 (d.pg : Int), .int .i64 (d.pgs : Int), .int .i64 (d.rgs : Int)] 23)).heap.size ((w.alloc (.cells #[.int .i64 tw, .int .i64 ta, .int .i64 tb, .string ts, .int .u8 (tx.toNat : Int), .slice ma ml mc, .bool false] 39)).alloc (.cells #[.int .i64 (d.pg : Int), .int .i64 (d.pgs : Int), .int .i64 (d.rgs : Int)] 23)) w5 by rw [hw5]; exact below_drewN _ _)
  have VB5 := Lib.hid (HVB.out.below B5.out HVB.out.lt)
  have VG5 := Lib.hid (HVG.out.below B5.out HVG.out.lt)
  have BW5 := Lib.hid (HB2.out.trans (B5.out.mono HB2.out.size))
  clear hw5 r0 r1 r2
  have x0 := VB5.out.cell (j := 0) rfl
  have x1 := VB5.out.cell (j := 1) rfl
  have x2 := VB5.out.cell (j := 2) rfl
  have x3 := VB5.out.cell (j := 3) rfl
  have x4 := VB5.out.cell (j := 4) rfl
  have x5 := VB5.out.cell (j := 5) rfl
  have x6 := VB5.out.cell (j := 6) rfl
  have g0 := VG5.out.cell (j := 0) rfl
  have g1 := VG5.out.cell (j := 1) rfl
  have g2 := VG5.out.cell (j := 2) rfl
  have VB := VB5
  have VG := VG5
  have BW := BW5
  have TB := Lib.hid (H0.out.below BW.out)
  have MB := Lib.hid (M0.out.grows (Grows.of_below (S := fun _ => False) BW.out) (fun _ x => x.elim))
  have MF := Lib.hid (MB.out.sub (T := S) (fun k hk => Or.inl hk))
  go_wp2_with (first
    | (go_at_call 19; (with_reducible refine (HK.out _).mono ?_); rintro e wz ⟨rfl, rfl⟩)
    | (go_at_call 26; (with_reducible refine (HF.out _ _ _ TB.out.f).mono ?_); rintro e wc ⟨rfl, S1, hf1, a1⟩; have two1 := TB.out.left hf1 a1; have TC := Lib.hid two1; clear two1; have VC := Lib.hid (a1.grows.var VB.out (fun hs => NS.out _ (Nat.le_refl _) hs)); have x0 := VC.out.cell (j := 0) rfl; have x1 := VC.out.cell (j := 1) rfl; have x2 := VC.out.cell (j := 2) rfl; have x3 := VC.out.cell (j := 3) rfl; have x4 := VC.out.cell (j := 4) rfl; have x5 := VC.out.cell (j := 5) rfl; have x6 := VC.out.cell (j := 6) rfl)
    | (go_at_call 43; (with_reducible refine (HR.out _ _ _ TC.out.1.r).mono ?_); rintro e wd ⟨rfl, R2, hr2, a2⟩; have two2 := TC.out.1.right hr2 a2; have TD := Lib.hid two2; clear two2))
  go_ret
  rw [HSt.out]
  exact ⟨rfl, S1, R2, TD.out.1, After.trans (after_below BW.out) (After.trans TC.out.2 TD.out.2)⟩
set_option maxRecDepth 100000 in
set_option maxHeartbeats 16000000 in
theorem step_false_5 {w : World} {p r : Nat} {d : Dev} {S R : Nat → Prop} (h : Two w p r d d S R) (hd : d.Ok) (tw ta tb : Int) (ts : ByteArray) (tx : UInt8) (tm : List Int) (ma : Option Addr) (ml mc : Nat) (hs : ts.size ≤ maxLen) (hM : MaskAt w ma tm (both S R)) (hm : ∀ m ∈ tm, m < 9223372036854775808) (hml : ml = tm.length) (hml2 : tm.length ≤ maxLen) (hk : tw % 12 = 5) :
    Calls Try.prog 17 #[.pointer (some ⟨p, 0, none⟩), .pointer (some ⟨r, 0, none⟩), .agg #[.int .i64 tw, .int .i64 ta, .int .i64 tb, .string ts, .int .u8 (tx.toNat : Int), .slice ma ml mc, .bool false]] w fun e w' => e = .returned (.bool true) ∧ ∃ S' R', Two w' p r (stepD d ⟨tw, ta, tb, ts, tx, tm, false⟩) (stepD d ⟨tw, ta, tb, ts, tx, tm, false⟩) S' R' ∧ After (both S R) w w' (both S' R') := by
  have HML := Lib.hid hml
  clear hml
  have H0 := Lib.hid h
  have M0 := Lib.hid hM
  have NS := Lib.hid (show ∀ k, w.heap.size ≤ k → ¬ S k from fun k hk hs => by have := h.f.lt k hs; omega)
  obtain ⟨q0, q1, q2⟩ := rCells h.r
  have r0 : (w.alloc (.cells #[.int .i64 tw, .int .i64 ta, .int .i64 tb, .string ts, .int .u8 (tx.toNat : Int), .slice ma ml mc, .bool false] 39)).cell? ⟨r, 0, none⟩ = some (.int .i64 (d.pg : Int)) := (Grows.alloc (fun _ => False) w _).cell q0 (fun x => x)
  have r1 : (w.alloc (.cells #[.int .i64 tw, .int .i64 ta, .int .i64 tb, .string ts, .int .u8 (tx.toNat : Int), .slice ma ml mc, .bool false] 39)).cell? ⟨r, 1, none⟩ = some (.int .i64 (d.pgs : Int)) := (Grows.alloc (fun _ => False) w _).cell q1 (fun x => x)
  have r2 : (w.alloc (.cells #[.int .i64 tw, .int .i64 ta, .int .i64 tb, .string ts, .int .u8 (tx.toNat : Int), .slice ma ml mc, .bool false] 39)).cell? ⟨r, 2, none⟩ = some (.int .i64 (d.rgs : Int)) := (Grows.alloc (fun _ => False) w _).cell q2 (fun x => x)
  have HVB := Lib.hid (show Var ((w.alloc (.cells #[.int .i64 tw, .int .i64 ta, .int .i64 tb, .string ts, .int .u8 (tx.toNat : Int), .slice ma ml mc, .bool false] 39)).alloc (.cells #[.int .i64 (d.pg : Int), .int .i64 (d.pgs : Int), .int .i64 (d.rgs : Int)] 23)) w.heap.size 39 [.int .i64 tw, .int .i64 ta, .int .i64 tb, .string ts, .int .u8 (tx.toNat : Int), .slice ma ml mc, .bool false] from (Var.new w 39 [.int .i64 tw, .int .i64 ta, .int .i64 tb, .string ts, .int .u8 (tx.toNat : Int), .slice ma ml mc, .bool false]).alloc _)
  have HVG := Lib.hid (show Var ((w.alloc (.cells #[.int .i64 tw, .int .i64 ta, .int .i64 tb, .string ts, .int .u8 (tx.toNat : Int), .slice ma ml mc, .bool false] 39)).alloc (.cells #[.int .i64 (d.pg : Int), .int .i64 (d.pgs : Int), .int .i64 (d.rgs : Int)] 23)) (w.heap.size + 1) 23 [.int .i64 (d.pg : Int), .int .i64 (d.pgs : Int), .int .i64 (d.rgs : Int)] by have := Var.new (w.alloc (.cells #[.int .i64 tw, .int .i64 ta, .int .i64 tb, .string ts, .int .u8 (tx.toNat : Int), .slice ma ml mc, .bool false] 39)) 23 [.int .i64 (d.pg : Int), .int .i64 (d.pgs : Int), .int .i64 (d.rgs : Int)]; rw [show (w.alloc (.cells #[.int .i64 tw, .int .i64 ta, .int .i64 tb, .string ts, .int .u8 (tx.toNat : Int), .slice ma ml mc, .bool false] 39)).heap.size = w.heap.size + 1 by simp] at this; exact this)
  have HB2 := Lib.hid (show Below w.heap.size w ((w.alloc (.cells #[.int .i64 tw, .int .i64 ta, .int .i64 tb, .string ts, .int .u8 (tx.toNat : Int), .slice ma ml mc, .bool false] 39)).alloc (.cells #[.int .i64 (d.pg : Int), .int .i64 (d.pgs : Int), .int .i64 (d.rgs : Int)] 23)) from bel2 (Geom.bel_alloc w _) (Geom.bel_alloc _ _))
  have hp0 := hd.p0
  have hp1 := hd.p1
  have hs0 := hd.s0
  have hs1 := hd.s1
  have hr0 := hd.r0
  have hr1 := hd.r1
  have hn1 := hd.n_le
  have hn0 : 0 < d.n := Nat.mul_pos (by omega) (by omega)
  have hnn : (d.pgs : Int) * (d.rgs : Int) = (d.n : Int) := by unfold Dev.n; rw [Int.natCast_mul]
  obtain ⟨fz, hfz⟩ : ∃ fz, fz = ta % 12 := ⟨_, rfl⟩
  have hf2 : 0 ≤ fz ∧ fz < 12 := by omega
  clear h hM q0 q1 q2
  have HK : Hid (∀ w, Calls Try.prog 19 #[.int .i64 tw, .int .i64 12] w fun e w' => e = .returned (.int .i64 5) ∧ w = w') := fun w => by have := Book.pick_any tw 12 (by decide) (by decide) w; rw [show tw % ((12 : Nat) : Int) = 5 from hk] at this; exact this
  have HF := Lib.hid (fun w p S (h : FHas w p d S) => fErase_any h hd ta)
  have HR := Lib.hid (fun w p R (h : RHas w p d R) => rErase h hd ta)
  have HSt := Lib.hid (show stepD d ⟨tw, ta, tb, ts, tx, tm, false⟩ = (eraseD d ta).2 by unfold stepD St.region; simp only [hk]; rfl)
  clear hk hfz
  go_enter Try.func17, Try.ntmps17
  go_wp2
  go_quiet (fail)
  obtain ⟨w5, hw5⟩ : ∃ w5, w5 = ((w.alloc (.cells #[.int .i64 tw, .int .i64 ta, .int .i64 tb, .string ts, .int .u8 (tx.toNat : Int), .slice ma ml mc, .bool false] 39)).alloc (.cells #[.int .i64 (d.pg : Int), .int .i64 (d.pgs : Int), .int .i64 (d.rgs : Int)] 23)).drewN nq := ⟨_, rfl⟩
  rw [← hw5]
  have B5 := Lib.hid (show Below ((w.alloc (.cells #[.int .i64 tw, .int .i64 ta, .int .i64 tb, .string ts, .int .u8 (tx.toNat : Int), .slice ma ml mc, .bool false] 39)).alloc (.cells #[.int .i64 (d.pg : Int), .int .i64 (d.pgs : Int), .int .i64 (d.rgs : Int)] 23)).heap.size ((w.alloc (.cells #[.int .i64 tw, .int .i64 ta, .int .i64 tb, .string ts, .int .u8 (tx.toNat : Int), .slice ma ml mc, .bool false] 39)).alloc (.cells #[.int .i64 (d.pg : Int), .int .i64 (d.pgs : Int), .int .i64 (d.rgs : Int)] 23)) w5 by rw [hw5]; exact below_drewN _ _)
  have VB5 := Lib.hid (HVB.out.below B5.out HVB.out.lt)
  have VG5 := Lib.hid (HVG.out.below B5.out HVG.out.lt)
  have BW5 := Lib.hid (HB2.out.trans (B5.out.mono HB2.out.size))
  clear hw5 r0 r1 r2
  have x0 := VB5.out.cell (j := 0) rfl
  have x1 := VB5.out.cell (j := 1) rfl
  have x2 := VB5.out.cell (j := 2) rfl
  have x3 := VB5.out.cell (j := 3) rfl
  have x4 := VB5.out.cell (j := 4) rfl
  have x5 := VB5.out.cell (j := 5) rfl
  have x6 := VB5.out.cell (j := 6) rfl
  have g0 := VG5.out.cell (j := 0) rfl
  have g1 := VG5.out.cell (j := 1) rfl
  have g2 := VG5.out.cell (j := 2) rfl
  have VB := VB5
  have VG := VG5
  have BW := BW5
  have TB := Lib.hid (H0.out.below BW.out)
  have MB := Lib.hid (M0.out.grows (Grows.of_below (S := fun _ => False) BW.out) (fun _ x => x.elim))
  have MF := Lib.hid (MB.out.sub (T := S) (fun k hk => Or.inl hk))
  go_wp2_with (first
    | (go_at_call 19; (with_reducible refine (HK.out _).mono ?_); rintro e wz ⟨rfl, rfl⟩)
    | (go_at_call 31; (with_reducible refine (HF.out _ _ _ TB.out.f).mono ?_); rintro e wc ⟨rfl, S1, hf1, a1⟩; have two1 := TB.out.left hf1 a1; have TC := Lib.hid two1; clear two1; have VC := Lib.hid (a1.grows.var VB.out (fun hs => NS.out _ (Nat.le_refl _) hs)); have x0 := VC.out.cell (j := 0) rfl; have x1 := VC.out.cell (j := 1) rfl; have x2 := VC.out.cell (j := 2) rfl; have x3 := VC.out.cell (j := 3) rfl; have x4 := VC.out.cell (j := 4) rfl; have x5 := VC.out.cell (j := 5) rfl; have x6 := VC.out.cell (j := 6) rfl)
    | (go_at_call 37; (with_reducible refine (HR.out _ _ _ TC.out.1.r).mono ?_); rintro e wd ⟨rfl, R2, hr2, a2⟩; have two2 := TC.out.1.right hr2 a2; have TD := Lib.hid two2; clear two2))
  go_ret
  rw [HSt.out]
  exact ⟨rfl, S1, R2, TD.out.1, After.trans (after_below BW.out) (After.trans TC.out.2 TD.out.2)⟩
set_option maxRecDepth 100000 in
set_option maxHeartbeats 16000000 in
theorem step_false_6 {w : World} {p r : Nat} {d : Dev} {S R : Nat → Prop} (h : Two w p r d d S R) (hd : d.Ok) (tw ta tb : Int) (ts : ByteArray) (tx : UInt8) (tm : List Int) (ma : Option Addr) (ml mc : Nat) (hs : ts.size ≤ maxLen) (hM : MaskAt w ma tm (both S R)) (hm : ∀ m ∈ tm, m < 9223372036854775808) (hml : ml = tm.length) (hml2 : tm.length ≤ maxLen) (hk : tw % 12 = 6) :
    Calls Try.prog 17 #[.pointer (some ⟨p, 0, none⟩), .pointer (some ⟨r, 0, none⟩), .agg #[.int .i64 tw, .int .i64 ta, .int .i64 tb, .string ts, .int .u8 (tx.toNat : Int), .slice ma ml mc, .bool false]] w fun e w' => e = .returned (.bool true) ∧ ∃ S' R', Two w' p r (stepD d ⟨tw, ta, tb, ts, tx, tm, false⟩) (stepD d ⟨tw, ta, tb, ts, tx, tm, false⟩) S' R' ∧ After (both S R) w w' (both S' R') := by
  have HML := Lib.hid hml
  clear hml
  have H0 := Lib.hid h
  have M0 := Lib.hid hM
  have NS := Lib.hid (show ∀ k, w.heap.size ≤ k → ¬ S k from fun k hk hs => by have := h.f.lt k hs; omega)
  obtain ⟨q0, q1, q2⟩ := rCells h.r
  have r0 : (w.alloc (.cells #[.int .i64 tw, .int .i64 ta, .int .i64 tb, .string ts, .int .u8 (tx.toNat : Int), .slice ma ml mc, .bool false] 39)).cell? ⟨r, 0, none⟩ = some (.int .i64 (d.pg : Int)) := (Grows.alloc (fun _ => False) w _).cell q0 (fun x => x)
  have r1 : (w.alloc (.cells #[.int .i64 tw, .int .i64 ta, .int .i64 tb, .string ts, .int .u8 (tx.toNat : Int), .slice ma ml mc, .bool false] 39)).cell? ⟨r, 1, none⟩ = some (.int .i64 (d.pgs : Int)) := (Grows.alloc (fun _ => False) w _).cell q1 (fun x => x)
  have r2 : (w.alloc (.cells #[.int .i64 tw, .int .i64 ta, .int .i64 tb, .string ts, .int .u8 (tx.toNat : Int), .slice ma ml mc, .bool false] 39)).cell? ⟨r, 2, none⟩ = some (.int .i64 (d.rgs : Int)) := (Grows.alloc (fun _ => False) w _).cell q2 (fun x => x)
  have HVB := Lib.hid (show Var ((w.alloc (.cells #[.int .i64 tw, .int .i64 ta, .int .i64 tb, .string ts, .int .u8 (tx.toNat : Int), .slice ma ml mc, .bool false] 39)).alloc (.cells #[.int .i64 (d.pg : Int), .int .i64 (d.pgs : Int), .int .i64 (d.rgs : Int)] 23)) w.heap.size 39 [.int .i64 tw, .int .i64 ta, .int .i64 tb, .string ts, .int .u8 (tx.toNat : Int), .slice ma ml mc, .bool false] from (Var.new w 39 [.int .i64 tw, .int .i64 ta, .int .i64 tb, .string ts, .int .u8 (tx.toNat : Int), .slice ma ml mc, .bool false]).alloc _)
  have HVG := Lib.hid (show Var ((w.alloc (.cells #[.int .i64 tw, .int .i64 ta, .int .i64 tb, .string ts, .int .u8 (tx.toNat : Int), .slice ma ml mc, .bool false] 39)).alloc (.cells #[.int .i64 (d.pg : Int), .int .i64 (d.pgs : Int), .int .i64 (d.rgs : Int)] 23)) (w.heap.size + 1) 23 [.int .i64 (d.pg : Int), .int .i64 (d.pgs : Int), .int .i64 (d.rgs : Int)] by have := Var.new (w.alloc (.cells #[.int .i64 tw, .int .i64 ta, .int .i64 tb, .string ts, .int .u8 (tx.toNat : Int), .slice ma ml mc, .bool false] 39)) 23 [.int .i64 (d.pg : Int), .int .i64 (d.pgs : Int), .int .i64 (d.rgs : Int)]; rw [show (w.alloc (.cells #[.int .i64 tw, .int .i64 ta, .int .i64 tb, .string ts, .int .u8 (tx.toNat : Int), .slice ma ml mc, .bool false] 39)).heap.size = w.heap.size + 1 by simp] at this; exact this)
  have HB2 := Lib.hid (show Below w.heap.size w ((w.alloc (.cells #[.int .i64 tw, .int .i64 ta, .int .i64 tb, .string ts, .int .u8 (tx.toNat : Int), .slice ma ml mc, .bool false] 39)).alloc (.cells #[.int .i64 (d.pg : Int), .int .i64 (d.pgs : Int), .int .i64 (d.rgs : Int)] 23)) from bel2 (Geom.bel_alloc w _) (Geom.bel_alloc _ _))
  have hp0 := hd.p0
  have hp1 := hd.p1
  have hs0 := hd.s0
  have hs1 := hd.s1
  have hr0 := hd.r0
  have hr1 := hd.r1
  have hn1 := hd.n_le
  have hn0 : 0 < d.n := Nat.mul_pos (by omega) (by omega)
  have hnn : (d.pgs : Int) * (d.rgs : Int) = (d.n : Int) := by unfold Dev.n; rw [Int.natCast_mul]
  obtain ⟨fz, hfz⟩ : ∃ fz, fz = ta % 12 := ⟨_, rfl⟩
  have hf2 : 0 ≤ fz ∧ fz < 12 := by omega
  clear h hM q0 q1 q2
  have HK : Hid (∀ w, Calls Try.prog 19 #[.int .i64 tw, .int .i64 12] w fun e w' => e = .returned (.int .i64 6) ∧ w = w') := fun w => by have := Book.pick_any tw 12 (by decide) (by decide) w; rw [show tw % ((12 : Nat) : Int) = 6 from hk] at this; exact this
  have HF := Lib.hid (fun w p S (h : FHas w p d S) => fFlush_any h hd)
  have HR := Lib.hid (fun w p R (h : RHas w p d R) => rFlush h hd)
  have HSt := Lib.hid (show stepD d ⟨tw, ta, tb, ts, tx, tm, false⟩ = (flushD d).2 by unfold stepD; simp only [hk]; rfl)
  clear hk hfz
  go_enter Try.func17, Try.ntmps17
  go_wp2
  go_quiet (fail)
  obtain ⟨w5, hw5⟩ : ∃ w5, w5 = ((w.alloc (.cells #[.int .i64 tw, .int .i64 ta, .int .i64 tb, .string ts, .int .u8 (tx.toNat : Int), .slice ma ml mc, .bool false] 39)).alloc (.cells #[.int .i64 (d.pg : Int), .int .i64 (d.pgs : Int), .int .i64 (d.rgs : Int)] 23)).drewN nq := ⟨_, rfl⟩
  rw [← hw5]
  have B5 := Lib.hid (show Below ((w.alloc (.cells #[.int .i64 tw, .int .i64 ta, .int .i64 tb, .string ts, .int .u8 (tx.toNat : Int), .slice ma ml mc, .bool false] 39)).alloc (.cells #[.int .i64 (d.pg : Int), .int .i64 (d.pgs : Int), .int .i64 (d.rgs : Int)] 23)).heap.size ((w.alloc (.cells #[.int .i64 tw, .int .i64 ta, .int .i64 tb, .string ts, .int .u8 (tx.toNat : Int), .slice ma ml mc, .bool false] 39)).alloc (.cells #[.int .i64 (d.pg : Int), .int .i64 (d.pgs : Int), .int .i64 (d.rgs : Int)] 23)) w5 by rw [hw5]; exact below_drewN _ _)
  have VB5 := Lib.hid (HVB.out.below B5.out HVB.out.lt)
  have VG5 := Lib.hid (HVG.out.below B5.out HVG.out.lt)
  have BW5 := Lib.hid (HB2.out.trans (B5.out.mono HB2.out.size))
  clear hw5 r0 r1 r2
  have x0 := VB5.out.cell (j := 0) rfl
  have x1 := VB5.out.cell (j := 1) rfl
  have x2 := VB5.out.cell (j := 2) rfl
  have x3 := VB5.out.cell (j := 3) rfl
  have x4 := VB5.out.cell (j := 4) rfl
  have x5 := VB5.out.cell (j := 5) rfl
  have x6 := VB5.out.cell (j := 6) rfl
  have g0 := VG5.out.cell (j := 0) rfl
  have g1 := VG5.out.cell (j := 1) rfl
  have g2 := VG5.out.cell (j := 2) rfl
  have VB := VB5
  have VG := VG5
  have BW := BW5
  have TB := Lib.hid (H0.out.below BW.out)
  have MB := Lib.hid (M0.out.grows (Grows.of_below (S := fun _ => False) BW.out) (fun _ x => x.elim))
  have MF := Lib.hid (MB.out.sub (T := S) (fun k hk => Or.inl hk))
  go_wp2_with (first
    | (go_at_call 19; (with_reducible refine (HK.out _).mono ?_); rintro e wz ⟨rfl, rfl⟩)
    | (go_at_call 27; (with_reducible refine (HF.out _ _ _ TB.out.f).mono ?_); rintro e wc ⟨rfl, S1, hf1, a1⟩; have two1 := TB.out.left hf1 a1; have TC := Lib.hid two1; clear two1; have VC := Lib.hid (a1.grows.var VB.out (fun hs => NS.out _ (Nat.le_refl _) hs)); have x0 := VC.out.cell (j := 0) rfl; have x1 := VC.out.cell (j := 1) rfl; have x2 := VC.out.cell (j := 2) rfl; have x3 := VC.out.cell (j := 3) rfl; have x4 := VC.out.cell (j := 4) rfl; have x5 := VC.out.cell (j := 5) rfl; have x6 := VC.out.cell (j := 6) rfl)
    | (go_at_call 38; (with_reducible refine (HR.out _ _ _ TC.out.1.r).mono ?_); rintro e wd ⟨rfl, R2, hr2, a2⟩; have two2 := TC.out.1.right hr2 a2; have TD := Lib.hid two2; clear two2))
  go_ret
  rw [HSt.out]
  exact ⟨rfl, S1, R2, TD.out.1, After.trans (after_below BW.out) (After.trans TC.out.2 TD.out.2)⟩
set_option maxRecDepth 100000 in
set_option maxHeartbeats 16000000 in
theorem step_false_7 {w : World} {p r : Nat} {d : Dev} {S R : Nat → Prop} (h : Two w p r d d S R) (hd : d.Ok) (tw ta tb : Int) (ts : ByteArray) (tx : UInt8) (tm : List Int) (ma : Option Addr) (ml mc : Nat) (hs : ts.size ≤ maxLen) (hM : MaskAt w ma tm (both S R)) (hm : ∀ m ∈ tm, m < 9223372036854775808) (hml : ml = tm.length) (hml2 : tm.length ≤ maxLen) (hk : tw % 12 = 7) :
    Calls Try.prog 17 #[.pointer (some ⟨p, 0, none⟩), .pointer (some ⟨r, 0, none⟩), .agg #[.int .i64 tw, .int .i64 ta, .int .i64 tb, .string ts, .int .u8 (tx.toNat : Int), .slice ma ml mc, .bool false]] w fun e w' => e = .returned (.bool true) ∧ ∃ S' R', Two w' p r (stepD d ⟨tw, ta, tb, ts, tx, tm, false⟩) (stepD d ⟨tw, ta, tb, ts, tx, tm, false⟩) S' R' ∧ After (both S R) w w' (both S' R') := by
  have HML := Lib.hid hml
  clear hml
  have H0 := Lib.hid h
  have M0 := Lib.hid hM
  have NS := Lib.hid (show ∀ k, w.heap.size ≤ k → ¬ S k from fun k hk hs => by have := h.f.lt k hs; omega)
  obtain ⟨q0, q1, q2⟩ := rCells h.r
  have r0 : (w.alloc (.cells #[.int .i64 tw, .int .i64 ta, .int .i64 tb, .string ts, .int .u8 (tx.toNat : Int), .slice ma ml mc, .bool false] 39)).cell? ⟨r, 0, none⟩ = some (.int .i64 (d.pg : Int)) := (Grows.alloc (fun _ => False) w _).cell q0 (fun x => x)
  have r1 : (w.alloc (.cells #[.int .i64 tw, .int .i64 ta, .int .i64 tb, .string ts, .int .u8 (tx.toNat : Int), .slice ma ml mc, .bool false] 39)).cell? ⟨r, 1, none⟩ = some (.int .i64 (d.pgs : Int)) := (Grows.alloc (fun _ => False) w _).cell q1 (fun x => x)
  have r2 : (w.alloc (.cells #[.int .i64 tw, .int .i64 ta, .int .i64 tb, .string ts, .int .u8 (tx.toNat : Int), .slice ma ml mc, .bool false] 39)).cell? ⟨r, 2, none⟩ = some (.int .i64 (d.rgs : Int)) := (Grows.alloc (fun _ => False) w _).cell q2 (fun x => x)
  have HVB := Lib.hid (show Var ((w.alloc (.cells #[.int .i64 tw, .int .i64 ta, .int .i64 tb, .string ts, .int .u8 (tx.toNat : Int), .slice ma ml mc, .bool false] 39)).alloc (.cells #[.int .i64 (d.pg : Int), .int .i64 (d.pgs : Int), .int .i64 (d.rgs : Int)] 23)) w.heap.size 39 [.int .i64 tw, .int .i64 ta, .int .i64 tb, .string ts, .int .u8 (tx.toNat : Int), .slice ma ml mc, .bool false] from (Var.new w 39 [.int .i64 tw, .int .i64 ta, .int .i64 tb, .string ts, .int .u8 (tx.toNat : Int), .slice ma ml mc, .bool false]).alloc _)
  have HVG := Lib.hid (show Var ((w.alloc (.cells #[.int .i64 tw, .int .i64 ta, .int .i64 tb, .string ts, .int .u8 (tx.toNat : Int), .slice ma ml mc, .bool false] 39)).alloc (.cells #[.int .i64 (d.pg : Int), .int .i64 (d.pgs : Int), .int .i64 (d.rgs : Int)] 23)) (w.heap.size + 1) 23 [.int .i64 (d.pg : Int), .int .i64 (d.pgs : Int), .int .i64 (d.rgs : Int)] by have := Var.new (w.alloc (.cells #[.int .i64 tw, .int .i64 ta, .int .i64 tb, .string ts, .int .u8 (tx.toNat : Int), .slice ma ml mc, .bool false] 39)) 23 [.int .i64 (d.pg : Int), .int .i64 (d.pgs : Int), .int .i64 (d.rgs : Int)]; rw [show (w.alloc (.cells #[.int .i64 tw, .int .i64 ta, .int .i64 tb, .string ts, .int .u8 (tx.toNat : Int), .slice ma ml mc, .bool false] 39)).heap.size = w.heap.size + 1 by simp] at this; exact this)
  have HB2 := Lib.hid (show Below w.heap.size w ((w.alloc (.cells #[.int .i64 tw, .int .i64 ta, .int .i64 tb, .string ts, .int .u8 (tx.toNat : Int), .slice ma ml mc, .bool false] 39)).alloc (.cells #[.int .i64 (d.pg : Int), .int .i64 (d.pgs : Int), .int .i64 (d.rgs : Int)] 23)) from bel2 (Geom.bel_alloc w _) (Geom.bel_alloc _ _))
  have hp0 := hd.p0
  have hp1 := hd.p1
  have hs0 := hd.s0
  have hs1 := hd.s1
  have hr0 := hd.r0
  have hr1 := hd.r1
  have hn1 := hd.n_le
  have hn0 : 0 < d.n := Nat.mul_pos (by omega) (by omega)
  have hnn : (d.pgs : Int) * (d.rgs : Int) = (d.n : Int) := by unfold Dev.n; rw [Int.natCast_mul]
  obtain ⟨fz, hfz⟩ : ∃ fz, fz = ta % 12 := ⟨_, rfl⟩
  have hf2 : 0 ≤ fz ∧ fz < 12 := by omega
  clear h hM q0 q1 q2
  have HK : Hid (∀ w, Calls Try.prog 19 #[.int .i64 tw, .int .i64 12] w fun e w' => e = .returned (.int .i64 7) ∧ w = w') := fun w => by have := Book.pick_any tw 12 (by decide) (by decide) w; rw [show tw % ((12 : Nat) : Int) = 7 from hk] at this; exact this
  have HF := Lib.hid (fun w p S (h : FHas w p d S) => fFlush_any h hd)
  have HR := Lib.hid (fun w p R (h : RHas w p d R) => rFlush h hd)
  have HSt := Lib.hid (show stepD d ⟨tw, ta, tb, ts, tx, tm, false⟩ = (flushD d).2 by unfold stepD; simp only [hk]; rfl)
  clear hk hfz
  go_enter Try.func17, Try.ntmps17
  go_wp2
  go_quiet (fail)
  obtain ⟨w5, hw5⟩ : ∃ w5, w5 = ((w.alloc (.cells #[.int .i64 tw, .int .i64 ta, .int .i64 tb, .string ts, .int .u8 (tx.toNat : Int), .slice ma ml mc, .bool false] 39)).alloc (.cells #[.int .i64 (d.pg : Int), .int .i64 (d.pgs : Int), .int .i64 (d.rgs : Int)] 23)).drewN nq := ⟨_, rfl⟩
  rw [← hw5]
  have B5 := Lib.hid (show Below ((w.alloc (.cells #[.int .i64 tw, .int .i64 ta, .int .i64 tb, .string ts, .int .u8 (tx.toNat : Int), .slice ma ml mc, .bool false] 39)).alloc (.cells #[.int .i64 (d.pg : Int), .int .i64 (d.pgs : Int), .int .i64 (d.rgs : Int)] 23)).heap.size ((w.alloc (.cells #[.int .i64 tw, .int .i64 ta, .int .i64 tb, .string ts, .int .u8 (tx.toNat : Int), .slice ma ml mc, .bool false] 39)).alloc (.cells #[.int .i64 (d.pg : Int), .int .i64 (d.pgs : Int), .int .i64 (d.rgs : Int)] 23)) w5 by rw [hw5]; exact below_drewN _ _)
  have VB5 := Lib.hid (HVB.out.below B5.out HVB.out.lt)
  have VG5 := Lib.hid (HVG.out.below B5.out HVG.out.lt)
  have BW5 := Lib.hid (HB2.out.trans (B5.out.mono HB2.out.size))
  clear hw5 r0 r1 r2
  have x0 := VB5.out.cell (j := 0) rfl
  have x1 := VB5.out.cell (j := 1) rfl
  have x2 := VB5.out.cell (j := 2) rfl
  have x3 := VB5.out.cell (j := 3) rfl
  have x4 := VB5.out.cell (j := 4) rfl
  have x5 := VB5.out.cell (j := 5) rfl
  have x6 := VB5.out.cell (j := 6) rfl
  have g0 := VG5.out.cell (j := 0) rfl
  have g1 := VG5.out.cell (j := 1) rfl
  have g2 := VG5.out.cell (j := 2) rfl
  have VB := VB5
  have VG := VG5
  have BW := BW5
  have TB := Lib.hid (H0.out.below BW.out)
  have MB := Lib.hid (M0.out.grows (Grows.of_below (S := fun _ => False) BW.out) (fun _ x => x.elim))
  have MF := Lib.hid (MB.out.sub (T := S) (fun k hk => Or.inl hk))
  go_wp2_with (first
    | (go_at_call 19; (with_reducible refine (HK.out _).mono ?_); rintro e wz ⟨rfl, rfl⟩)
    | (go_at_call 27; (with_reducible refine (HF.out _ _ _ TB.out.f).mono ?_); rintro e wc ⟨rfl, S1, hf1, a1⟩; have two1 := TB.out.left hf1 a1; have TC := Lib.hid two1; clear two1; have VC := Lib.hid (a1.grows.var VB.out (fun hs => NS.out _ (Nat.le_refl _) hs)); have x0 := VC.out.cell (j := 0) rfl; have x1 := VC.out.cell (j := 1) rfl; have x2 := VC.out.cell (j := 2) rfl; have x3 := VC.out.cell (j := 3) rfl; have x4 := VC.out.cell (j := 4) rfl; have x5 := VC.out.cell (j := 5) rfl; have x6 := VC.out.cell (j := 6) rfl)
    | (go_at_call 38; (with_reducible refine (HR.out _ _ _ TC.out.1.r).mono ?_); rintro e wd ⟨rfl, R2, hr2, a2⟩; have two2 := TC.out.1.right hr2 a2; have TD := Lib.hid two2; clear two2))
  go_ret
  rw [HSt.out]
  exact ⟨rfl, S1, R2, TD.out.1, After.trans (after_below BW.out) (After.trans TC.out.2 TD.out.2)⟩
set_option maxRecDepth 100000 in
set_option maxHeartbeats 16000000 in
theorem step_false_8 {w : World} {p r : Nat} {d : Dev} {S R : Nat → Prop} (h : Two w p r d d S R) (hd : d.Ok) (tw ta tb : Int) (ts : ByteArray) (tx : UInt8) (tm : List Int) (ma : Option Addr) (ml mc : Nat) (hs : ts.size ≤ maxLen) (hM : MaskAt w ma tm (both S R)) (hm : ∀ m ∈ tm, m < 9223372036854775808) (hml : ml = tm.length) (hml2 : tm.length ≤ maxLen) (hk : tw % 12 = 8) :
    Calls Try.prog 17 #[.pointer (some ⟨p, 0, none⟩), .pointer (some ⟨r, 0, none⟩), .agg #[.int .i64 tw, .int .i64 ta, .int .i64 tb, .string ts, .int .u8 (tx.toNat : Int), .slice ma ml mc, .bool false]] w fun e w' => e = .returned (.bool true) ∧ ∃ S' R', Two w' p r (stepD d ⟨tw, ta, tb, ts, tx, tm, false⟩) (stepD d ⟨tw, ta, tb, ts, tx, tm, false⟩) S' R' ∧ After (both S R) w w' (both S' R') := by
  have HML := Lib.hid hml
  clear hml
  have H0 := Lib.hid h
  have M0 := Lib.hid hM
  have NS := Lib.hid (show ∀ k, w.heap.size ≤ k → ¬ S k from fun k hk hs => by have := h.f.lt k hs; omega)
  obtain ⟨q0, q1, q2⟩ := rCells h.r
  have r0 : (w.alloc (.cells #[.int .i64 tw, .int .i64 ta, .int .i64 tb, .string ts, .int .u8 (tx.toNat : Int), .slice ma ml mc, .bool false] 39)).cell? ⟨r, 0, none⟩ = some (.int .i64 (d.pg : Int)) := (Grows.alloc (fun _ => False) w _).cell q0 (fun x => x)
  have r1 : (w.alloc (.cells #[.int .i64 tw, .int .i64 ta, .int .i64 tb, .string ts, .int .u8 (tx.toNat : Int), .slice ma ml mc, .bool false] 39)).cell? ⟨r, 1, none⟩ = some (.int .i64 (d.pgs : Int)) := (Grows.alloc (fun _ => False) w _).cell q1 (fun x => x)
  have r2 : (w.alloc (.cells #[.int .i64 tw, .int .i64 ta, .int .i64 tb, .string ts, .int .u8 (tx.toNat : Int), .slice ma ml mc, .bool false] 39)).cell? ⟨r, 2, none⟩ = some (.int .i64 (d.rgs : Int)) := (Grows.alloc (fun _ => False) w _).cell q2 (fun x => x)
  have HVB := Lib.hid (show Var ((w.alloc (.cells #[.int .i64 tw, .int .i64 ta, .int .i64 tb, .string ts, .int .u8 (tx.toNat : Int), .slice ma ml mc, .bool false] 39)).alloc (.cells #[.int .i64 (d.pg : Int), .int .i64 (d.pgs : Int), .int .i64 (d.rgs : Int)] 23)) w.heap.size 39 [.int .i64 tw, .int .i64 ta, .int .i64 tb, .string ts, .int .u8 (tx.toNat : Int), .slice ma ml mc, .bool false] from (Var.new w 39 [.int .i64 tw, .int .i64 ta, .int .i64 tb, .string ts, .int .u8 (tx.toNat : Int), .slice ma ml mc, .bool false]).alloc _)
  have HVG := Lib.hid (show Var ((w.alloc (.cells #[.int .i64 tw, .int .i64 ta, .int .i64 tb, .string ts, .int .u8 (tx.toNat : Int), .slice ma ml mc, .bool false] 39)).alloc (.cells #[.int .i64 (d.pg : Int), .int .i64 (d.pgs : Int), .int .i64 (d.rgs : Int)] 23)) (w.heap.size + 1) 23 [.int .i64 (d.pg : Int), .int .i64 (d.pgs : Int), .int .i64 (d.rgs : Int)] by have := Var.new (w.alloc (.cells #[.int .i64 tw, .int .i64 ta, .int .i64 tb, .string ts, .int .u8 (tx.toNat : Int), .slice ma ml mc, .bool false] 39)) 23 [.int .i64 (d.pg : Int), .int .i64 (d.pgs : Int), .int .i64 (d.rgs : Int)]; rw [show (w.alloc (.cells #[.int .i64 tw, .int .i64 ta, .int .i64 tb, .string ts, .int .u8 (tx.toNat : Int), .slice ma ml mc, .bool false] 39)).heap.size = w.heap.size + 1 by simp] at this; exact this)
  have HB2 := Lib.hid (show Below w.heap.size w ((w.alloc (.cells #[.int .i64 tw, .int .i64 ta, .int .i64 tb, .string ts, .int .u8 (tx.toNat : Int), .slice ma ml mc, .bool false] 39)).alloc (.cells #[.int .i64 (d.pg : Int), .int .i64 (d.pgs : Int), .int .i64 (d.rgs : Int)] 23)) from bel2 (Geom.bel_alloc w _) (Geom.bel_alloc _ _))
  have hp0 := hd.p0
  have hp1 := hd.p1
  have hs0 := hd.s0
  have hs1 := hd.s1
  have hr0 := hd.r0
  have hr1 := hd.r1
  have hn1 := hd.n_le
  have hn0 : 0 < d.n := Nat.mul_pos (by omega) (by omega)
  have hnn : (d.pgs : Int) * (d.rgs : Int) = (d.n : Int) := by unfold Dev.n; rw [Int.natCast_mul]
  obtain ⟨fz, hfz⟩ : ∃ fz, fz = ta % 12 := ⟨_, rfl⟩
  have hf2 : 0 ≤ fz ∧ fz < 12 := by omega
  clear h hM q0 q1 q2
  have HK : Hid (∀ w, Calls Try.prog 19 #[.int .i64 tw, .int .i64 12] w fun e w' => e = .returned (.int .i64 8) ∧ w = w') := fun w => by have := Book.pick_any tw 12 (by decide) (by decide) w; rw [show tw % ((12 : Nat) : Int) = 8 from hk] at this; exact this
  have HF := Lib.hid (fun w p S (h : FHas w p d S) hM => fCrash_any h hd ma tm ml mc HML.out hM hm hml2)
  have HR := Lib.hid (fun w p R (h : RHas w p d R) hM => rCrash h hd ma tm ml mc HML.out hM hm hml2)
  have HSt := Lib.hid (show stepD d ⟨tw, ta, tb, ts, tx, tm, false⟩ = crashD d tm by unfold stepD; simp only [hk]; rfl)
  clear hk hfz
  go_enter Try.func17, Try.ntmps17
  go_wp2
  go_quiet (fail)
  obtain ⟨w5, hw5⟩ : ∃ w5, w5 = ((w.alloc (.cells #[.int .i64 tw, .int .i64 ta, .int .i64 tb, .string ts, .int .u8 (tx.toNat : Int), .slice ma ml mc, .bool false] 39)).alloc (.cells #[.int .i64 (d.pg : Int), .int .i64 (d.pgs : Int), .int .i64 (d.rgs : Int)] 23)).drewN nq := ⟨_, rfl⟩
  rw [← hw5]
  have B5 := Lib.hid (show Below ((w.alloc (.cells #[.int .i64 tw, .int .i64 ta, .int .i64 tb, .string ts, .int .u8 (tx.toNat : Int), .slice ma ml mc, .bool false] 39)).alloc (.cells #[.int .i64 (d.pg : Int), .int .i64 (d.pgs : Int), .int .i64 (d.rgs : Int)] 23)).heap.size ((w.alloc (.cells #[.int .i64 tw, .int .i64 ta, .int .i64 tb, .string ts, .int .u8 (tx.toNat : Int), .slice ma ml mc, .bool false] 39)).alloc (.cells #[.int .i64 (d.pg : Int), .int .i64 (d.pgs : Int), .int .i64 (d.rgs : Int)] 23)) w5 by rw [hw5]; exact below_drewN _ _)
  have VB5 := Lib.hid (HVB.out.below B5.out HVB.out.lt)
  have VG5 := Lib.hid (HVG.out.below B5.out HVG.out.lt)
  have BW5 := Lib.hid (HB2.out.trans (B5.out.mono HB2.out.size))
  clear hw5 r0 r1 r2
  have x0 := VB5.out.cell (j := 0) rfl
  have x1 := VB5.out.cell (j := 1) rfl
  have x2 := VB5.out.cell (j := 2) rfl
  have x3 := VB5.out.cell (j := 3) rfl
  have x4 := VB5.out.cell (j := 4) rfl
  have x5 := VB5.out.cell (j := 5) rfl
  have x6 := VB5.out.cell (j := 6) rfl
  have g0 := VG5.out.cell (j := 0) rfl
  have g1 := VG5.out.cell (j := 1) rfl
  have g2 := VG5.out.cell (j := 2) rfl
  have VB := VB5
  have VG := VG5
  have BW := BW5
  have TB := Lib.hid (H0.out.below BW.out)
  have MB := Lib.hid (M0.out.grows (Grows.of_below (S := fun _ => False) BW.out) (fun _ x => x.elim))
  have MF := Lib.hid (MB.out.sub (T := S) (fun k hk => Or.inl hk))
  go_wp2_with (first
    | (go_at_call 19; (with_reducible refine (HK.out _).mono ?_); rintro e wz ⟨rfl, rfl⟩)
    | (go_at_call 28; (with_reducible refine (HF.out _ _ _ TB.out.f MF.out).mono ?_); rintro e wc ⟨rfl, S1, hf1, a1⟩; have two1 := TB.out.left hf1 a1; have TC := Lib.hid two1; clear two1; have VC := Lib.hid (a1.grows.var VB.out (fun hs => NS.out _ (Nat.le_refl _) hs)); have x0 := VC.out.cell (j := 0) rfl; have x1 := VC.out.cell (j := 1) rfl; have x2 := VC.out.cell (j := 2) rfl; have x3 := VC.out.cell (j := 3) rfl; have x4 := VC.out.cell (j := 4) rfl; have x5 := VC.out.cell (j := 5) rfl; have x6 := VC.out.cell (j := 6) rfl; have MC := Lib.hid ((MB.out.grows a1.grows (fun k hk => Or.inl hk)).sub (T := R) (fun k hk => Or.inr hk)))
    | (go_at_call 39; (with_reducible refine (HR.out _ _ _ TC.out.1.r MC.out).mono ?_); rintro e wd ⟨rfl, R2, hr2, a2⟩; have two2 := TC.out.1.right hr2 a2; have TD := Lib.hid two2; clear two2))
  go_ret
  rw [HSt.out]
  exact ⟨rfl, S1, R2, TD.out.1, After.trans (after_below BW.out) (After.trans TC.out.2 TD.out.2)⟩
set_option maxRecDepth 100000 in
set_option maxHeartbeats 16000000 in
theorem step_false_9 {w : World} {p r : Nat} {d : Dev} {S R : Nat → Prop} (h : Two w p r d d S R) (hd : d.Ok) (tw ta tb : Int) (ts : ByteArray) (tx : UInt8) (tm : List Int) (ma : Option Addr) (ml mc : Nat) (hs : ts.size ≤ maxLen) (hM : MaskAt w ma tm (both S R)) (hm : ∀ m ∈ tm, m < 9223372036854775808) (hml : ml = tm.length) (hml2 : tm.length ≤ maxLen) (hk : tw % 12 = 9) :
    Calls Try.prog 17 #[.pointer (some ⟨p, 0, none⟩), .pointer (some ⟨r, 0, none⟩), .agg #[.int .i64 tw, .int .i64 ta, .int .i64 tb, .string ts, .int .u8 (tx.toNat : Int), .slice ma ml mc, .bool false]] w fun e w' => e = .returned (.bool true) ∧ ∃ S' R', Two w' p r (stepD d ⟨tw, ta, tb, ts, tx, tm, false⟩) (stepD d ⟨tw, ta, tb, ts, tx, tm, false⟩) S' R' ∧ After (both S R) w w' (both S' R') := by
  have HML := Lib.hid hml
  clear hml
  have H0 := Lib.hid h
  have M0 := Lib.hid hM
  have NS := Lib.hid (show ∀ k, w.heap.size ≤ k → ¬ S k from fun k hk hs => by have := h.f.lt k hs; omega)
  obtain ⟨q0, q1, q2⟩ := rCells h.r
  have r0 : (w.alloc (.cells #[.int .i64 tw, .int .i64 ta, .int .i64 tb, .string ts, .int .u8 (tx.toNat : Int), .slice ma ml mc, .bool false] 39)).cell? ⟨r, 0, none⟩ = some (.int .i64 (d.pg : Int)) := (Grows.alloc (fun _ => False) w _).cell q0 (fun x => x)
  have r1 : (w.alloc (.cells #[.int .i64 tw, .int .i64 ta, .int .i64 tb, .string ts, .int .u8 (tx.toNat : Int), .slice ma ml mc, .bool false] 39)).cell? ⟨r, 1, none⟩ = some (.int .i64 (d.pgs : Int)) := (Grows.alloc (fun _ => False) w _).cell q1 (fun x => x)
  have r2 : (w.alloc (.cells #[.int .i64 tw, .int .i64 ta, .int .i64 tb, .string ts, .int .u8 (tx.toNat : Int), .slice ma ml mc, .bool false] 39)).cell? ⟨r, 2, none⟩ = some (.int .i64 (d.rgs : Int)) := (Grows.alloc (fun _ => False) w _).cell q2 (fun x => x)
  have HVB := Lib.hid (show Var ((w.alloc (.cells #[.int .i64 tw, .int .i64 ta, .int .i64 tb, .string ts, .int .u8 (tx.toNat : Int), .slice ma ml mc, .bool false] 39)).alloc (.cells #[.int .i64 (d.pg : Int), .int .i64 (d.pgs : Int), .int .i64 (d.rgs : Int)] 23)) w.heap.size 39 [.int .i64 tw, .int .i64 ta, .int .i64 tb, .string ts, .int .u8 (tx.toNat : Int), .slice ma ml mc, .bool false] from (Var.new w 39 [.int .i64 tw, .int .i64 ta, .int .i64 tb, .string ts, .int .u8 (tx.toNat : Int), .slice ma ml mc, .bool false]).alloc _)
  have HVG := Lib.hid (show Var ((w.alloc (.cells #[.int .i64 tw, .int .i64 ta, .int .i64 tb, .string ts, .int .u8 (tx.toNat : Int), .slice ma ml mc, .bool false] 39)).alloc (.cells #[.int .i64 (d.pg : Int), .int .i64 (d.pgs : Int), .int .i64 (d.rgs : Int)] 23)) (w.heap.size + 1) 23 [.int .i64 (d.pg : Int), .int .i64 (d.pgs : Int), .int .i64 (d.rgs : Int)] by have := Var.new (w.alloc (.cells #[.int .i64 tw, .int .i64 ta, .int .i64 tb, .string ts, .int .u8 (tx.toNat : Int), .slice ma ml mc, .bool false] 39)) 23 [.int .i64 (d.pg : Int), .int .i64 (d.pgs : Int), .int .i64 (d.rgs : Int)]; rw [show (w.alloc (.cells #[.int .i64 tw, .int .i64 ta, .int .i64 tb, .string ts, .int .u8 (tx.toNat : Int), .slice ma ml mc, .bool false] 39)).heap.size = w.heap.size + 1 by simp] at this; exact this)
  have HB2 := Lib.hid (show Below w.heap.size w ((w.alloc (.cells #[.int .i64 tw, .int .i64 ta, .int .i64 tb, .string ts, .int .u8 (tx.toNat : Int), .slice ma ml mc, .bool false] 39)).alloc (.cells #[.int .i64 (d.pg : Int), .int .i64 (d.pgs : Int), .int .i64 (d.rgs : Int)] 23)) from bel2 (Geom.bel_alloc w _) (Geom.bel_alloc _ _))
  have hp0 := hd.p0
  have hp1 := hd.p1
  have hs0 := hd.s0
  have hs1 := hd.s1
  have hr0 := hd.r0
  have hr1 := hd.r1
  have hn1 := hd.n_le
  have hn0 : 0 < d.n := Nat.mul_pos (by omega) (by omega)
  have hnn : (d.pgs : Int) * (d.rgs : Int) = (d.n : Int) := by unfold Dev.n; rw [Int.natCast_mul]
  obtain ⟨fz, hfz⟩ : ∃ fz, fz = ta % 12 := ⟨_, rfl⟩
  have hf2 : 0 ≤ fz ∧ fz < 12 := by omega
  clear h hM q0 q1 q2
  have HK : Hid (∀ w, Calls Try.prog 19 #[.int .i64 tw, .int .i64 12] w fun e w' => e = .returned (.int .i64 9) ∧ w = w') := fun w => by have := Book.pick_any tw 12 (by decide) (by decide) w; rw [show tw % ((12 : Nat) : Int) = 9 from hk] at this; exact this
  have HKa : Hid (∀ w, Calls Try.prog 19 #[.int .i64 ta, .int .i64 12] w fun e w' => e = .returned (.int .i64 fz) ∧ w = w') := fun w => by rw [hfz]; exact Book.pick_any ta 12 (by decide) (by decide) w
  have HF := Lib.hid (fun w p S (h : FHas w p d S) => fFuse_any h hd (fz - 2) (by omega))
  have HR := Lib.hid (fun w p R (h : RHas w p d R) => rFuse h (fz - 2) (by omega))
  have HSt := Lib.hid (show stepD d ⟨tw, ta, tb, ts, tx, tm, false⟩ = fuseD d (fz - 2) by unfold stepD; simp only [hk, hfz]; rfl)
  clear hk hfz
  go_enter Try.func17, Try.ntmps17
  go_wp2
  go_quiet (fail)
  obtain ⟨w5, hw5⟩ : ∃ w5, w5 = ((w.alloc (.cells #[.int .i64 tw, .int .i64 ta, .int .i64 tb, .string ts, .int .u8 (tx.toNat : Int), .slice ma ml mc, .bool false] 39)).alloc (.cells #[.int .i64 (d.pg : Int), .int .i64 (d.pgs : Int), .int .i64 (d.rgs : Int)] 23)).drewN nq := ⟨_, rfl⟩
  rw [← hw5]
  have B5 := Lib.hid (show Below ((w.alloc (.cells #[.int .i64 tw, .int .i64 ta, .int .i64 tb, .string ts, .int .u8 (tx.toNat : Int), .slice ma ml mc, .bool false] 39)).alloc (.cells #[.int .i64 (d.pg : Int), .int .i64 (d.pgs : Int), .int .i64 (d.rgs : Int)] 23)).heap.size ((w.alloc (.cells #[.int .i64 tw, .int .i64 ta, .int .i64 tb, .string ts, .int .u8 (tx.toNat : Int), .slice ma ml mc, .bool false] 39)).alloc (.cells #[.int .i64 (d.pg : Int), .int .i64 (d.pgs : Int), .int .i64 (d.rgs : Int)] 23)) w5 by rw [hw5]; exact below_drewN _ _)
  have VB5 := Lib.hid (HVB.out.below B5.out HVB.out.lt)
  have VG5 := Lib.hid (HVG.out.below B5.out HVG.out.lt)
  have BW5 := Lib.hid (HB2.out.trans (B5.out.mono HB2.out.size))
  clear hw5 r0 r1 r2
  have x0 := VB5.out.cell (j := 0) rfl
  have x1 := VB5.out.cell (j := 1) rfl
  have x2 := VB5.out.cell (j := 2) rfl
  have x3 := VB5.out.cell (j := 3) rfl
  have x4 := VB5.out.cell (j := 4) rfl
  have x5 := VB5.out.cell (j := 5) rfl
  have x6 := VB5.out.cell (j := 6) rfl
  have g0 := VG5.out.cell (j := 0) rfl
  have g1 := VG5.out.cell (j := 1) rfl
  have g2 := VG5.out.cell (j := 2) rfl
  have VB := VB5
  have VG := VG5
  have BW := BW5
  have TB := Lib.hid (H0.out.below BW.out)
  have MB := Lib.hid (M0.out.grows (Grows.of_below (S := fun _ => False) BW.out) (fun _ x => x.elim))
  have MF := Lib.hid (MB.out.sub (T := S) (fun k hk => Or.inl hk))
  go_wp2_with (first
    | (go_at_call 19; (with_reducible refine (HK.out _).mono ?_); rintro e wz ⟨rfl, rfl⟩)
    | (go_at_call 19; (with_reducible refine (HKa.out _).mono ?_); rintro e wz ⟨rfl, rfl⟩)
    | (go_at_call 30; (with_reducible refine (HF.out _ _ _ TB.out.f).mono ?_); rintro e wc ⟨rfl, S1, hf1, a1⟩; have two1 := TB.out.left hf1 a1; have TC := Lib.hid two1; clear two1; have VC := Lib.hid (a1.grows.var VB.out (fun hs => NS.out _ (Nat.le_refl _) hs)); have x0 := VC.out.cell (j := 0) rfl; have x1 := VC.out.cell (j := 1) rfl; have x2 := VC.out.cell (j := 2) rfl; have x3 := VC.out.cell (j := 3) rfl; have x4 := VC.out.cell (j := 4) rfl; have x5 := VC.out.cell (j := 5) rfl; have x6 := VC.out.cell (j := 6) rfl)
    | (go_at_call 40; (with_reducible refine (HR.out _ _ _ TC.out.1.r).mono ?_); rintro e wd ⟨rfl, R2, hr2, a2⟩; have two2 := TC.out.1.right hr2 a2; have TD := Lib.hid two2; clear two2))
  go_ret
  rw [HSt.out]
  exact ⟨rfl, S1, R2, TD.out.1, After.trans (after_below BW.out) (After.trans TC.out.2 TD.out.2)⟩
set_option maxRecDepth 100000 in
set_option maxHeartbeats 16000000 in
theorem step_false_11 {w : World} {p r : Nat} {d : Dev} {S R : Nat → Prop} (h : Two w p r d d S R) (hd : d.Ok) (tw ta tb : Int) (ts : ByteArray) (tx : UInt8) (tm : List Int) (ma : Option Addr) (ml mc : Nat) (hs : ts.size ≤ maxLen) (hM : MaskAt w ma tm (both S R)) (hm : ∀ m ∈ tm, m < 9223372036854775808) (hml : ml = tm.length) (hml2 : tm.length ≤ maxLen) (hk : tw % 12 = 11) :
    Calls Try.prog 17 #[.pointer (some ⟨p, 0, none⟩), .pointer (some ⟨r, 0, none⟩), .agg #[.int .i64 tw, .int .i64 ta, .int .i64 tb, .string ts, .int .u8 (tx.toNat : Int), .slice ma ml mc, .bool false]] w fun e w' => e = .returned (.bool true) ∧ ∃ S' R', Two w' p r (stepD d ⟨tw, ta, tb, ts, tx, tm, false⟩) (stepD d ⟨tw, ta, tb, ts, tx, tm, false⟩) S' R' ∧ After (both S R) w w' (both S' R') := by
  have HML := Lib.hid hml
  clear hml
  have H0 := Lib.hid h
  have M0 := Lib.hid hM
  have NS := Lib.hid (show ∀ k, w.heap.size ≤ k → ¬ S k from fun k hk hs => by have := h.f.lt k hs; omega)
  obtain ⟨q0, q1, q2⟩ := rCells h.r
  have r0 : (w.alloc (.cells #[.int .i64 tw, .int .i64 ta, .int .i64 tb, .string ts, .int .u8 (tx.toNat : Int), .slice ma ml mc, .bool false] 39)).cell? ⟨r, 0, none⟩ = some (.int .i64 (d.pg : Int)) := (Grows.alloc (fun _ => False) w _).cell q0 (fun x => x)
  have r1 : (w.alloc (.cells #[.int .i64 tw, .int .i64 ta, .int .i64 tb, .string ts, .int .u8 (tx.toNat : Int), .slice ma ml mc, .bool false] 39)).cell? ⟨r, 1, none⟩ = some (.int .i64 (d.pgs : Int)) := (Grows.alloc (fun _ => False) w _).cell q1 (fun x => x)
  have r2 : (w.alloc (.cells #[.int .i64 tw, .int .i64 ta, .int .i64 tb, .string ts, .int .u8 (tx.toNat : Int), .slice ma ml mc, .bool false] 39)).cell? ⟨r, 2, none⟩ = some (.int .i64 (d.rgs : Int)) := (Grows.alloc (fun _ => False) w _).cell q2 (fun x => x)
  have HVB := Lib.hid (show Var ((w.alloc (.cells #[.int .i64 tw, .int .i64 ta, .int .i64 tb, .string ts, .int .u8 (tx.toNat : Int), .slice ma ml mc, .bool false] 39)).alloc (.cells #[.int .i64 (d.pg : Int), .int .i64 (d.pgs : Int), .int .i64 (d.rgs : Int)] 23)) w.heap.size 39 [.int .i64 tw, .int .i64 ta, .int .i64 tb, .string ts, .int .u8 (tx.toNat : Int), .slice ma ml mc, .bool false] from (Var.new w 39 [.int .i64 tw, .int .i64 ta, .int .i64 tb, .string ts, .int .u8 (tx.toNat : Int), .slice ma ml mc, .bool false]).alloc _)
  have HVG := Lib.hid (show Var ((w.alloc (.cells #[.int .i64 tw, .int .i64 ta, .int .i64 tb, .string ts, .int .u8 (tx.toNat : Int), .slice ma ml mc, .bool false] 39)).alloc (.cells #[.int .i64 (d.pg : Int), .int .i64 (d.pgs : Int), .int .i64 (d.rgs : Int)] 23)) (w.heap.size + 1) 23 [.int .i64 (d.pg : Int), .int .i64 (d.pgs : Int), .int .i64 (d.rgs : Int)] by have := Var.new (w.alloc (.cells #[.int .i64 tw, .int .i64 ta, .int .i64 tb, .string ts, .int .u8 (tx.toNat : Int), .slice ma ml mc, .bool false] 39)) 23 [.int .i64 (d.pg : Int), .int .i64 (d.pgs : Int), .int .i64 (d.rgs : Int)]; rw [show (w.alloc (.cells #[.int .i64 tw, .int .i64 ta, .int .i64 tb, .string ts, .int .u8 (tx.toNat : Int), .slice ma ml mc, .bool false] 39)).heap.size = w.heap.size + 1 by simp] at this; exact this)
  have HB2 := Lib.hid (show Below w.heap.size w ((w.alloc (.cells #[.int .i64 tw, .int .i64 ta, .int .i64 tb, .string ts, .int .u8 (tx.toNat : Int), .slice ma ml mc, .bool false] 39)).alloc (.cells #[.int .i64 (d.pg : Int), .int .i64 (d.pgs : Int), .int .i64 (d.rgs : Int)] 23)) from bel2 (Geom.bel_alloc w _) (Geom.bel_alloc _ _))
  have hp0 := hd.p0
  have hp1 := hd.p1
  have hs0 := hd.s0
  have hs1 := hd.s1
  have hr0 := hd.r0
  have hr1 := hd.r1
  have hn1 := hd.n_le
  have hn0 : 0 < d.n := Nat.mul_pos (by omega) (by omega)
  have hnn : (d.pgs : Int) * (d.rgs : Int) = (d.n : Int) := by unfold Dev.n; rw [Int.natCast_mul]
  obtain ⟨fz, hfz⟩ : ∃ fz, fz = ta % 12 := ⟨_, rfl⟩
  have hf2 : 0 ≤ fz ∧ fz < 12 := by omega
  clear h hM q0 q1 q2
  have HK : Hid (∀ w, Calls Try.prog 19 #[.int .i64 tw, .int .i64 12] w fun e w' => e = .returned (.int .i64 11) ∧ w = w') := fun w => by have := Book.pick_any tw 12 (by decide) (by decide) w; rw [show tw % ((12 : Nat) : Int) = 11 from hk] at this; exact this
  have HF := Lib.hid (fun w p S (h : FHas w p d S) => fRead_any h hd ta)
  have HR := Lib.hid (fun w p R (h : RHas w p d R) => rRead h hd ta)
  have HSt := Lib.hid (show stepD d ⟨tw, ta, tb, ts, tx, tm, false⟩ = d by unfold stepD; simp only [hk]; rfl)
  clear hk hfz
  go_enter Try.func17, Try.ntmps17
  go_wp2
  go_quiet (fail)
  obtain ⟨w5, hw5⟩ : ∃ w5, w5 = ((w.alloc (.cells #[.int .i64 tw, .int .i64 ta, .int .i64 tb, .string ts, .int .u8 (tx.toNat : Int), .slice ma ml mc, .bool false] 39)).alloc (.cells #[.int .i64 (d.pg : Int), .int .i64 (d.pgs : Int), .int .i64 (d.rgs : Int)] 23)).drewN nq := ⟨_, rfl⟩
  rw [← hw5]
  have B5 := Lib.hid (show Below ((w.alloc (.cells #[.int .i64 tw, .int .i64 ta, .int .i64 tb, .string ts, .int .u8 (tx.toNat : Int), .slice ma ml mc, .bool false] 39)).alloc (.cells #[.int .i64 (d.pg : Int), .int .i64 (d.pgs : Int), .int .i64 (d.rgs : Int)] 23)).heap.size ((w.alloc (.cells #[.int .i64 tw, .int .i64 ta, .int .i64 tb, .string ts, .int .u8 (tx.toNat : Int), .slice ma ml mc, .bool false] 39)).alloc (.cells #[.int .i64 (d.pg : Int), .int .i64 (d.pgs : Int), .int .i64 (d.rgs : Int)] 23)) w5 by rw [hw5]; exact below_drewN _ _)
  have VB5 := Lib.hid (HVB.out.below B5.out HVB.out.lt)
  have VG5 := Lib.hid (HVG.out.below B5.out HVG.out.lt)
  have BW5 := Lib.hid (HB2.out.trans (B5.out.mono HB2.out.size))
  clear hw5 r0 r1 r2
  have x0 := VB5.out.cell (j := 0) rfl
  have x1 := VB5.out.cell (j := 1) rfl
  have x2 := VB5.out.cell (j := 2) rfl
  have x3 := VB5.out.cell (j := 3) rfl
  have x4 := VB5.out.cell (j := 4) rfl
  have x5 := VB5.out.cell (j := 5) rfl
  have x6 := VB5.out.cell (j := 6) rfl
  have g0 := VG5.out.cell (j := 0) rfl
  have g1 := VG5.out.cell (j := 1) rfl
  have g2 := VG5.out.cell (j := 2) rfl
  have VB := VB5
  have VG := VG5
  have BW := BW5
  have TB := Lib.hid (H0.out.below BW.out)
  have MB := Lib.hid (M0.out.grows (Grows.of_below (S := fun _ => False) BW.out) (fun _ x => x.elim))
  have MF := Lib.hid (MB.out.sub (T := S) (fun k hk => Or.inl hk))
  go_wp2_with (first
    | (go_at_call 19; (with_reducible refine (HK.out _).mono ?_); rintro e wz ⟨rfl, rfl⟩)
    | (go_at_call 29; (with_reducible refine (HF.out _ _ _ TB.out.f).mono ?_); rintro e wc ⟨rfl, bc⟩; have TC := Lib.hid (TB.out.below bc); have VC := Lib.hid (VB.out.below bc VB.out.lt); have x0 := VC.out.cell (j := 0) rfl; have x1 := VC.out.cell (j := 1) rfl; have x2 := VC.out.cell (j := 2) rfl; have x3 := VC.out.cell (j := 3) rfl; have x4 := VC.out.cell (j := 4) rfl; have x5 := VC.out.cell (j := 5) rfl; have x6 := VC.out.cell (j := 6) rfl)
    | (go_at_call 42; (with_reducible refine (HR.out _ _ _ TC.out.r).mono ?_); rintro e wd ⟨rfl, bd⟩; have TD := Lib.hid (TC.out.below bd)))
  go_ret
  rw [HSt.out]
  exact ⟨rfl, S, R, TD.out, after_below (bel2 (bel2 BW.out bc) bd)⟩
set_option maxRecDepth 100000 in
set_option maxHeartbeats 16000000 in
theorem step_true_0 {w : World} {p r : Nat} {d : Dev} {S R : Nat → Prop} (h : Two w p r d d S R) (hd : d.Ok) (tw ta tb : Int) (ts : ByteArray) (tx : UInt8) (tm : List Int) (ma : Option Addr) (ml mc : Nat) (hs : ts.size ≤ maxLen) (hM : MaskAt w ma tm (both S R)) (hm : ∀ m ∈ tm, m < 9223372036854775808) (hml : ml = tm.length) (hml2 : tm.length ≤ maxLen) (hk : tw % 12 = 0) :
    Calls Try.prog 17 #[.pointer (some ⟨p, 0, none⟩), .pointer (some ⟨r, 0, none⟩), .agg #[.int .i64 tw, .int .i64 ta, .int .i64 tb, .string ts, .int .u8 (tx.toNat : Int), .slice ma ml mc, .bool true]] w fun e w' => e = .returned (.bool true) ∧ ∃ S' R', Two w' p r (stepD d ⟨tw, ta, tb, ts, tx, tm, true⟩) (stepD d ⟨tw, ta, tb, ts, tx, tm, true⟩) S' R' ∧ After (both S R) w w' (both S' R') := by
  have HML := Lib.hid hml
  clear hml
  have H0 := Lib.hid h
  have M0 := Lib.hid hM
  have NS := Lib.hid (show ∀ k, w.heap.size ≤ k → ¬ S k from fun k hk hs => by have := h.f.lt k hs; omega)
  obtain ⟨q0, q1, q2⟩ := rCells h.r
  have r0 : (w.alloc (.cells #[.int .i64 tw, .int .i64 ta, .int .i64 tb, .string ts, .int .u8 (tx.toNat : Int), .slice ma ml mc, .bool true] 39)).cell? ⟨r, 0, none⟩ = some (.int .i64 (d.pg : Int)) := (Grows.alloc (fun _ => False) w _).cell q0 (fun x => x)
  have r1 : (w.alloc (.cells #[.int .i64 tw, .int .i64 ta, .int .i64 tb, .string ts, .int .u8 (tx.toNat : Int), .slice ma ml mc, .bool true] 39)).cell? ⟨r, 1, none⟩ = some (.int .i64 (d.pgs : Int)) := (Grows.alloc (fun _ => False) w _).cell q1 (fun x => x)
  have r2 : (w.alloc (.cells #[.int .i64 tw, .int .i64 ta, .int .i64 tb, .string ts, .int .u8 (tx.toNat : Int), .slice ma ml mc, .bool true] 39)).cell? ⟨r, 2, none⟩ = some (.int .i64 (d.rgs : Int)) := (Grows.alloc (fun _ => False) w _).cell q2 (fun x => x)
  have HVB := Lib.hid (show Var ((w.alloc (.cells #[.int .i64 tw, .int .i64 ta, .int .i64 tb, .string ts, .int .u8 (tx.toNat : Int), .slice ma ml mc, .bool true] 39)).alloc (.cells #[.int .i64 (d.pg : Int), .int .i64 (d.pgs : Int), .int .i64 (d.rgs : Int)] 23)) w.heap.size 39 [.int .i64 tw, .int .i64 ta, .int .i64 tb, .string ts, .int .u8 (tx.toNat : Int), .slice ma ml mc, .bool true] from (Var.new w 39 [.int .i64 tw, .int .i64 ta, .int .i64 tb, .string ts, .int .u8 (tx.toNat : Int), .slice ma ml mc, .bool true]).alloc _)
  have HVG := Lib.hid (show Var ((w.alloc (.cells #[.int .i64 tw, .int .i64 ta, .int .i64 tb, .string ts, .int .u8 (tx.toNat : Int), .slice ma ml mc, .bool true] 39)).alloc (.cells #[.int .i64 (d.pg : Int), .int .i64 (d.pgs : Int), .int .i64 (d.rgs : Int)] 23)) (w.heap.size + 1) 23 [.int .i64 (d.pg : Int), .int .i64 (d.pgs : Int), .int .i64 (d.rgs : Int)] by have := Var.new (w.alloc (.cells #[.int .i64 tw, .int .i64 ta, .int .i64 tb, .string ts, .int .u8 (tx.toNat : Int), .slice ma ml mc, .bool true] 39)) 23 [.int .i64 (d.pg : Int), .int .i64 (d.pgs : Int), .int .i64 (d.rgs : Int)]; rw [show (w.alloc (.cells #[.int .i64 tw, .int .i64 ta, .int .i64 tb, .string ts, .int .u8 (tx.toNat : Int), .slice ma ml mc, .bool true] 39)).heap.size = w.heap.size + 1 by simp] at this; exact this)
  have HB2 := Lib.hid (show Below w.heap.size w ((w.alloc (.cells #[.int .i64 tw, .int .i64 ta, .int .i64 tb, .string ts, .int .u8 (tx.toNat : Int), .slice ma ml mc, .bool true] 39)).alloc (.cells #[.int .i64 (d.pg : Int), .int .i64 (d.pgs : Int), .int .i64 (d.rgs : Int)] 23)) from bel2 (Geom.bel_alloc w _) (Geom.bel_alloc _ _))
  have hp0 := hd.p0
  have hp1 := hd.p1
  have hs0 := hd.s0
  have hs1 := hd.s1
  have hr0 := hd.r0
  have hr1 := hd.r1
  have hn1 := hd.n_le
  have hn0 : 0 < d.n := Nat.mul_pos (by omega) (by omega)
  have hnn : (d.pgs : Int) * (d.rgs : Int) = (d.n : Int) := by unfold Dev.n; rw [Int.natCast_mul]
  obtain ⟨fz, hfz⟩ : ∃ fz, fz = ta % 12 := ⟨_, rfl⟩
  have hf2 : 0 ≤ fz ∧ fz < 12 := by omega
  obtain ⟨nn, hN⟩ : ∃ nn, nn = d.n := ⟨_, rfl⟩
  rw [← hN] at hnn
  obtain ⟨pn, hpn⟩ : ∃ pn : Nat, (pn : Int) = ta % (d.n : Int) := ⟨(ta % (d.n : Int)).toNat, by have := Int.emod_nonneg ta (show (d.n : Int) ≠ 0 by omega); omega⟩
  obtain ⟨rn, hrn⟩ : ∃ rn : Nat, (rn : Int) = ta % (d.rgs : Int) := ⟨(ta % (d.rgs : Int)).toNat, by have := Int.emod_nonneg ta (show (d.rgs : Int) ≠ 0 by omega); omega⟩
  have hq1 : 0 ≤ (nn : Int) ∧ (nn : Int) ≤ 120 := by omega
  have HKp := Lib.hid (fun w => Book.pick_any ta nn (by omega) (by omega) w)
  rw [show ta % (nn : Int) = (pn : Int) by rw [hN, hpn]] at HKp
  have HSh := Lib.hid (fun w => shortB_any ts hs d.pg (by omega) (d.pg : Int) rfl w)
  obtain ⟨b1, hb1⟩ : ∃ b1, b1 = ts.data.toList.take d.pg := ⟨_, rfl⟩
  have lb : b1.length ≤ d.pg := by rw [hb1, List.length_take]; omega
  rw [← hb1] at HSh
  have HFi := Lib.hid (fun w => fillC 0 ((d.pg : Int) - (b1.length : Int)) (d.pg - b1.length) (by omega) (by omega) 0 rfl w)
  obtain ⟨bf, hbf0⟩ : ∃ bf, bf = b1 ++ rep (d.pg - b1.length) 0 := ⟨_, rfl⟩
  have hbf : bf = full ts d.pg 0 := by rw [hbf0, hb1]; rfl
  have zb : bs b1 ++ bs (rep (d.pg - b1.length) 0) = bs bf := by rw [bs_append, hbf0]
  have sb : (bs b1).size = b1.length := bs_size _
  have sb2 : (bs (rep (d.pg - b1.length) 0)).size = d.pg - b1.length := by rw [bs_size]; simp [rep]
  clear hN hb1 hbf0
  clear h hM q0 q1 q2
  have HK : Hid (∀ w, Calls Try.prog 19 #[.int .i64 tw, .int .i64 12] w fun e w' => e = .returned (.int .i64 0) ∧ w = w') := fun w => by have := Book.pick_any tw 12 (by decide) (by decide) w; rw [show tw % ((12 : Nat) : Int) = 0 from hk] at this; exact this
  have HF := Lib.hid (fun w p S (h : FHas w p d S) => fProgram_any h hd (pn : Int) (bs bf))
  have HR := Lib.hid (fun w p R (h : RHas w p d R) => rProgram h hd (pn : Int) (bs bf))
  have HSt := Lib.hid (show stepD d ⟨tw, ta, tb, ts, tx, tm, true⟩ = (programD d (pn : Int) (bs bf).data.toList).2 by unfold stepD St.page St.text; simp only [hk]; rw [list_bs, hbf, hpn]; rfl)
  clear hk hfz hpn hrn hbf
  go_enter Try.func17, Try.ntmps17
  go_wp2
  go_quiet (fail)
  obtain ⟨w5, hw5⟩ : ∃ w5, w5 = ((w.alloc (.cells #[.int .i64 tw, .int .i64 ta, .int .i64 tb, .string ts, .int .u8 (tx.toNat : Int), .slice ma ml mc, .bool true] 39)).alloc (.cells #[.int .i64 (d.pg : Int), .int .i64 (d.pgs : Int), .int .i64 (d.rgs : Int)] 23)).drewN nq := ⟨_, rfl⟩
  rw [← hw5]
  have B5 := Lib.hid (show Below ((w.alloc (.cells #[.int .i64 tw, .int .i64 ta, .int .i64 tb, .string ts, .int .u8 (tx.toNat : Int), .slice ma ml mc, .bool true] 39)).alloc (.cells #[.int .i64 (d.pg : Int), .int .i64 (d.pgs : Int), .int .i64 (d.rgs : Int)] 23)).heap.size ((w.alloc (.cells #[.int .i64 tw, .int .i64 ta, .int .i64 tb, .string ts, .int .u8 (tx.toNat : Int), .slice ma ml mc, .bool true] 39)).alloc (.cells #[.int .i64 (d.pg : Int), .int .i64 (d.pgs : Int), .int .i64 (d.rgs : Int)] 23)) w5 by rw [hw5]; exact below_drewN _ _)
  have VB5 := Lib.hid (HVB.out.below B5.out HVB.out.lt)
  have VG5 := Lib.hid (HVG.out.below B5.out HVG.out.lt)
  have BW5 := Lib.hid (HB2.out.trans (B5.out.mono HB2.out.size))
  clear hw5 r0 r1 r2
  have x0 := VB5.out.cell (j := 0) rfl
  have x1 := VB5.out.cell (j := 1) rfl
  have x2 := VB5.out.cell (j := 2) rfl
  have x3 := VB5.out.cell (j := 3) rfl
  have x4 := VB5.out.cell (j := 4) rfl
  have x5 := VB5.out.cell (j := 5) rfl
  have x6 := VB5.out.cell (j := 6) rfl
  have g0 := VG5.out.cell (j := 0) rfl
  have g1 := VG5.out.cell (j := 1) rfl
  have g2 := VG5.out.cell (j := 2) rfl
  go_wp2_with (first
    | (go_at_call 19; (with_reducible refine (HKp.out _).mono ?_); rintro e wz ⟨rfl, rfl⟩)
    | (go_at_call 11; (with_reducible refine (HSh.out _).mono ?_); rintro e wz ⟨rfl, rfl⟩)
    | (go_at_call 22; (with_reducible refine (HFi.out _).mono ?_); rintro e wb ⟨rfl, b6⟩; have VB := Lib.hid (VB5.out.below b6 VB5.out.lt); have VG := Lib.hid (VG5.out.below b6 VG5.out.lt); have BW := Lib.hid (BW5.out.trans (b6.mono BW5.out.size)); have TB := Lib.hid (H0.out.below BW.out); have MB := Lib.hid (M0.out.grows (Grows.of_below (S := fun _ => False) BW.out) (fun _ x => x.elim)); have MF := Lib.hid (MB.out.sub (T := S) (fun k hk => Or.inl hk)); clear b6; have x0 := VB.out.cell (j := 0) rfl; have x1 := VB.out.cell (j := 1) rfl; have x2 := VB.out.cell (j := 2) rfl; have x3 := VB.out.cell (j := 3) rfl; have x4 := VB.out.cell (j := 4) rfl; have x5 := VB.out.cell (j := 5) rfl; have x6 := VB.out.cell (j := 6) rfl; have g0 := VG.out.cell (j := 0) rfl; have g1 := VG.out.cell (j := 1) rfl; have g2 := VG.out.cell (j := 2) rfl)
    | (go_at_call 19; (with_reducible refine (HK.out _).mono ?_); rintro e wz ⟨rfl, rfl⟩)
    | (go_at_call 26; (with_reducible refine (HF.out _ _ _ TB.out.f).mono ?_); rintro e wc ⟨rfl, S1, hf1, a1⟩; have two1 := TB.out.left hf1 a1; have TC := Lib.hid two1; clear two1; have VC := Lib.hid (a1.grows.var VB.out (fun hs => NS.out _ (Nat.le_refl _) hs)); have x0 := VC.out.cell (j := 0) rfl; have x1 := VC.out.cell (j := 1) rfl; have x2 := VC.out.cell (j := 2) rfl; have x3 := VC.out.cell (j := 3) rfl; have x4 := VC.out.cell (j := 4) rfl; have x5 := VC.out.cell (j := 5) rfl; have x6 := VC.out.cell (j := 6) rfl)
    | (go_at_call 43; (with_reducible refine (HR.out _ _ _ TC.out.1.r).mono ?_); rintro e wd ⟨rfl, R2, hr2, a2⟩; have two2 := TC.out.1.right hr2 a2; have TD := Lib.hid two2; clear two2))
  go_ret
  rw [HSt.out]
  exact ⟨rfl, S1, R2, TD.out.1, After.trans (after_below BW.out) (After.trans TC.out.2 TD.out.2)⟩
set_option maxRecDepth 100000 in
set_option maxHeartbeats 16000000 in
theorem step_true_1 {w : World} {p r : Nat} {d : Dev} {S R : Nat → Prop} (h : Two w p r d d S R) (hd : d.Ok) (tw ta tb : Int) (ts : ByteArray) (tx : UInt8) (tm : List Int) (ma : Option Addr) (ml mc : Nat) (hs : ts.size ≤ maxLen) (hM : MaskAt w ma tm (both S R)) (hm : ∀ m ∈ tm, m < 9223372036854775808) (hml : ml = tm.length) (hml2 : tm.length ≤ maxLen) (hk : tw % 12 = 1) :
    Calls Try.prog 17 #[.pointer (some ⟨p, 0, none⟩), .pointer (some ⟨r, 0, none⟩), .agg #[.int .i64 tw, .int .i64 ta, .int .i64 tb, .string ts, .int .u8 (tx.toNat : Int), .slice ma ml mc, .bool true]] w fun e w' => e = .returned (.bool true) ∧ ∃ S' R', Two w' p r (stepD d ⟨tw, ta, tb, ts, tx, tm, true⟩) (stepD d ⟨tw, ta, tb, ts, tx, tm, true⟩) S' R' ∧ After (both S R) w w' (both S' R') := by
  have HML := Lib.hid hml
  clear hml
  have H0 := Lib.hid h
  have M0 := Lib.hid hM
  have NS := Lib.hid (show ∀ k, w.heap.size ≤ k → ¬ S k from fun k hk hs => by have := h.f.lt k hs; omega)
  obtain ⟨q0, q1, q2⟩ := rCells h.r
  have r0 : (w.alloc (.cells #[.int .i64 tw, .int .i64 ta, .int .i64 tb, .string ts, .int .u8 (tx.toNat : Int), .slice ma ml mc, .bool true] 39)).cell? ⟨r, 0, none⟩ = some (.int .i64 (d.pg : Int)) := (Grows.alloc (fun _ => False) w _).cell q0 (fun x => x)
  have r1 : (w.alloc (.cells #[.int .i64 tw, .int .i64 ta, .int .i64 tb, .string ts, .int .u8 (tx.toNat : Int), .slice ma ml mc, .bool true] 39)).cell? ⟨r, 1, none⟩ = some (.int .i64 (d.pgs : Int)) := (Grows.alloc (fun _ => False) w _).cell q1 (fun x => x)
  have r2 : (w.alloc (.cells #[.int .i64 tw, .int .i64 ta, .int .i64 tb, .string ts, .int .u8 (tx.toNat : Int), .slice ma ml mc, .bool true] 39)).cell? ⟨r, 2, none⟩ = some (.int .i64 (d.rgs : Int)) := (Grows.alloc (fun _ => False) w _).cell q2 (fun x => x)
  have HVB := Lib.hid (show Var ((w.alloc (.cells #[.int .i64 tw, .int .i64 ta, .int .i64 tb, .string ts, .int .u8 (tx.toNat : Int), .slice ma ml mc, .bool true] 39)).alloc (.cells #[.int .i64 (d.pg : Int), .int .i64 (d.pgs : Int), .int .i64 (d.rgs : Int)] 23)) w.heap.size 39 [.int .i64 tw, .int .i64 ta, .int .i64 tb, .string ts, .int .u8 (tx.toNat : Int), .slice ma ml mc, .bool true] from (Var.new w 39 [.int .i64 tw, .int .i64 ta, .int .i64 tb, .string ts, .int .u8 (tx.toNat : Int), .slice ma ml mc, .bool true]).alloc _)
  have HVG := Lib.hid (show Var ((w.alloc (.cells #[.int .i64 tw, .int .i64 ta, .int .i64 tb, .string ts, .int .u8 (tx.toNat : Int), .slice ma ml mc, .bool true] 39)).alloc (.cells #[.int .i64 (d.pg : Int), .int .i64 (d.pgs : Int), .int .i64 (d.rgs : Int)] 23)) (w.heap.size + 1) 23 [.int .i64 (d.pg : Int), .int .i64 (d.pgs : Int), .int .i64 (d.rgs : Int)] by have := Var.new (w.alloc (.cells #[.int .i64 tw, .int .i64 ta, .int .i64 tb, .string ts, .int .u8 (tx.toNat : Int), .slice ma ml mc, .bool true] 39)) 23 [.int .i64 (d.pg : Int), .int .i64 (d.pgs : Int), .int .i64 (d.rgs : Int)]; rw [show (w.alloc (.cells #[.int .i64 tw, .int .i64 ta, .int .i64 tb, .string ts, .int .u8 (tx.toNat : Int), .slice ma ml mc, .bool true] 39)).heap.size = w.heap.size + 1 by simp] at this; exact this)
  have HB2 := Lib.hid (show Below w.heap.size w ((w.alloc (.cells #[.int .i64 tw, .int .i64 ta, .int .i64 tb, .string ts, .int .u8 (tx.toNat : Int), .slice ma ml mc, .bool true] 39)).alloc (.cells #[.int .i64 (d.pg : Int), .int .i64 (d.pgs : Int), .int .i64 (d.rgs : Int)] 23)) from bel2 (Geom.bel_alloc w _) (Geom.bel_alloc _ _))
  have hp0 := hd.p0
  have hp1 := hd.p1
  have hs0 := hd.s0
  have hs1 := hd.s1
  have hr0 := hd.r0
  have hr1 := hd.r1
  have hn1 := hd.n_le
  have hn0 : 0 < d.n := Nat.mul_pos (by omega) (by omega)
  have hnn : (d.pgs : Int) * (d.rgs : Int) = (d.n : Int) := by unfold Dev.n; rw [Int.natCast_mul]
  obtain ⟨fz, hfz⟩ : ∃ fz, fz = ta % 12 := ⟨_, rfl⟩
  have hf2 : 0 ≤ fz ∧ fz < 12 := by omega
  obtain ⟨nn, hN⟩ : ∃ nn, nn = d.n := ⟨_, rfl⟩
  rw [← hN] at hnn
  obtain ⟨pn, hpn⟩ : ∃ pn : Nat, (pn : Int) = ta % (d.n : Int) := ⟨(ta % (d.n : Int)).toNat, by have := Int.emod_nonneg ta (show (d.n : Int) ≠ 0 by omega); omega⟩
  obtain ⟨rn, hrn⟩ : ∃ rn : Nat, (rn : Int) = ta % (d.rgs : Int) := ⟨(ta % (d.rgs : Int)).toNat, by have := Int.emod_nonneg ta (show (d.rgs : Int) ≠ 0 by omega); omega⟩
  have hq1 : 0 ≤ (nn : Int) ∧ (nn : Int) ≤ 120 := by omega
  have HKp := Lib.hid (fun w => Book.pick_any ta nn (by omega) (by omega) w)
  rw [show ta % (nn : Int) = (pn : Int) by rw [hN, hpn]] at HKp
  have HSh := Lib.hid (fun w => shortB_any ts hs d.pg (by omega) (d.pg : Int) rfl w)
  obtain ⟨b1, hb1⟩ : ∃ b1, b1 = ts.data.toList.take d.pg := ⟨_, rfl⟩
  have lb : b1.length ≤ d.pg := by rw [hb1, List.length_take]; omega
  rw [← hb1] at HSh
  have HFi := Lib.hid (fun w => fillC 0 ((d.pg : Int) - (b1.length : Int)) (d.pg - b1.length) (by omega) (by omega) 0 rfl w)
  obtain ⟨bf, hbf0⟩ : ∃ bf, bf = b1 ++ rep (d.pg - b1.length) 0 := ⟨_, rfl⟩
  have hbf : bf = full ts d.pg 0 := by rw [hbf0, hb1]; rfl
  have zb : bs b1 ++ bs (rep (d.pg - b1.length) 0) = bs bf := by rw [bs_append, hbf0]
  have sb : (bs b1).size = b1.length := bs_size _
  have sb2 : (bs (rep (d.pg - b1.length) 0)).size = d.pg - b1.length := by rw [bs_size]; simp [rep]
  clear hN hb1 hbf0
  clear h hM q0 q1 q2
  have HK : Hid (∀ w, Calls Try.prog 19 #[.int .i64 tw, .int .i64 12] w fun e w' => e = .returned (.int .i64 1) ∧ w = w') := fun w => by have := Book.pick_any tw 12 (by decide) (by decide) w; rw [show tw % ((12 : Nat) : Int) = 1 from hk] at this; exact this
  have HF := Lib.hid (fun w p S (h : FHas w p d S) => fProgram_any h hd (pn : Int) (bs bf))
  have HR := Lib.hid (fun w p R (h : RHas w p d R) => rProgram h hd (pn : Int) (bs bf))
  have HSt := Lib.hid (show stepD d ⟨tw, ta, tb, ts, tx, tm, true⟩ = (programD d (pn : Int) (bs bf).data.toList).2 by unfold stepD St.page St.text; simp only [hk]; rw [list_bs, hbf, hpn]; rfl)
  clear hk hfz hpn hrn hbf
  go_enter Try.func17, Try.ntmps17
  go_wp2
  go_quiet (fail)
  obtain ⟨w5, hw5⟩ : ∃ w5, w5 = ((w.alloc (.cells #[.int .i64 tw, .int .i64 ta, .int .i64 tb, .string ts, .int .u8 (tx.toNat : Int), .slice ma ml mc, .bool true] 39)).alloc (.cells #[.int .i64 (d.pg : Int), .int .i64 (d.pgs : Int), .int .i64 (d.rgs : Int)] 23)).drewN nq := ⟨_, rfl⟩
  rw [← hw5]
  have B5 := Lib.hid (show Below ((w.alloc (.cells #[.int .i64 tw, .int .i64 ta, .int .i64 tb, .string ts, .int .u8 (tx.toNat : Int), .slice ma ml mc, .bool true] 39)).alloc (.cells #[.int .i64 (d.pg : Int), .int .i64 (d.pgs : Int), .int .i64 (d.rgs : Int)] 23)).heap.size ((w.alloc (.cells #[.int .i64 tw, .int .i64 ta, .int .i64 tb, .string ts, .int .u8 (tx.toNat : Int), .slice ma ml mc, .bool true] 39)).alloc (.cells #[.int .i64 (d.pg : Int), .int .i64 (d.pgs : Int), .int .i64 (d.rgs : Int)] 23)) w5 by rw [hw5]; exact below_drewN _ _)
  have VB5 := Lib.hid (HVB.out.below B5.out HVB.out.lt)
  have VG5 := Lib.hid (HVG.out.below B5.out HVG.out.lt)
  have BW5 := Lib.hid (HB2.out.trans (B5.out.mono HB2.out.size))
  clear hw5 r0 r1 r2
  have x0 := VB5.out.cell (j := 0) rfl
  have x1 := VB5.out.cell (j := 1) rfl
  have x2 := VB5.out.cell (j := 2) rfl
  have x3 := VB5.out.cell (j := 3) rfl
  have x4 := VB5.out.cell (j := 4) rfl
  have x5 := VB5.out.cell (j := 5) rfl
  have x6 := VB5.out.cell (j := 6) rfl
  have g0 := VG5.out.cell (j := 0) rfl
  have g1 := VG5.out.cell (j := 1) rfl
  have g2 := VG5.out.cell (j := 2) rfl
  go_wp2_with (first
    | (go_at_call 19; (with_reducible refine (HKp.out _).mono ?_); rintro e wz ⟨rfl, rfl⟩)
    | (go_at_call 11; (with_reducible refine (HSh.out _).mono ?_); rintro e wz ⟨rfl, rfl⟩)
    | (go_at_call 22; (with_reducible refine (HFi.out _).mono ?_); rintro e wb ⟨rfl, b6⟩; have VB := Lib.hid (VB5.out.below b6 VB5.out.lt); have VG := Lib.hid (VG5.out.below b6 VG5.out.lt); have BW := Lib.hid (BW5.out.trans (b6.mono BW5.out.size)); have TB := Lib.hid (H0.out.below BW.out); have MB := Lib.hid (M0.out.grows (Grows.of_below (S := fun _ => False) BW.out) (fun _ x => x.elim)); have MF := Lib.hid (MB.out.sub (T := S) (fun k hk => Or.inl hk)); clear b6; have x0 := VB.out.cell (j := 0) rfl; have x1 := VB.out.cell (j := 1) rfl; have x2 := VB.out.cell (j := 2) rfl; have x3 := VB.out.cell (j := 3) rfl; have x4 := VB.out.cell (j := 4) rfl; have x5 := VB.out.cell (j := 5) rfl; have x6 := VB.out.cell (j := 6) rfl; have g0 := VG.out.cell (j := 0) rfl; have g1 := VG.out.cell (j := 1) rfl; have g2 := VG.out.cell (j := 2) rfl)
    | (go_at_call 19; (with_reducible refine (HK.out _).mono ?_); rintro e wz ⟨rfl, rfl⟩)
    | (go_at_call 26; (with_reducible refine (HF.out _ _ _ TB.out.f).mono ?_); rintro e wc ⟨rfl, S1, hf1, a1⟩; have two1 := TB.out.left hf1 a1; have TC := Lib.hid two1; clear two1; have VC := Lib.hid (a1.grows.var VB.out (fun hs => NS.out _ (Nat.le_refl _) hs)); have x0 := VC.out.cell (j := 0) rfl; have x1 := VC.out.cell (j := 1) rfl; have x2 := VC.out.cell (j := 2) rfl; have x3 := VC.out.cell (j := 3) rfl; have x4 := VC.out.cell (j := 4) rfl; have x5 := VC.out.cell (j := 5) rfl; have x6 := VC.out.cell (j := 6) rfl)
    | (go_at_call 43; (with_reducible refine (HR.out _ _ _ TC.out.1.r).mono ?_); rintro e wd ⟨rfl, R2, hr2, a2⟩; have two2 := TC.out.1.right hr2 a2; have TD := Lib.hid two2; clear two2))
  go_ret
  rw [HSt.out]
  exact ⟨rfl, S1, R2, TD.out.1, After.trans (after_below BW.out) (After.trans TC.out.2 TD.out.2)⟩
set_option maxRecDepth 100000 in
set_option maxHeartbeats 16000000 in
theorem step_true_2 {w : World} {p r : Nat} {d : Dev} {S R : Nat → Prop} (h : Two w p r d d S R) (hd : d.Ok) (tw ta tb : Int) (ts : ByteArray) (tx : UInt8) (tm : List Int) (ma : Option Addr) (ml mc : Nat) (hs : ts.size ≤ maxLen) (hM : MaskAt w ma tm (both S R)) (hm : ∀ m ∈ tm, m < 9223372036854775808) (hml : ml = tm.length) (hml2 : tm.length ≤ maxLen) (hk : tw % 12 = 2) :
    Calls Try.prog 17 #[.pointer (some ⟨p, 0, none⟩), .pointer (some ⟨r, 0, none⟩), .agg #[.int .i64 tw, .int .i64 ta, .int .i64 tb, .string ts, .int .u8 (tx.toNat : Int), .slice ma ml mc, .bool true]] w fun e w' => e = .returned (.bool true) ∧ ∃ S' R', Two w' p r (stepD d ⟨tw, ta, tb, ts, tx, tm, true⟩) (stepD d ⟨tw, ta, tb, ts, tx, tm, true⟩) S' R' ∧ After (both S R) w w' (both S' R') := by
  have HML := Lib.hid hml
  clear hml
  have H0 := Lib.hid h
  have M0 := Lib.hid hM
  have NS := Lib.hid (show ∀ k, w.heap.size ≤ k → ¬ S k from fun k hk hs => by have := h.f.lt k hs; omega)
  obtain ⟨q0, q1, q2⟩ := rCells h.r
  have r0 : (w.alloc (.cells #[.int .i64 tw, .int .i64 ta, .int .i64 tb, .string ts, .int .u8 (tx.toNat : Int), .slice ma ml mc, .bool true] 39)).cell? ⟨r, 0, none⟩ = some (.int .i64 (d.pg : Int)) := (Grows.alloc (fun _ => False) w _).cell q0 (fun x => x)
  have r1 : (w.alloc (.cells #[.int .i64 tw, .int .i64 ta, .int .i64 tb, .string ts, .int .u8 (tx.toNat : Int), .slice ma ml mc, .bool true] 39)).cell? ⟨r, 1, none⟩ = some (.int .i64 (d.pgs : Int)) := (Grows.alloc (fun _ => False) w _).cell q1 (fun x => x)
  have r2 : (w.alloc (.cells #[.int .i64 tw, .int .i64 ta, .int .i64 tb, .string ts, .int .u8 (tx.toNat : Int), .slice ma ml mc, .bool true] 39)).cell? ⟨r, 2, none⟩ = some (.int .i64 (d.rgs : Int)) := (Grows.alloc (fun _ => False) w _).cell q2 (fun x => x)
  have HVB := Lib.hid (show Var ((w.alloc (.cells #[.int .i64 tw, .int .i64 ta, .int .i64 tb, .string ts, .int .u8 (tx.toNat : Int), .slice ma ml mc, .bool true] 39)).alloc (.cells #[.int .i64 (d.pg : Int), .int .i64 (d.pgs : Int), .int .i64 (d.rgs : Int)] 23)) w.heap.size 39 [.int .i64 tw, .int .i64 ta, .int .i64 tb, .string ts, .int .u8 (tx.toNat : Int), .slice ma ml mc, .bool true] from (Var.new w 39 [.int .i64 tw, .int .i64 ta, .int .i64 tb, .string ts, .int .u8 (tx.toNat : Int), .slice ma ml mc, .bool true]).alloc _)
  have HVG := Lib.hid (show Var ((w.alloc (.cells #[.int .i64 tw, .int .i64 ta, .int .i64 tb, .string ts, .int .u8 (tx.toNat : Int), .slice ma ml mc, .bool true] 39)).alloc (.cells #[.int .i64 (d.pg : Int), .int .i64 (d.pgs : Int), .int .i64 (d.rgs : Int)] 23)) (w.heap.size + 1) 23 [.int .i64 (d.pg : Int), .int .i64 (d.pgs : Int), .int .i64 (d.rgs : Int)] by have := Var.new (w.alloc (.cells #[.int .i64 tw, .int .i64 ta, .int .i64 tb, .string ts, .int .u8 (tx.toNat : Int), .slice ma ml mc, .bool true] 39)) 23 [.int .i64 (d.pg : Int), .int .i64 (d.pgs : Int), .int .i64 (d.rgs : Int)]; rw [show (w.alloc (.cells #[.int .i64 tw, .int .i64 ta, .int .i64 tb, .string ts, .int .u8 (tx.toNat : Int), .slice ma ml mc, .bool true] 39)).heap.size = w.heap.size + 1 by simp] at this; exact this)
  have HB2 := Lib.hid (show Below w.heap.size w ((w.alloc (.cells #[.int .i64 tw, .int .i64 ta, .int .i64 tb, .string ts, .int .u8 (tx.toNat : Int), .slice ma ml mc, .bool true] 39)).alloc (.cells #[.int .i64 (d.pg : Int), .int .i64 (d.pgs : Int), .int .i64 (d.rgs : Int)] 23)) from bel2 (Geom.bel_alloc w _) (Geom.bel_alloc _ _))
  have hp0 := hd.p0
  have hp1 := hd.p1
  have hs0 := hd.s0
  have hs1 := hd.s1
  have hr0 := hd.r0
  have hr1 := hd.r1
  have hn1 := hd.n_le
  have hn0 : 0 < d.n := Nat.mul_pos (by omega) (by omega)
  have hnn : (d.pgs : Int) * (d.rgs : Int) = (d.n : Int) := by unfold Dev.n; rw [Int.natCast_mul]
  obtain ⟨fz, hfz⟩ : ∃ fz, fz = ta % 12 := ⟨_, rfl⟩
  have hf2 : 0 ≤ fz ∧ fz < 12 := by omega
  obtain ⟨nn, hN⟩ : ∃ nn, nn = d.n := ⟨_, rfl⟩
  rw [← hN] at hnn
  obtain ⟨pn, hpn⟩ : ∃ pn : Nat, (pn : Int) = ta % (d.n : Int) := ⟨(ta % (d.n : Int)).toNat, by have := Int.emod_nonneg ta (show (d.n : Int) ≠ 0 by omega); omega⟩
  obtain ⟨rn, hrn⟩ : ∃ rn : Nat, (rn : Int) = ta % (d.rgs : Int) := ⟨(ta % (d.rgs : Int)).toNat, by have := Int.emod_nonneg ta (show (d.rgs : Int) ≠ 0 by omega); omega⟩
  have hq1 : 0 ≤ (nn : Int) ∧ (nn : Int) ≤ 120 := by omega
  have HKp := Lib.hid (fun w => Book.pick_any ta nn (by omega) (by omega) w)
  rw [show ta % (nn : Int) = (pn : Int) by rw [hN, hpn]] at HKp
  have HSh := Lib.hid (fun w => shortB_any ts hs d.pg (by omega) (d.pg : Int) rfl w)
  obtain ⟨b1, hb1⟩ : ∃ b1, b1 = ts.data.toList.take d.pg := ⟨_, rfl⟩
  have lb : b1.length ≤ d.pg := by rw [hb1, List.length_take]; omega
  rw [← hb1] at HSh
  have HFi := Lib.hid (fun w => fillC 0 ((d.pg : Int) - (b1.length : Int)) (d.pg - b1.length) (by omega) (by omega) 0 rfl w)
  obtain ⟨bf, hbf0⟩ : ∃ bf, bf = b1 ++ rep (d.pg - b1.length) 0 := ⟨_, rfl⟩
  have hbf : bf = full ts d.pg 0 := by rw [hbf0, hb1]; rfl
  have zb : bs b1 ++ bs (rep (d.pg - b1.length) 0) = bs bf := by rw [bs_append, hbf0]
  have sb : (bs b1).size = b1.length := bs_size _
  have sb2 : (bs (rep (d.pg - b1.length) 0)).size = d.pg - b1.length := by rw [bs_size]; simp [rep]
  clear hN hb1 hbf0
  clear h hM q0 q1 q2
  have HK : Hid (∀ w, Calls Try.prog 19 #[.int .i64 tw, .int .i64 12] w fun e w' => e = .returned (.int .i64 2) ∧ w = w') := fun w => by have := Book.pick_any tw 12 (by decide) (by decide) w; rw [show tw % ((12 : Nat) : Int) = 2 from hk] at this; exact this
  have HF := Lib.hid (fun w p S (h : FHas w p d S) => fProgram_any h hd (pn : Int) (bs bf))
  have HR := Lib.hid (fun w p R (h : RHas w p d R) => rProgram h hd (pn : Int) (bs bf))
  have HSt := Lib.hid (show stepD d ⟨tw, ta, tb, ts, tx, tm, true⟩ = (programD d (pn : Int) (bs bf).data.toList).2 by unfold stepD St.page St.text; simp only [hk]; rw [list_bs, hbf, hpn]; rfl)
  clear hk hfz hpn hrn hbf
  go_enter Try.func17, Try.ntmps17
  go_wp2
  go_quiet (fail)
  obtain ⟨w5, hw5⟩ : ∃ w5, w5 = ((w.alloc (.cells #[.int .i64 tw, .int .i64 ta, .int .i64 tb, .string ts, .int .u8 (tx.toNat : Int), .slice ma ml mc, .bool true] 39)).alloc (.cells #[.int .i64 (d.pg : Int), .int .i64 (d.pgs : Int), .int .i64 (d.rgs : Int)] 23)).drewN nq := ⟨_, rfl⟩
  rw [← hw5]
  have B5 := Lib.hid (show Below ((w.alloc (.cells #[.int .i64 tw, .int .i64 ta, .int .i64 tb, .string ts, .int .u8 (tx.toNat : Int), .slice ma ml mc, .bool true] 39)).alloc (.cells #[.int .i64 (d.pg : Int), .int .i64 (d.pgs : Int), .int .i64 (d.rgs : Int)] 23)).heap.size ((w.alloc (.cells #[.int .i64 tw, .int .i64 ta, .int .i64 tb, .string ts, .int .u8 (tx.toNat : Int), .slice ma ml mc, .bool true] 39)).alloc (.cells #[.int .i64 (d.pg : Int), .int .i64 (d.pgs : Int), .int .i64 (d.rgs : Int)] 23)) w5 by rw [hw5]; exact below_drewN _ _)
  have VB5 := Lib.hid (HVB.out.below B5.out HVB.out.lt)
  have VG5 := Lib.hid (HVG.out.below B5.out HVG.out.lt)
  have BW5 := Lib.hid (HB2.out.trans (B5.out.mono HB2.out.size))
  clear hw5 r0 r1 r2
  have x0 := VB5.out.cell (j := 0) rfl
  have x1 := VB5.out.cell (j := 1) rfl
  have x2 := VB5.out.cell (j := 2) rfl
  have x3 := VB5.out.cell (j := 3) rfl
  have x4 := VB5.out.cell (j := 4) rfl
  have x5 := VB5.out.cell (j := 5) rfl
  have x6 := VB5.out.cell (j := 6) rfl
  have g0 := VG5.out.cell (j := 0) rfl
  have g1 := VG5.out.cell (j := 1) rfl
  have g2 := VG5.out.cell (j := 2) rfl
  go_wp2_with (first
    | (go_at_call 19; (with_reducible refine (HKp.out _).mono ?_); rintro e wz ⟨rfl, rfl⟩)
    | (go_at_call 11; (with_reducible refine (HSh.out _).mono ?_); rintro e wz ⟨rfl, rfl⟩)
    | (go_at_call 22; (with_reducible refine (HFi.out _).mono ?_); rintro e wb ⟨rfl, b6⟩; have VB := Lib.hid (VB5.out.below b6 VB5.out.lt); have VG := Lib.hid (VG5.out.below b6 VG5.out.lt); have BW := Lib.hid (BW5.out.trans (b6.mono BW5.out.size)); have TB := Lib.hid (H0.out.below BW.out); have MB := Lib.hid (M0.out.grows (Grows.of_below (S := fun _ => False) BW.out) (fun _ x => x.elim)); have MF := Lib.hid (MB.out.sub (T := S) (fun k hk => Or.inl hk)); clear b6; have x0 := VB.out.cell (j := 0) rfl; have x1 := VB.out.cell (j := 1) rfl; have x2 := VB.out.cell (j := 2) rfl; have x3 := VB.out.cell (j := 3) rfl; have x4 := VB.out.cell (j := 4) rfl; have x5 := VB.out.cell (j := 5) rfl; have x6 := VB.out.cell (j := 6) rfl; have g0 := VG.out.cell (j := 0) rfl; have g1 := VG.out.cell (j := 1) rfl; have g2 := VG.out.cell (j := 2) rfl)
    | (go_at_call 19; (with_reducible refine (HK.out _).mono ?_); rintro e wz ⟨rfl, rfl⟩)
    | (go_at_call 26; (with_reducible refine (HF.out _ _ _ TB.out.f).mono ?_); rintro e wc ⟨rfl, S1, hf1, a1⟩; have two1 := TB.out.left hf1 a1; have TC := Lib.hid two1; clear two1; have VC := Lib.hid (a1.grows.var VB.out (fun hs => NS.out _ (Nat.le_refl _) hs)); have x0 := VC.out.cell (j := 0) rfl; have x1 := VC.out.cell (j := 1) rfl; have x2 := VC.out.cell (j := 2) rfl; have x3 := VC.out.cell (j := 3) rfl; have x4 := VC.out.cell (j := 4) rfl; have x5 := VC.out.cell (j := 5) rfl; have x6 := VC.out.cell (j := 6) rfl)
    | (go_at_call 43; (with_reducible refine (HR.out _ _ _ TC.out.1.r).mono ?_); rintro e wd ⟨rfl, R2, hr2, a2⟩; have two2 := TC.out.1.right hr2 a2; have TD := Lib.hid two2; clear two2))
  go_ret
  rw [HSt.out]
  exact ⟨rfl, S1, R2, TD.out.1, After.trans (after_below BW.out) (After.trans TC.out.2 TD.out.2)⟩
set_option maxRecDepth 100000 in
set_option maxHeartbeats 16000000 in
theorem step_true_3 {w : World} {p r : Nat} {d : Dev} {S R : Nat → Prop} (h : Two w p r d d S R) (hd : d.Ok) (tw ta tb : Int) (ts : ByteArray) (tx : UInt8) (tm : List Int) (ma : Option Addr) (ml mc : Nat) (hs : ts.size ≤ maxLen) (hM : MaskAt w ma tm (both S R)) (hm : ∀ m ∈ tm, m < 9223372036854775808) (hml : ml = tm.length) (hml2 : tm.length ≤ maxLen) (hk : tw % 12 = 3) :
    Calls Try.prog 17 #[.pointer (some ⟨p, 0, none⟩), .pointer (some ⟨r, 0, none⟩), .agg #[.int .i64 tw, .int .i64 ta, .int .i64 tb, .string ts, .int .u8 (tx.toNat : Int), .slice ma ml mc, .bool true]] w fun e w' => e = .returned (.bool true) ∧ ∃ S' R', Two w' p r (stepD d ⟨tw, ta, tb, ts, tx, tm, true⟩) (stepD d ⟨tw, ta, tb, ts, tx, tm, true⟩) S' R' ∧ After (both S R) w w' (both S' R') := by
  have HML := Lib.hid hml
  clear hml
  have H0 := Lib.hid h
  have M0 := Lib.hid hM
  have NS := Lib.hid (show ∀ k, w.heap.size ≤ k → ¬ S k from fun k hk hs => by have := h.f.lt k hs; omega)
  obtain ⟨q0, q1, q2⟩ := rCells h.r
  have r0 : (w.alloc (.cells #[.int .i64 tw, .int .i64 ta, .int .i64 tb, .string ts, .int .u8 (tx.toNat : Int), .slice ma ml mc, .bool true] 39)).cell? ⟨r, 0, none⟩ = some (.int .i64 (d.pg : Int)) := (Grows.alloc (fun _ => False) w _).cell q0 (fun x => x)
  have r1 : (w.alloc (.cells #[.int .i64 tw, .int .i64 ta, .int .i64 tb, .string ts, .int .u8 (tx.toNat : Int), .slice ma ml mc, .bool true] 39)).cell? ⟨r, 1, none⟩ = some (.int .i64 (d.pgs : Int)) := (Grows.alloc (fun _ => False) w _).cell q1 (fun x => x)
  have r2 : (w.alloc (.cells #[.int .i64 tw, .int .i64 ta, .int .i64 tb, .string ts, .int .u8 (tx.toNat : Int), .slice ma ml mc, .bool true] 39)).cell? ⟨r, 2, none⟩ = some (.int .i64 (d.rgs : Int)) := (Grows.alloc (fun _ => False) w _).cell q2 (fun x => x)
  have HVB := Lib.hid (show Var ((w.alloc (.cells #[.int .i64 tw, .int .i64 ta, .int .i64 tb, .string ts, .int .u8 (tx.toNat : Int), .slice ma ml mc, .bool true] 39)).alloc (.cells #[.int .i64 (d.pg : Int), .int .i64 (d.pgs : Int), .int .i64 (d.rgs : Int)] 23)) w.heap.size 39 [.int .i64 tw, .int .i64 ta, .int .i64 tb, .string ts, .int .u8 (tx.toNat : Int), .slice ma ml mc, .bool true] from (Var.new w 39 [.int .i64 tw, .int .i64 ta, .int .i64 tb, .string ts, .int .u8 (tx.toNat : Int), .slice ma ml mc, .bool true]).alloc _)
  have HVG := Lib.hid (show Var ((w.alloc (.cells #[.int .i64 tw, .int .i64 ta, .int .i64 tb, .string ts, .int .u8 (tx.toNat : Int), .slice ma ml mc, .bool true] 39)).alloc (.cells #[.int .i64 (d.pg : Int), .int .i64 (d.pgs : Int), .int .i64 (d.rgs : Int)] 23)) (w.heap.size + 1) 23 [.int .i64 (d.pg : Int), .int .i64 (d.pgs : Int), .int .i64 (d.rgs : Int)] by have := Var.new (w.alloc (.cells #[.int .i64 tw, .int .i64 ta, .int .i64 tb, .string ts, .int .u8 (tx.toNat : Int), .slice ma ml mc, .bool true] 39)) 23 [.int .i64 (d.pg : Int), .int .i64 (d.pgs : Int), .int .i64 (d.rgs : Int)]; rw [show (w.alloc (.cells #[.int .i64 tw, .int .i64 ta, .int .i64 tb, .string ts, .int .u8 (tx.toNat : Int), .slice ma ml mc, .bool true] 39)).heap.size = w.heap.size + 1 by simp] at this; exact this)
  have HB2 := Lib.hid (show Below w.heap.size w ((w.alloc (.cells #[.int .i64 tw, .int .i64 ta, .int .i64 tb, .string ts, .int .u8 (tx.toNat : Int), .slice ma ml mc, .bool true] 39)).alloc (.cells #[.int .i64 (d.pg : Int), .int .i64 (d.pgs : Int), .int .i64 (d.rgs : Int)] 23)) from bel2 (Geom.bel_alloc w _) (Geom.bel_alloc _ _))
  have hp0 := hd.p0
  have hp1 := hd.p1
  have hs0 := hd.s0
  have hs1 := hd.s1
  have hr0 := hd.r0
  have hr1 := hd.r1
  have hn1 := hd.n_le
  have hn0 : 0 < d.n := Nat.mul_pos (by omega) (by omega)
  have hnn : (d.pgs : Int) * (d.rgs : Int) = (d.n : Int) := by unfold Dev.n; rw [Int.natCast_mul]
  obtain ⟨fz, hfz⟩ : ∃ fz, fz = ta % 12 := ⟨_, rfl⟩
  have hf2 : 0 ≤ fz ∧ fz < 12 := by omega
  obtain ⟨nn, hN⟩ : ∃ nn, nn = d.n := ⟨_, rfl⟩
  rw [← hN] at hnn
  obtain ⟨pn, hpn⟩ : ∃ pn : Nat, (pn : Int) = ta % (d.n : Int) := ⟨(ta % (d.n : Int)).toNat, by have := Int.emod_nonneg ta (show (d.n : Int) ≠ 0 by omega); omega⟩
  obtain ⟨rn, hrn⟩ : ∃ rn : Nat, (rn : Int) = ta % (d.rgs : Int) := ⟨(ta % (d.rgs : Int)).toNat, by have := Int.emod_nonneg ta (show (d.rgs : Int) ≠ 0 by omega); omega⟩
  have hq1 : 0 ≤ (nn : Int) ∧ (nn : Int) ≤ 120 := by omega
  have HKp := Lib.hid (fun w => Book.pick_any ta nn (by omega) (by omega) w)
  rw [show ta % (nn : Int) = (pn : Int) by rw [hN, hpn]] at HKp
  have HSh := Lib.hid (fun w => shortB_any ts hs d.pg (by omega) (d.pg : Int) rfl w)
  obtain ⟨b1, hb1⟩ : ∃ b1, b1 = ts.data.toList.take d.pg := ⟨_, rfl⟩
  have lb : b1.length ≤ d.pg := by rw [hb1, List.length_take]; omega
  rw [← hb1] at HSh
  have HFi := Lib.hid (fun w => fillC 0 ((d.pg : Int) - (b1.length : Int)) (d.pg - b1.length) (by omega) (by omega) 0 rfl w)
  obtain ⟨bf, hbf0⟩ : ∃ bf, bf = b1 ++ rep (d.pg - b1.length) 0 := ⟨_, rfl⟩
  have hbf : bf = full ts d.pg 0 := by rw [hbf0, hb1]; rfl
  have zb : bs b1 ++ bs (rep (d.pg - b1.length) 0) = bs bf := by rw [bs_append, hbf0]
  have sb : (bs b1).size = b1.length := bs_size _
  have sb2 : (bs (rep (d.pg - b1.length) 0)).size = d.pg - b1.length := by rw [bs_size]; simp [rep]
  clear hN hb1 hbf0
  clear h hM q0 q1 q2
  have HK : Hid (∀ w, Calls Try.prog 19 #[.int .i64 tw, .int .i64 12] w fun e w' => e = .returned (.int .i64 3) ∧ w = w') := fun w => by have := Book.pick_any tw 12 (by decide) (by decide) w; rw [show tw % ((12 : Nat) : Int) = 3 from hk] at this; exact this
  have HF := Lib.hid (fun w p S (h : FHas w p d S) => fProgram_any h hd (pn : Int) (bs bf))
  have HR := Lib.hid (fun w p R (h : RHas w p d R) => rProgram h hd (pn : Int) (bs bf))
  have HSt := Lib.hid (show stepD d ⟨tw, ta, tb, ts, tx, tm, true⟩ = (programD d (pn : Int) (bs bf).data.toList).2 by unfold stepD St.page St.text; simp only [hk]; rw [list_bs, hbf, hpn]; rfl)
  clear hk hfz hpn hrn hbf
  go_enter Try.func17, Try.ntmps17
  go_wp2
  go_quiet (fail)
  obtain ⟨w5, hw5⟩ : ∃ w5, w5 = ((w.alloc (.cells #[.int .i64 tw, .int .i64 ta, .int .i64 tb, .string ts, .int .u8 (tx.toNat : Int), .slice ma ml mc, .bool true] 39)).alloc (.cells #[.int .i64 (d.pg : Int), .int .i64 (d.pgs : Int), .int .i64 (d.rgs : Int)] 23)).drewN nq := ⟨_, rfl⟩
  rw [← hw5]
  have B5 := Lib.hid (show Below ((w.alloc (.cells #[.int .i64 tw, .int .i64 ta, .int .i64 tb, .string ts, .int .u8 (tx.toNat : Int), .slice ma ml mc, .bool true] 39)).alloc (.cells #[.int .i64 (d.pg : Int), .int .i64 (d.pgs : Int), .int .i64 (d.rgs : Int)] 23)).heap.size ((w.alloc (.cells #[.int .i64 tw, .int .i64 ta, .int .i64 tb, .string ts, .int .u8 (tx.toNat : Int), .slice ma ml mc, .bool true] 39)).alloc (.cells #[.int .i64 (d.pg : Int), .int .i64 (d.pgs : Int), .int .i64 (d.rgs : Int)] 23)) w5 by rw [hw5]; exact below_drewN _ _)
  have VB5 := Lib.hid (HVB.out.below B5.out HVB.out.lt)
  have VG5 := Lib.hid (HVG.out.below B5.out HVG.out.lt)
  have BW5 := Lib.hid (HB2.out.trans (B5.out.mono HB2.out.size))
  clear hw5 r0 r1 r2
  have x0 := VB5.out.cell (j := 0) rfl
  have x1 := VB5.out.cell (j := 1) rfl
  have x2 := VB5.out.cell (j := 2) rfl
  have x3 := VB5.out.cell (j := 3) rfl
  have x4 := VB5.out.cell (j := 4) rfl
  have x5 := VB5.out.cell (j := 5) rfl
  have x6 := VB5.out.cell (j := 6) rfl
  have g0 := VG5.out.cell (j := 0) rfl
  have g1 := VG5.out.cell (j := 1) rfl
  have g2 := VG5.out.cell (j := 2) rfl
  go_wp2_with (first
    | (go_at_call 19; (with_reducible refine (HKp.out _).mono ?_); rintro e wz ⟨rfl, rfl⟩)
    | (go_at_call 11; (with_reducible refine (HSh.out _).mono ?_); rintro e wz ⟨rfl, rfl⟩)
    | (go_at_call 22; (with_reducible refine (HFi.out _).mono ?_); rintro e wb ⟨rfl, b6⟩; have VB := Lib.hid (VB5.out.below b6 VB5.out.lt); have VG := Lib.hid (VG5.out.below b6 VG5.out.lt); have BW := Lib.hid (BW5.out.trans (b6.mono BW5.out.size)); have TB := Lib.hid (H0.out.below BW.out); have MB := Lib.hid (M0.out.grows (Grows.of_below (S := fun _ => False) BW.out) (fun _ x => x.elim)); have MF := Lib.hid (MB.out.sub (T := S) (fun k hk => Or.inl hk)); clear b6; have x0 := VB.out.cell (j := 0) rfl; have x1 := VB.out.cell (j := 1) rfl; have x2 := VB.out.cell (j := 2) rfl; have x3 := VB.out.cell (j := 3) rfl; have x4 := VB.out.cell (j := 4) rfl; have x5 := VB.out.cell (j := 5) rfl; have x6 := VB.out.cell (j := 6) rfl; have g0 := VG.out.cell (j := 0) rfl; have g1 := VG.out.cell (j := 1) rfl; have g2 := VG.out.cell (j := 2) rfl)
    | (go_at_call 19; (with_reducible refine (HK.out _).mono ?_); rintro e wz ⟨rfl, rfl⟩)
    | (go_at_call 26; (with_reducible refine (HF.out _ _ _ TB.out.f).mono ?_); rintro e wc ⟨rfl, S1, hf1, a1⟩; have two1 := TB.out.left hf1 a1; have TC := Lib.hid two1; clear two1; have VC := Lib.hid (a1.grows.var VB.out (fun hs => NS.out _ (Nat.le_refl _) hs)); have x0 := VC.out.cell (j := 0) rfl; have x1 := VC.out.cell (j := 1) rfl; have x2 := VC.out.cell (j := 2) rfl; have x3 := VC.out.cell (j := 3) rfl; have x4 := VC.out.cell (j := 4) rfl; have x5 := VC.out.cell (j := 5) rfl; have x6 := VC.out.cell (j := 6) rfl)
    | (go_at_call 43; (with_reducible refine (HR.out _ _ _ TC.out.1.r).mono ?_); rintro e wd ⟨rfl, R2, hr2, a2⟩; have two2 := TC.out.1.right hr2 a2; have TD := Lib.hid two2; clear two2))
  go_ret
  rw [HSt.out]
  exact ⟨rfl, S1, R2, TD.out.1, After.trans (after_below BW.out) (After.trans TC.out.2 TD.out.2)⟩
set_option maxRecDepth 100000 in
set_option maxHeartbeats 16000000 in
theorem step_true_4 {w : World} {p r : Nat} {d : Dev} {S R : Nat → Prop} (h : Two w p r d d S R) (hd : d.Ok) (tw ta tb : Int) (ts : ByteArray) (tx : UInt8) (tm : List Int) (ma : Option Addr) (ml mc : Nat) (hs : ts.size ≤ maxLen) (hM : MaskAt w ma tm (both S R)) (hm : ∀ m ∈ tm, m < 9223372036854775808) (hml : ml = tm.length) (hml2 : tm.length ≤ maxLen) (hk : tw % 12 = 4) :
    Calls Try.prog 17 #[.pointer (some ⟨p, 0, none⟩), .pointer (some ⟨r, 0, none⟩), .agg #[.int .i64 tw, .int .i64 ta, .int .i64 tb, .string ts, .int .u8 (tx.toNat : Int), .slice ma ml mc, .bool true]] w fun e w' => e = .returned (.bool true) ∧ ∃ S' R', Two w' p r (stepD d ⟨tw, ta, tb, ts, tx, tm, true⟩) (stepD d ⟨tw, ta, tb, ts, tx, tm, true⟩) S' R' ∧ After (both S R) w w' (both S' R') := by
  have HML := Lib.hid hml
  clear hml
  have H0 := Lib.hid h
  have M0 := Lib.hid hM
  have NS := Lib.hid (show ∀ k, w.heap.size ≤ k → ¬ S k from fun k hk hs => by have := h.f.lt k hs; omega)
  obtain ⟨q0, q1, q2⟩ := rCells h.r
  have r0 : (w.alloc (.cells #[.int .i64 tw, .int .i64 ta, .int .i64 tb, .string ts, .int .u8 (tx.toNat : Int), .slice ma ml mc, .bool true] 39)).cell? ⟨r, 0, none⟩ = some (.int .i64 (d.pg : Int)) := (Grows.alloc (fun _ => False) w _).cell q0 (fun x => x)
  have r1 : (w.alloc (.cells #[.int .i64 tw, .int .i64 ta, .int .i64 tb, .string ts, .int .u8 (tx.toNat : Int), .slice ma ml mc, .bool true] 39)).cell? ⟨r, 1, none⟩ = some (.int .i64 (d.pgs : Int)) := (Grows.alloc (fun _ => False) w _).cell q1 (fun x => x)
  have r2 : (w.alloc (.cells #[.int .i64 tw, .int .i64 ta, .int .i64 tb, .string ts, .int .u8 (tx.toNat : Int), .slice ma ml mc, .bool true] 39)).cell? ⟨r, 2, none⟩ = some (.int .i64 (d.rgs : Int)) := (Grows.alloc (fun _ => False) w _).cell q2 (fun x => x)
  have HVB := Lib.hid (show Var ((w.alloc (.cells #[.int .i64 tw, .int .i64 ta, .int .i64 tb, .string ts, .int .u8 (tx.toNat : Int), .slice ma ml mc, .bool true] 39)).alloc (.cells #[.int .i64 (d.pg : Int), .int .i64 (d.pgs : Int), .int .i64 (d.rgs : Int)] 23)) w.heap.size 39 [.int .i64 tw, .int .i64 ta, .int .i64 tb, .string ts, .int .u8 (tx.toNat : Int), .slice ma ml mc, .bool true] from (Var.new w 39 [.int .i64 tw, .int .i64 ta, .int .i64 tb, .string ts, .int .u8 (tx.toNat : Int), .slice ma ml mc, .bool true]).alloc _)
  have HVG := Lib.hid (show Var ((w.alloc (.cells #[.int .i64 tw, .int .i64 ta, .int .i64 tb, .string ts, .int .u8 (tx.toNat : Int), .slice ma ml mc, .bool true] 39)).alloc (.cells #[.int .i64 (d.pg : Int), .int .i64 (d.pgs : Int), .int .i64 (d.rgs : Int)] 23)) (w.heap.size + 1) 23 [.int .i64 (d.pg : Int), .int .i64 (d.pgs : Int), .int .i64 (d.rgs : Int)] by have := Var.new (w.alloc (.cells #[.int .i64 tw, .int .i64 ta, .int .i64 tb, .string ts, .int .u8 (tx.toNat : Int), .slice ma ml mc, .bool true] 39)) 23 [.int .i64 (d.pg : Int), .int .i64 (d.pgs : Int), .int .i64 (d.rgs : Int)]; rw [show (w.alloc (.cells #[.int .i64 tw, .int .i64 ta, .int .i64 tb, .string ts, .int .u8 (tx.toNat : Int), .slice ma ml mc, .bool true] 39)).heap.size = w.heap.size + 1 by simp] at this; exact this)
  have HB2 := Lib.hid (show Below w.heap.size w ((w.alloc (.cells #[.int .i64 tw, .int .i64 ta, .int .i64 tb, .string ts, .int .u8 (tx.toNat : Int), .slice ma ml mc, .bool true] 39)).alloc (.cells #[.int .i64 (d.pg : Int), .int .i64 (d.pgs : Int), .int .i64 (d.rgs : Int)] 23)) from bel2 (Geom.bel_alloc w _) (Geom.bel_alloc _ _))
  have hp0 := hd.p0
  have hp1 := hd.p1
  have hs0 := hd.s0
  have hs1 := hd.s1
  have hr0 := hd.r0
  have hr1 := hd.r1
  have hn1 := hd.n_le
  have hn0 : 0 < d.n := Nat.mul_pos (by omega) (by omega)
  have hnn : (d.pgs : Int) * (d.rgs : Int) = (d.n : Int) := by unfold Dev.n; rw [Int.natCast_mul]
  obtain ⟨fz, hfz⟩ : ∃ fz, fz = ta % 12 := ⟨_, rfl⟩
  have hf2 : 0 ≤ fz ∧ fz < 12 := by omega
  obtain ⟨nn, hN⟩ : ∃ nn, nn = d.n := ⟨_, rfl⟩
  rw [← hN] at hnn
  obtain ⟨pn, hpn⟩ : ∃ pn : Nat, (pn : Int) = ta % (d.n : Int) := ⟨(ta % (d.n : Int)).toNat, by have := Int.emod_nonneg ta (show (d.n : Int) ≠ 0 by omega); omega⟩
  obtain ⟨rn, hrn⟩ : ∃ rn : Nat, (rn : Int) = ta % (d.rgs : Int) := ⟨(ta % (d.rgs : Int)).toNat, by have := Int.emod_nonneg ta (show (d.rgs : Int) ≠ 0 by omega); omega⟩
  have hq1 : 0 ≤ (nn : Int) ∧ (nn : Int) ≤ 120 := by omega
  have HKp := Lib.hid (fun w => Book.pick_any ta nn (by omega) (by omega) w)
  rw [show ta % (nn : Int) = (pn : Int) by rw [hN, hpn]] at HKp
  have HSh := Lib.hid (fun w => shortB_any ts hs d.pg (by omega) (d.pg : Int) rfl w)
  obtain ⟨b1, hb1⟩ : ∃ b1, b1 = ts.data.toList.take d.pg := ⟨_, rfl⟩
  have lb : b1.length ≤ d.pg := by rw [hb1, List.length_take]; omega
  rw [← hb1] at HSh
  have HFi := Lib.hid (fun w => fillC 0 ((d.pg : Int) - (b1.length : Int)) (d.pg - b1.length) (by omega) (by omega) 0 rfl w)
  obtain ⟨bf, hbf0⟩ : ∃ bf, bf = b1 ++ rep (d.pg - b1.length) 0 := ⟨_, rfl⟩
  have hbf : bf = full ts d.pg 0 := by rw [hbf0, hb1]; rfl
  have zb : bs b1 ++ bs (rep (d.pg - b1.length) 0) = bs bf := by rw [bs_append, hbf0]
  have sb : (bs b1).size = b1.length := bs_size _
  have sb2 : (bs (rep (d.pg - b1.length) 0)).size = d.pg - b1.length := by rw [bs_size]; simp [rep]
  clear hN hb1 hbf0
  clear h hM q0 q1 q2
  have HK : Hid (∀ w, Calls Try.prog 19 #[.int .i64 tw, .int .i64 12] w fun e w' => e = .returned (.int .i64 4) ∧ w = w') := fun w => by have := Book.pick_any tw 12 (by decide) (by decide) w; rw [show tw % ((12 : Nat) : Int) = 4 from hk] at this; exact this
  have HF := Lib.hid (fun w p S (h : FHas w p d S) => fProgram_any h hd (pn : Int) (bs bf))
  have HR := Lib.hid (fun w p R (h : RHas w p d R) => rProgram h hd (pn : Int) (bs bf))
  have HSt := Lib.hid (show stepD d ⟨tw, ta, tb, ts, tx, tm, true⟩ = (programD d (pn : Int) (bs bf).data.toList).2 by unfold stepD St.page St.text; simp only [hk]; rw [list_bs, hbf, hpn]; rfl)
  clear hk hfz hpn hrn hbf
  go_enter Try.func17, Try.ntmps17
  go_wp2
  go_quiet (fail)
  obtain ⟨w5, hw5⟩ : ∃ w5, w5 = ((w.alloc (.cells #[.int .i64 tw, .int .i64 ta, .int .i64 tb, .string ts, .int .u8 (tx.toNat : Int), .slice ma ml mc, .bool true] 39)).alloc (.cells #[.int .i64 (d.pg : Int), .int .i64 (d.pgs : Int), .int .i64 (d.rgs : Int)] 23)).drewN nq := ⟨_, rfl⟩
  rw [← hw5]
  have B5 := Lib.hid (show Below ((w.alloc (.cells #[.int .i64 tw, .int .i64 ta, .int .i64 tb, .string ts, .int .u8 (tx.toNat : Int), .slice ma ml mc, .bool true] 39)).alloc (.cells #[.int .i64 (d.pg : Int), .int .i64 (d.pgs : Int), .int .i64 (d.rgs : Int)] 23)).heap.size ((w.alloc (.cells #[.int .i64 tw, .int .i64 ta, .int .i64 tb, .string ts, .int .u8 (tx.toNat : Int), .slice ma ml mc, .bool true] 39)).alloc (.cells #[.int .i64 (d.pg : Int), .int .i64 (d.pgs : Int), .int .i64 (d.rgs : Int)] 23)) w5 by rw [hw5]; exact below_drewN _ _)
  have VB5 := Lib.hid (HVB.out.below B5.out HVB.out.lt)
  have VG5 := Lib.hid (HVG.out.below B5.out HVG.out.lt)
  have BW5 := Lib.hid (HB2.out.trans (B5.out.mono HB2.out.size))
  clear hw5 r0 r1 r2
  have x0 := VB5.out.cell (j := 0) rfl
  have x1 := VB5.out.cell (j := 1) rfl
  have x2 := VB5.out.cell (j := 2) rfl
  have x3 := VB5.out.cell (j := 3) rfl
  have x4 := VB5.out.cell (j := 4) rfl
  have x5 := VB5.out.cell (j := 5) rfl
  have x6 := VB5.out.cell (j := 6) rfl
  have g0 := VG5.out.cell (j := 0) rfl
  have g1 := VG5.out.cell (j := 1) rfl
  have g2 := VG5.out.cell (j := 2) rfl
  go_wp2_with (first
    | (go_at_call 19; (with_reducible refine (HKp.out _).mono ?_); rintro e wz ⟨rfl, rfl⟩)
    | (go_at_call 11; (with_reducible refine (HSh.out _).mono ?_); rintro e wz ⟨rfl, rfl⟩)
    | (go_at_call 22; (with_reducible refine (HFi.out _).mono ?_); rintro e wb ⟨rfl, b6⟩; have VB := Lib.hid (VB5.out.below b6 VB5.out.lt); have VG := Lib.hid (VG5.out.below b6 VG5.out.lt); have BW := Lib.hid (BW5.out.trans (b6.mono BW5.out.size)); have TB := Lib.hid (H0.out.below BW.out); have MB := Lib.hid (M0.out.grows (Grows.of_below (S := fun _ => False) BW.out) (fun _ x => x.elim)); have MF := Lib.hid (MB.out.sub (T := S) (fun k hk => Or.inl hk)); clear b6; have x0 := VB.out.cell (j := 0) rfl; have x1 := VB.out.cell (j := 1) rfl; have x2 := VB.out.cell (j := 2) rfl; have x3 := VB.out.cell (j := 3) rfl; have x4 := VB.out.cell (j := 4) rfl; have x5 := VB.out.cell (j := 5) rfl; have x6 := VB.out.cell (j := 6) rfl; have g0 := VG.out.cell (j := 0) rfl; have g1 := VG.out.cell (j := 1) rfl; have g2 := VG.out.cell (j := 2) rfl)
    | (go_at_call 19; (with_reducible refine (HK.out _).mono ?_); rintro e wz ⟨rfl, rfl⟩)
    | (go_at_call 26; (with_reducible refine (HF.out _ _ _ TB.out.f).mono ?_); rintro e wc ⟨rfl, S1, hf1, a1⟩; have two1 := TB.out.left hf1 a1; have TC := Lib.hid two1; clear two1; have VC := Lib.hid (a1.grows.var VB.out (fun hs => NS.out _ (Nat.le_refl _) hs)); have x0 := VC.out.cell (j := 0) rfl; have x1 := VC.out.cell (j := 1) rfl; have x2 := VC.out.cell (j := 2) rfl; have x3 := VC.out.cell (j := 3) rfl; have x4 := VC.out.cell (j := 4) rfl; have x5 := VC.out.cell (j := 5) rfl; have x6 := VC.out.cell (j := 6) rfl)
    | (go_at_call 43; (with_reducible refine (HR.out _ _ _ TC.out.1.r).mono ?_); rintro e wd ⟨rfl, R2, hr2, a2⟩; have two2 := TC.out.1.right hr2 a2; have TD := Lib.hid two2; clear two2))
  go_ret
  rw [HSt.out]
  exact ⟨rfl, S1, R2, TD.out.1, After.trans (after_below BW.out) (After.trans TC.out.2 TD.out.2)⟩
set_option maxRecDepth 100000 in
set_option maxHeartbeats 16000000 in
theorem step_true_5 {w : World} {p r : Nat} {d : Dev} {S R : Nat → Prop} (h : Two w p r d d S R) (hd : d.Ok) (tw ta tb : Int) (ts : ByteArray) (tx : UInt8) (tm : List Int) (ma : Option Addr) (ml mc : Nat) (hs : ts.size ≤ maxLen) (hM : MaskAt w ma tm (both S R)) (hm : ∀ m ∈ tm, m < 9223372036854775808) (hml : ml = tm.length) (hml2 : tm.length ≤ maxLen) (hk : tw % 12 = 5) :
    Calls Try.prog 17 #[.pointer (some ⟨p, 0, none⟩), .pointer (some ⟨r, 0, none⟩), .agg #[.int .i64 tw, .int .i64 ta, .int .i64 tb, .string ts, .int .u8 (tx.toNat : Int), .slice ma ml mc, .bool true]] w fun e w' => e = .returned (.bool true) ∧ ∃ S' R', Two w' p r (stepD d ⟨tw, ta, tb, ts, tx, tm, true⟩) (stepD d ⟨tw, ta, tb, ts, tx, tm, true⟩) S' R' ∧ After (both S R) w w' (both S' R') := by
  have HML := Lib.hid hml
  clear hml
  have H0 := Lib.hid h
  have M0 := Lib.hid hM
  have NS := Lib.hid (show ∀ k, w.heap.size ≤ k → ¬ S k from fun k hk hs => by have := h.f.lt k hs; omega)
  obtain ⟨q0, q1, q2⟩ := rCells h.r
  have r0 : (w.alloc (.cells #[.int .i64 tw, .int .i64 ta, .int .i64 tb, .string ts, .int .u8 (tx.toNat : Int), .slice ma ml mc, .bool true] 39)).cell? ⟨r, 0, none⟩ = some (.int .i64 (d.pg : Int)) := (Grows.alloc (fun _ => False) w _).cell q0 (fun x => x)
  have r1 : (w.alloc (.cells #[.int .i64 tw, .int .i64 ta, .int .i64 tb, .string ts, .int .u8 (tx.toNat : Int), .slice ma ml mc, .bool true] 39)).cell? ⟨r, 1, none⟩ = some (.int .i64 (d.pgs : Int)) := (Grows.alloc (fun _ => False) w _).cell q1 (fun x => x)
  have r2 : (w.alloc (.cells #[.int .i64 tw, .int .i64 ta, .int .i64 tb, .string ts, .int .u8 (tx.toNat : Int), .slice ma ml mc, .bool true] 39)).cell? ⟨r, 2, none⟩ = some (.int .i64 (d.rgs : Int)) := (Grows.alloc (fun _ => False) w _).cell q2 (fun x => x)
  have HVB := Lib.hid (show Var ((w.alloc (.cells #[.int .i64 tw, .int .i64 ta, .int .i64 tb, .string ts, .int .u8 (tx.toNat : Int), .slice ma ml mc, .bool true] 39)).alloc (.cells #[.int .i64 (d.pg : Int), .int .i64 (d.pgs : Int), .int .i64 (d.rgs : Int)] 23)) w.heap.size 39 [.int .i64 tw, .int .i64 ta, .int .i64 tb, .string ts, .int .u8 (tx.toNat : Int), .slice ma ml mc, .bool true] from (Var.new w 39 [.int .i64 tw, .int .i64 ta, .int .i64 tb, .string ts, .int .u8 (tx.toNat : Int), .slice ma ml mc, .bool true]).alloc _)
  have HVG := Lib.hid (show Var ((w.alloc (.cells #[.int .i64 tw, .int .i64 ta, .int .i64 tb, .string ts, .int .u8 (tx.toNat : Int), .slice ma ml mc, .bool true] 39)).alloc (.cells #[.int .i64 (d.pg : Int), .int .i64 (d.pgs : Int), .int .i64 (d.rgs : Int)] 23)) (w.heap.size + 1) 23 [.int .i64 (d.pg : Int), .int .i64 (d.pgs : Int), .int .i64 (d.rgs : Int)] by have := Var.new (w.alloc (.cells #[.int .i64 tw, .int .i64 ta, .int .i64 tb, .string ts, .int .u8 (tx.toNat : Int), .slice ma ml mc, .bool true] 39)) 23 [.int .i64 (d.pg : Int), .int .i64 (d.pgs : Int), .int .i64 (d.rgs : Int)]; rw [show (w.alloc (.cells #[.int .i64 tw, .int .i64 ta, .int .i64 tb, .string ts, .int .u8 (tx.toNat : Int), .slice ma ml mc, .bool true] 39)).heap.size = w.heap.size + 1 by simp] at this; exact this)
  have HB2 := Lib.hid (show Below w.heap.size w ((w.alloc (.cells #[.int .i64 tw, .int .i64 ta, .int .i64 tb, .string ts, .int .u8 (tx.toNat : Int), .slice ma ml mc, .bool true] 39)).alloc (.cells #[.int .i64 (d.pg : Int), .int .i64 (d.pgs : Int), .int .i64 (d.rgs : Int)] 23)) from bel2 (Geom.bel_alloc w _) (Geom.bel_alloc _ _))
  have hp0 := hd.p0
  have hp1 := hd.p1
  have hs0 := hd.s0
  have hs1 := hd.s1
  have hr0 := hd.r0
  have hr1 := hd.r1
  have hn1 := hd.n_le
  have hn0 : 0 < d.n := Nat.mul_pos (by omega) (by omega)
  have hnn : (d.pgs : Int) * (d.rgs : Int) = (d.n : Int) := by unfold Dev.n; rw [Int.natCast_mul]
  obtain ⟨fz, hfz⟩ : ∃ fz, fz = ta % 12 := ⟨_, rfl⟩
  have hf2 : 0 ≤ fz ∧ fz < 12 := by omega
  obtain ⟨nn, hN⟩ : ∃ nn, nn = d.n := ⟨_, rfl⟩
  rw [← hN] at hnn
  obtain ⟨pn, hpn⟩ : ∃ pn : Nat, (pn : Int) = ta % (d.n : Int) := ⟨(ta % (d.n : Int)).toNat, by have := Int.emod_nonneg ta (show (d.n : Int) ≠ 0 by omega); omega⟩
  obtain ⟨rn, hrn⟩ : ∃ rn : Nat, (rn : Int) = ta % (d.rgs : Int) := ⟨(ta % (d.rgs : Int)).toNat, by have := Int.emod_nonneg ta (show (d.rgs : Int) ≠ 0 by omega); omega⟩
  have hq1 : 0 ≤ (nn : Int) ∧ (nn : Int) ≤ 120 := by omega
  have HKp := Lib.hid (fun w => Book.pick_any ta nn (by omega) (by omega) w)
  rw [show ta % (nn : Int) = (pn : Int) by rw [hN, hpn]] at HKp
  have HSh := Lib.hid (fun w => shortB_any ts hs d.pg (by omega) (d.pg : Int) rfl w)
  obtain ⟨b1, hb1⟩ : ∃ b1, b1 = ts.data.toList.take d.pg := ⟨_, rfl⟩
  have lb : b1.length ≤ d.pg := by rw [hb1, List.length_take]; omega
  rw [← hb1] at HSh
  have HFi := Lib.hid (fun w => fillC 0 ((d.pg : Int) - (b1.length : Int)) (d.pg - b1.length) (by omega) (by omega) 0 rfl w)
  obtain ⟨bf, hbf0⟩ : ∃ bf, bf = b1 ++ rep (d.pg - b1.length) 0 := ⟨_, rfl⟩
  have hbf : bf = full ts d.pg 0 := by rw [hbf0, hb1]; rfl
  have zb : bs b1 ++ bs (rep (d.pg - b1.length) 0) = bs bf := by rw [bs_append, hbf0]
  have sb : (bs b1).size = b1.length := bs_size _
  have sb2 : (bs (rep (d.pg - b1.length) 0)).size = d.pg - b1.length := by rw [bs_size]; simp [rep]
  clear hN hb1 hbf0
  clear h hM q0 q1 q2
  have HK : Hid (∀ w, Calls Try.prog 19 #[.int .i64 tw, .int .i64 12] w fun e w' => e = .returned (.int .i64 5) ∧ w = w') := fun w => by have := Book.pick_any tw 12 (by decide) (by decide) w; rw [show tw % ((12 : Nat) : Int) = 5 from hk] at this; exact this
  have HKr := Lib.hid (fun w => Book.pick_any ta d.rgs (by omega) (by omega) w)
  rw [← hrn] at HKr
  have HF := Lib.hid (fun w p S (h : FHas w p d S) => fErase_any h hd (rn : Int))
  have HR := Lib.hid (fun w p R (h : RHas w p d R) => rErase h hd (rn : Int))
  have HSt := Lib.hid (show stepD d ⟨tw, ta, tb, ts, tx, tm, true⟩ = (eraseD d (rn : Int)).2 by unfold stepD St.region; simp only [hk]; rw [hrn]; rfl)
  clear hk hfz hpn hrn hbf
  go_enter Try.func17, Try.ntmps17
  go_wp2
  go_quiet (fail)
  obtain ⟨w5, hw5⟩ : ∃ w5, w5 = ((w.alloc (.cells #[.int .i64 tw, .int .i64 ta, .int .i64 tb, .string ts, .int .u8 (tx.toNat : Int), .slice ma ml mc, .bool true] 39)).alloc (.cells #[.int .i64 (d.pg : Int), .int .i64 (d.pgs : Int), .int .i64 (d.rgs : Int)] 23)).drewN nq := ⟨_, rfl⟩
  rw [← hw5]
  have B5 := Lib.hid (show Below ((w.alloc (.cells #[.int .i64 tw, .int .i64 ta, .int .i64 tb, .string ts, .int .u8 (tx.toNat : Int), .slice ma ml mc, .bool true] 39)).alloc (.cells #[.int .i64 (d.pg : Int), .int .i64 (d.pgs : Int), .int .i64 (d.rgs : Int)] 23)).heap.size ((w.alloc (.cells #[.int .i64 tw, .int .i64 ta, .int .i64 tb, .string ts, .int .u8 (tx.toNat : Int), .slice ma ml mc, .bool true] 39)).alloc (.cells #[.int .i64 (d.pg : Int), .int .i64 (d.pgs : Int), .int .i64 (d.rgs : Int)] 23)) w5 by rw [hw5]; exact below_drewN _ _)
  have VB5 := Lib.hid (HVB.out.below B5.out HVB.out.lt)
  have VG5 := Lib.hid (HVG.out.below B5.out HVG.out.lt)
  have BW5 := Lib.hid (HB2.out.trans (B5.out.mono HB2.out.size))
  clear hw5 r0 r1 r2
  have x0 := VB5.out.cell (j := 0) rfl
  have x1 := VB5.out.cell (j := 1) rfl
  have x2 := VB5.out.cell (j := 2) rfl
  have x3 := VB5.out.cell (j := 3) rfl
  have x4 := VB5.out.cell (j := 4) rfl
  have x5 := VB5.out.cell (j := 5) rfl
  have x6 := VB5.out.cell (j := 6) rfl
  have g0 := VG5.out.cell (j := 0) rfl
  have g1 := VG5.out.cell (j := 1) rfl
  have g2 := VG5.out.cell (j := 2) rfl
  go_wp2_with (first
    | (go_at_call 19; (with_reducible refine (HKp.out _).mono ?_); rintro e wz ⟨rfl, rfl⟩)
    | (go_at_call 11; (with_reducible refine (HSh.out _).mono ?_); rintro e wz ⟨rfl, rfl⟩)
    | (go_at_call 22; (with_reducible refine (HFi.out _).mono ?_); rintro e wb ⟨rfl, b6⟩; have VB := Lib.hid (VB5.out.below b6 VB5.out.lt); have VG := Lib.hid (VG5.out.below b6 VG5.out.lt); have BW := Lib.hid (BW5.out.trans (b6.mono BW5.out.size)); have TB := Lib.hid (H0.out.below BW.out); have MB := Lib.hid (M0.out.grows (Grows.of_below (S := fun _ => False) BW.out) (fun _ x => x.elim)); have MF := Lib.hid (MB.out.sub (T := S) (fun k hk => Or.inl hk)); clear b6; have x0 := VB.out.cell (j := 0) rfl; have x1 := VB.out.cell (j := 1) rfl; have x2 := VB.out.cell (j := 2) rfl; have x3 := VB.out.cell (j := 3) rfl; have x4 := VB.out.cell (j := 4) rfl; have x5 := VB.out.cell (j := 5) rfl; have x6 := VB.out.cell (j := 6) rfl; have g0 := VG.out.cell (j := 0) rfl; have g1 := VG.out.cell (j := 1) rfl; have g2 := VG.out.cell (j := 2) rfl)
    | (go_at_call 19; (with_reducible refine (HK.out _).mono ?_); rintro e wz ⟨rfl, rfl⟩)
    | (go_at_call 19; (with_reducible refine (HKr.out _).mono ?_); rintro e wz ⟨rfl, rfl⟩)
    | (go_at_call 31; (with_reducible refine (HF.out _ _ _ TB.out.f).mono ?_); rintro e wc ⟨rfl, S1, hf1, a1⟩; have two1 := TB.out.left hf1 a1; have TC := Lib.hid two1; clear two1; have VC := Lib.hid (a1.grows.var VB.out (fun hs => NS.out _ (Nat.le_refl _) hs)); have x0 := VC.out.cell (j := 0) rfl; have x1 := VC.out.cell (j := 1) rfl; have x2 := VC.out.cell (j := 2) rfl; have x3 := VC.out.cell (j := 3) rfl; have x4 := VC.out.cell (j := 4) rfl; have x5 := VC.out.cell (j := 5) rfl; have x6 := VC.out.cell (j := 6) rfl)
    | (go_at_call 37; (with_reducible refine (HR.out _ _ _ TC.out.1.r).mono ?_); rintro e wd ⟨rfl, R2, hr2, a2⟩; have two2 := TC.out.1.right hr2 a2; have TD := Lib.hid two2; clear two2))
  go_ret
  rw [HSt.out]
  exact ⟨rfl, S1, R2, TD.out.1, After.trans (after_below BW.out) (After.trans TC.out.2 TD.out.2)⟩
set_option maxRecDepth 100000 in
set_option maxHeartbeats 16000000 in
theorem step_true_6 {w : World} {p r : Nat} {d : Dev} {S R : Nat → Prop} (h : Two w p r d d S R) (hd : d.Ok) (tw ta tb : Int) (ts : ByteArray) (tx : UInt8) (tm : List Int) (ma : Option Addr) (ml mc : Nat) (hs : ts.size ≤ maxLen) (hM : MaskAt w ma tm (both S R)) (hm : ∀ m ∈ tm, m < 9223372036854775808) (hml : ml = tm.length) (hml2 : tm.length ≤ maxLen) (hk : tw % 12 = 6) :
    Calls Try.prog 17 #[.pointer (some ⟨p, 0, none⟩), .pointer (some ⟨r, 0, none⟩), .agg #[.int .i64 tw, .int .i64 ta, .int .i64 tb, .string ts, .int .u8 (tx.toNat : Int), .slice ma ml mc, .bool true]] w fun e w' => e = .returned (.bool true) ∧ ∃ S' R', Two w' p r (stepD d ⟨tw, ta, tb, ts, tx, tm, true⟩) (stepD d ⟨tw, ta, tb, ts, tx, tm, true⟩) S' R' ∧ After (both S R) w w' (both S' R') := by
  have HML := Lib.hid hml
  clear hml
  have H0 := Lib.hid h
  have M0 := Lib.hid hM
  have NS := Lib.hid (show ∀ k, w.heap.size ≤ k → ¬ S k from fun k hk hs => by have := h.f.lt k hs; omega)
  obtain ⟨q0, q1, q2⟩ := rCells h.r
  have r0 : (w.alloc (.cells #[.int .i64 tw, .int .i64 ta, .int .i64 tb, .string ts, .int .u8 (tx.toNat : Int), .slice ma ml mc, .bool true] 39)).cell? ⟨r, 0, none⟩ = some (.int .i64 (d.pg : Int)) := (Grows.alloc (fun _ => False) w _).cell q0 (fun x => x)
  have r1 : (w.alloc (.cells #[.int .i64 tw, .int .i64 ta, .int .i64 tb, .string ts, .int .u8 (tx.toNat : Int), .slice ma ml mc, .bool true] 39)).cell? ⟨r, 1, none⟩ = some (.int .i64 (d.pgs : Int)) := (Grows.alloc (fun _ => False) w _).cell q1 (fun x => x)
  have r2 : (w.alloc (.cells #[.int .i64 tw, .int .i64 ta, .int .i64 tb, .string ts, .int .u8 (tx.toNat : Int), .slice ma ml mc, .bool true] 39)).cell? ⟨r, 2, none⟩ = some (.int .i64 (d.rgs : Int)) := (Grows.alloc (fun _ => False) w _).cell q2 (fun x => x)
  have HVB := Lib.hid (show Var ((w.alloc (.cells #[.int .i64 tw, .int .i64 ta, .int .i64 tb, .string ts, .int .u8 (tx.toNat : Int), .slice ma ml mc, .bool true] 39)).alloc (.cells #[.int .i64 (d.pg : Int), .int .i64 (d.pgs : Int), .int .i64 (d.rgs : Int)] 23)) w.heap.size 39 [.int .i64 tw, .int .i64 ta, .int .i64 tb, .string ts, .int .u8 (tx.toNat : Int), .slice ma ml mc, .bool true] from (Var.new w 39 [.int .i64 tw, .int .i64 ta, .int .i64 tb, .string ts, .int .u8 (tx.toNat : Int), .slice ma ml mc, .bool true]).alloc _)
  have HVG := Lib.hid (show Var ((w.alloc (.cells #[.int .i64 tw, .int .i64 ta, .int .i64 tb, .string ts, .int .u8 (tx.toNat : Int), .slice ma ml mc, .bool true] 39)).alloc (.cells #[.int .i64 (d.pg : Int), .int .i64 (d.pgs : Int), .int .i64 (d.rgs : Int)] 23)) (w.heap.size + 1) 23 [.int .i64 (d.pg : Int), .int .i64 (d.pgs : Int), .int .i64 (d.rgs : Int)] by have := Var.new (w.alloc (.cells #[.int .i64 tw, .int .i64 ta, .int .i64 tb, .string ts, .int .u8 (tx.toNat : Int), .slice ma ml mc, .bool true] 39)) 23 [.int .i64 (d.pg : Int), .int .i64 (d.pgs : Int), .int .i64 (d.rgs : Int)]; rw [show (w.alloc (.cells #[.int .i64 tw, .int .i64 ta, .int .i64 tb, .string ts, .int .u8 (tx.toNat : Int), .slice ma ml mc, .bool true] 39)).heap.size = w.heap.size + 1 by simp] at this; exact this)
  have HB2 := Lib.hid (show Below w.heap.size w ((w.alloc (.cells #[.int .i64 tw, .int .i64 ta, .int .i64 tb, .string ts, .int .u8 (tx.toNat : Int), .slice ma ml mc, .bool true] 39)).alloc (.cells #[.int .i64 (d.pg : Int), .int .i64 (d.pgs : Int), .int .i64 (d.rgs : Int)] 23)) from bel2 (Geom.bel_alloc w _) (Geom.bel_alloc _ _))
  have hp0 := hd.p0
  have hp1 := hd.p1
  have hs0 := hd.s0
  have hs1 := hd.s1
  have hr0 := hd.r0
  have hr1 := hd.r1
  have hn1 := hd.n_le
  have hn0 : 0 < d.n := Nat.mul_pos (by omega) (by omega)
  have hnn : (d.pgs : Int) * (d.rgs : Int) = (d.n : Int) := by unfold Dev.n; rw [Int.natCast_mul]
  obtain ⟨fz, hfz⟩ : ∃ fz, fz = ta % 12 := ⟨_, rfl⟩
  have hf2 : 0 ≤ fz ∧ fz < 12 := by omega
  obtain ⟨nn, hN⟩ : ∃ nn, nn = d.n := ⟨_, rfl⟩
  rw [← hN] at hnn
  obtain ⟨pn, hpn⟩ : ∃ pn : Nat, (pn : Int) = ta % (d.n : Int) := ⟨(ta % (d.n : Int)).toNat, by have := Int.emod_nonneg ta (show (d.n : Int) ≠ 0 by omega); omega⟩
  obtain ⟨rn, hrn⟩ : ∃ rn : Nat, (rn : Int) = ta % (d.rgs : Int) := ⟨(ta % (d.rgs : Int)).toNat, by have := Int.emod_nonneg ta (show (d.rgs : Int) ≠ 0 by omega); omega⟩
  have hq1 : 0 ≤ (nn : Int) ∧ (nn : Int) ≤ 120 := by omega
  have HKp := Lib.hid (fun w => Book.pick_any ta nn (by omega) (by omega) w)
  rw [show ta % (nn : Int) = (pn : Int) by rw [hN, hpn]] at HKp
  have HSh := Lib.hid (fun w => shortB_any ts hs d.pg (by omega) (d.pg : Int) rfl w)
  obtain ⟨b1, hb1⟩ : ∃ b1, b1 = ts.data.toList.take d.pg := ⟨_, rfl⟩
  have lb : b1.length ≤ d.pg := by rw [hb1, List.length_take]; omega
  rw [← hb1] at HSh
  have HFi := Lib.hid (fun w => fillC 0 ((d.pg : Int) - (b1.length : Int)) (d.pg - b1.length) (by omega) (by omega) 0 rfl w)
  obtain ⟨bf, hbf0⟩ : ∃ bf, bf = b1 ++ rep (d.pg - b1.length) 0 := ⟨_, rfl⟩
  have hbf : bf = full ts d.pg 0 := by rw [hbf0, hb1]; rfl
  have zb : bs b1 ++ bs (rep (d.pg - b1.length) 0) = bs bf := by rw [bs_append, hbf0]
  have sb : (bs b1).size = b1.length := bs_size _
  have sb2 : (bs (rep (d.pg - b1.length) 0)).size = d.pg - b1.length := by rw [bs_size]; simp [rep]
  clear hN hb1 hbf0
  clear h hM q0 q1 q2
  have HK : Hid (∀ w, Calls Try.prog 19 #[.int .i64 tw, .int .i64 12] w fun e w' => e = .returned (.int .i64 6) ∧ w = w') := fun w => by have := Book.pick_any tw 12 (by decide) (by decide) w; rw [show tw % ((12 : Nat) : Int) = 6 from hk] at this; exact this
  have HF := Lib.hid (fun w p S (h : FHas w p d S) => fFlush_any h hd)
  have HR := Lib.hid (fun w p R (h : RHas w p d R) => rFlush h hd)
  have HSt := Lib.hid (show stepD d ⟨tw, ta, tb, ts, tx, tm, true⟩ = (flushD d).2 by unfold stepD; simp only [hk]; rfl)
  clear hk hfz hpn hrn hbf
  go_enter Try.func17, Try.ntmps17
  go_wp2
  go_quiet (fail)
  obtain ⟨w5, hw5⟩ : ∃ w5, w5 = ((w.alloc (.cells #[.int .i64 tw, .int .i64 ta, .int .i64 tb, .string ts, .int .u8 (tx.toNat : Int), .slice ma ml mc, .bool true] 39)).alloc (.cells #[.int .i64 (d.pg : Int), .int .i64 (d.pgs : Int), .int .i64 (d.rgs : Int)] 23)).drewN nq := ⟨_, rfl⟩
  rw [← hw5]
  have B5 := Lib.hid (show Below ((w.alloc (.cells #[.int .i64 tw, .int .i64 ta, .int .i64 tb, .string ts, .int .u8 (tx.toNat : Int), .slice ma ml mc, .bool true] 39)).alloc (.cells #[.int .i64 (d.pg : Int), .int .i64 (d.pgs : Int), .int .i64 (d.rgs : Int)] 23)).heap.size ((w.alloc (.cells #[.int .i64 tw, .int .i64 ta, .int .i64 tb, .string ts, .int .u8 (tx.toNat : Int), .slice ma ml mc, .bool true] 39)).alloc (.cells #[.int .i64 (d.pg : Int), .int .i64 (d.pgs : Int), .int .i64 (d.rgs : Int)] 23)) w5 by rw [hw5]; exact below_drewN _ _)
  have VB5 := Lib.hid (HVB.out.below B5.out HVB.out.lt)
  have VG5 := Lib.hid (HVG.out.below B5.out HVG.out.lt)
  have BW5 := Lib.hid (HB2.out.trans (B5.out.mono HB2.out.size))
  clear hw5 r0 r1 r2
  have x0 := VB5.out.cell (j := 0) rfl
  have x1 := VB5.out.cell (j := 1) rfl
  have x2 := VB5.out.cell (j := 2) rfl
  have x3 := VB5.out.cell (j := 3) rfl
  have x4 := VB5.out.cell (j := 4) rfl
  have x5 := VB5.out.cell (j := 5) rfl
  have x6 := VB5.out.cell (j := 6) rfl
  have g0 := VG5.out.cell (j := 0) rfl
  have g1 := VG5.out.cell (j := 1) rfl
  have g2 := VG5.out.cell (j := 2) rfl
  go_wp2_with (first
    | (go_at_call 19; (with_reducible refine (HKp.out _).mono ?_); rintro e wz ⟨rfl, rfl⟩)
    | (go_at_call 11; (with_reducible refine (HSh.out _).mono ?_); rintro e wz ⟨rfl, rfl⟩)
    | (go_at_call 22; (with_reducible refine (HFi.out _).mono ?_); rintro e wb ⟨rfl, b6⟩; have VB := Lib.hid (VB5.out.below b6 VB5.out.lt); have VG := Lib.hid (VG5.out.below b6 VG5.out.lt); have BW := Lib.hid (BW5.out.trans (b6.mono BW5.out.size)); have TB := Lib.hid (H0.out.below BW.out); have MB := Lib.hid (M0.out.grows (Grows.of_below (S := fun _ => False) BW.out) (fun _ x => x.elim)); have MF := Lib.hid (MB.out.sub (T := S) (fun k hk => Or.inl hk)); clear b6; have x0 := VB.out.cell (j := 0) rfl; have x1 := VB.out.cell (j := 1) rfl; have x2 := VB.out.cell (j := 2) rfl; have x3 := VB.out.cell (j := 3) rfl; have x4 := VB.out.cell (j := 4) rfl; have x5 := VB.out.cell (j := 5) rfl; have x6 := VB.out.cell (j := 6) rfl; have g0 := VG.out.cell (j := 0) rfl; have g1 := VG.out.cell (j := 1) rfl; have g2 := VG.out.cell (j := 2) rfl)
    | (go_at_call 19; (with_reducible refine (HK.out _).mono ?_); rintro e wz ⟨rfl, rfl⟩)
    | (go_at_call 27; (with_reducible refine (HF.out _ _ _ TB.out.f).mono ?_); rintro e wc ⟨rfl, S1, hf1, a1⟩; have two1 := TB.out.left hf1 a1; have TC := Lib.hid two1; clear two1; have VC := Lib.hid (a1.grows.var VB.out (fun hs => NS.out _ (Nat.le_refl _) hs)); have x0 := VC.out.cell (j := 0) rfl; have x1 := VC.out.cell (j := 1) rfl; have x2 := VC.out.cell (j := 2) rfl; have x3 := VC.out.cell (j := 3) rfl; have x4 := VC.out.cell (j := 4) rfl; have x5 := VC.out.cell (j := 5) rfl; have x6 := VC.out.cell (j := 6) rfl)
    | (go_at_call 38; (with_reducible refine (HR.out _ _ _ TC.out.1.r).mono ?_); rintro e wd ⟨rfl, R2, hr2, a2⟩; have two2 := TC.out.1.right hr2 a2; have TD := Lib.hid two2; clear two2))
  go_ret
  rw [HSt.out]
  exact ⟨rfl, S1, R2, TD.out.1, After.trans (after_below BW.out) (After.trans TC.out.2 TD.out.2)⟩
set_option maxRecDepth 100000 in
set_option maxHeartbeats 16000000 in
theorem step_true_7 {w : World} {p r : Nat} {d : Dev} {S R : Nat → Prop} (h : Two w p r d d S R) (hd : d.Ok) (tw ta tb : Int) (ts : ByteArray) (tx : UInt8) (tm : List Int) (ma : Option Addr) (ml mc : Nat) (hs : ts.size ≤ maxLen) (hM : MaskAt w ma tm (both S R)) (hm : ∀ m ∈ tm, m < 9223372036854775808) (hml : ml = tm.length) (hml2 : tm.length ≤ maxLen) (hk : tw % 12 = 7) :
    Calls Try.prog 17 #[.pointer (some ⟨p, 0, none⟩), .pointer (some ⟨r, 0, none⟩), .agg #[.int .i64 tw, .int .i64 ta, .int .i64 tb, .string ts, .int .u8 (tx.toNat : Int), .slice ma ml mc, .bool true]] w fun e w' => e = .returned (.bool true) ∧ ∃ S' R', Two w' p r (stepD d ⟨tw, ta, tb, ts, tx, tm, true⟩) (stepD d ⟨tw, ta, tb, ts, tx, tm, true⟩) S' R' ∧ After (both S R) w w' (both S' R') := by
  have HML := Lib.hid hml
  clear hml
  have H0 := Lib.hid h
  have M0 := Lib.hid hM
  have NS := Lib.hid (show ∀ k, w.heap.size ≤ k → ¬ S k from fun k hk hs => by have := h.f.lt k hs; omega)
  obtain ⟨q0, q1, q2⟩ := rCells h.r
  have r0 : (w.alloc (.cells #[.int .i64 tw, .int .i64 ta, .int .i64 tb, .string ts, .int .u8 (tx.toNat : Int), .slice ma ml mc, .bool true] 39)).cell? ⟨r, 0, none⟩ = some (.int .i64 (d.pg : Int)) := (Grows.alloc (fun _ => False) w _).cell q0 (fun x => x)
  have r1 : (w.alloc (.cells #[.int .i64 tw, .int .i64 ta, .int .i64 tb, .string ts, .int .u8 (tx.toNat : Int), .slice ma ml mc, .bool true] 39)).cell? ⟨r, 1, none⟩ = some (.int .i64 (d.pgs : Int)) := (Grows.alloc (fun _ => False) w _).cell q1 (fun x => x)
  have r2 : (w.alloc (.cells #[.int .i64 tw, .int .i64 ta, .int .i64 tb, .string ts, .int .u8 (tx.toNat : Int), .slice ma ml mc, .bool true] 39)).cell? ⟨r, 2, none⟩ = some (.int .i64 (d.rgs : Int)) := (Grows.alloc (fun _ => False) w _).cell q2 (fun x => x)
  have HVB := Lib.hid (show Var ((w.alloc (.cells #[.int .i64 tw, .int .i64 ta, .int .i64 tb, .string ts, .int .u8 (tx.toNat : Int), .slice ma ml mc, .bool true] 39)).alloc (.cells #[.int .i64 (d.pg : Int), .int .i64 (d.pgs : Int), .int .i64 (d.rgs : Int)] 23)) w.heap.size 39 [.int .i64 tw, .int .i64 ta, .int .i64 tb, .string ts, .int .u8 (tx.toNat : Int), .slice ma ml mc, .bool true] from (Var.new w 39 [.int .i64 tw, .int .i64 ta, .int .i64 tb, .string ts, .int .u8 (tx.toNat : Int), .slice ma ml mc, .bool true]).alloc _)
  have HVG := Lib.hid (show Var ((w.alloc (.cells #[.int .i64 tw, .int .i64 ta, .int .i64 tb, .string ts, .int .u8 (tx.toNat : Int), .slice ma ml mc, .bool true] 39)).alloc (.cells #[.int .i64 (d.pg : Int), .int .i64 (d.pgs : Int), .int .i64 (d.rgs : Int)] 23)) (w.heap.size + 1) 23 [.int .i64 (d.pg : Int), .int .i64 (d.pgs : Int), .int .i64 (d.rgs : Int)] by have := Var.new (w.alloc (.cells #[.int .i64 tw, .int .i64 ta, .int .i64 tb, .string ts, .int .u8 (tx.toNat : Int), .slice ma ml mc, .bool true] 39)) 23 [.int .i64 (d.pg : Int), .int .i64 (d.pgs : Int), .int .i64 (d.rgs : Int)]; rw [show (w.alloc (.cells #[.int .i64 tw, .int .i64 ta, .int .i64 tb, .string ts, .int .u8 (tx.toNat : Int), .slice ma ml mc, .bool true] 39)).heap.size = w.heap.size + 1 by simp] at this; exact this)
  have HB2 := Lib.hid (show Below w.heap.size w ((w.alloc (.cells #[.int .i64 tw, .int .i64 ta, .int .i64 tb, .string ts, .int .u8 (tx.toNat : Int), .slice ma ml mc, .bool true] 39)).alloc (.cells #[.int .i64 (d.pg : Int), .int .i64 (d.pgs : Int), .int .i64 (d.rgs : Int)] 23)) from bel2 (Geom.bel_alloc w _) (Geom.bel_alloc _ _))
  have hp0 := hd.p0
  have hp1 := hd.p1
  have hs0 := hd.s0
  have hs1 := hd.s1
  have hr0 := hd.r0
  have hr1 := hd.r1
  have hn1 := hd.n_le
  have hn0 : 0 < d.n := Nat.mul_pos (by omega) (by omega)
  have hnn : (d.pgs : Int) * (d.rgs : Int) = (d.n : Int) := by unfold Dev.n; rw [Int.natCast_mul]
  obtain ⟨fz, hfz⟩ : ∃ fz, fz = ta % 12 := ⟨_, rfl⟩
  have hf2 : 0 ≤ fz ∧ fz < 12 := by omega
  obtain ⟨nn, hN⟩ : ∃ nn, nn = d.n := ⟨_, rfl⟩
  rw [← hN] at hnn
  obtain ⟨pn, hpn⟩ : ∃ pn : Nat, (pn : Int) = ta % (d.n : Int) := ⟨(ta % (d.n : Int)).toNat, by have := Int.emod_nonneg ta (show (d.n : Int) ≠ 0 by omega); omega⟩
  obtain ⟨rn, hrn⟩ : ∃ rn : Nat, (rn : Int) = ta % (d.rgs : Int) := ⟨(ta % (d.rgs : Int)).toNat, by have := Int.emod_nonneg ta (show (d.rgs : Int) ≠ 0 by omega); omega⟩
  have hq1 : 0 ≤ (nn : Int) ∧ (nn : Int) ≤ 120 := by omega
  have HKp := Lib.hid (fun w => Book.pick_any ta nn (by omega) (by omega) w)
  rw [show ta % (nn : Int) = (pn : Int) by rw [hN, hpn]] at HKp
  have HSh := Lib.hid (fun w => shortB_any ts hs d.pg (by omega) (d.pg : Int) rfl w)
  obtain ⟨b1, hb1⟩ : ∃ b1, b1 = ts.data.toList.take d.pg := ⟨_, rfl⟩
  have lb : b1.length ≤ d.pg := by rw [hb1, List.length_take]; omega
  rw [← hb1] at HSh
  have HFi := Lib.hid (fun w => fillC 0 ((d.pg : Int) - (b1.length : Int)) (d.pg - b1.length) (by omega) (by omega) 0 rfl w)
  obtain ⟨bf, hbf0⟩ : ∃ bf, bf = b1 ++ rep (d.pg - b1.length) 0 := ⟨_, rfl⟩
  have hbf : bf = full ts d.pg 0 := by rw [hbf0, hb1]; rfl
  have zb : bs b1 ++ bs (rep (d.pg - b1.length) 0) = bs bf := by rw [bs_append, hbf0]
  have sb : (bs b1).size = b1.length := bs_size _
  have sb2 : (bs (rep (d.pg - b1.length) 0)).size = d.pg - b1.length := by rw [bs_size]; simp [rep]
  clear hN hb1 hbf0
  clear h hM q0 q1 q2
  have HK : Hid (∀ w, Calls Try.prog 19 #[.int .i64 tw, .int .i64 12] w fun e w' => e = .returned (.int .i64 7) ∧ w = w') := fun w => by have := Book.pick_any tw 12 (by decide) (by decide) w; rw [show tw % ((12 : Nat) : Int) = 7 from hk] at this; exact this
  have HF := Lib.hid (fun w p S (h : FHas w p d S) => fFlush_any h hd)
  have HR := Lib.hid (fun w p R (h : RHas w p d R) => rFlush h hd)
  have HSt := Lib.hid (show stepD d ⟨tw, ta, tb, ts, tx, tm, true⟩ = (flushD d).2 by unfold stepD; simp only [hk]; rfl)
  clear hk hfz hpn hrn hbf
  go_enter Try.func17, Try.ntmps17
  go_wp2
  go_quiet (fail)
  obtain ⟨w5, hw5⟩ : ∃ w5, w5 = ((w.alloc (.cells #[.int .i64 tw, .int .i64 ta, .int .i64 tb, .string ts, .int .u8 (tx.toNat : Int), .slice ma ml mc, .bool true] 39)).alloc (.cells #[.int .i64 (d.pg : Int), .int .i64 (d.pgs : Int), .int .i64 (d.rgs : Int)] 23)).drewN nq := ⟨_, rfl⟩
  rw [← hw5]
  have B5 := Lib.hid (show Below ((w.alloc (.cells #[.int .i64 tw, .int .i64 ta, .int .i64 tb, .string ts, .int .u8 (tx.toNat : Int), .slice ma ml mc, .bool true] 39)).alloc (.cells #[.int .i64 (d.pg : Int), .int .i64 (d.pgs : Int), .int .i64 (d.rgs : Int)] 23)).heap.size ((w.alloc (.cells #[.int .i64 tw, .int .i64 ta, .int .i64 tb, .string ts, .int .u8 (tx.toNat : Int), .slice ma ml mc, .bool true] 39)).alloc (.cells #[.int .i64 (d.pg : Int), .int .i64 (d.pgs : Int), .int .i64 (d.rgs : Int)] 23)) w5 by rw [hw5]; exact below_drewN _ _)
  have VB5 := Lib.hid (HVB.out.below B5.out HVB.out.lt)
  have VG5 := Lib.hid (HVG.out.below B5.out HVG.out.lt)
  have BW5 := Lib.hid (HB2.out.trans (B5.out.mono HB2.out.size))
  clear hw5 r0 r1 r2
  have x0 := VB5.out.cell (j := 0) rfl
  have x1 := VB5.out.cell (j := 1) rfl
  have x2 := VB5.out.cell (j := 2) rfl
  have x3 := VB5.out.cell (j := 3) rfl
  have x4 := VB5.out.cell (j := 4) rfl
  have x5 := VB5.out.cell (j := 5) rfl
  have x6 := VB5.out.cell (j := 6) rfl
  have g0 := VG5.out.cell (j := 0) rfl
  have g1 := VG5.out.cell (j := 1) rfl
  have g2 := VG5.out.cell (j := 2) rfl
  go_wp2_with (first
    | (go_at_call 19; (with_reducible refine (HKp.out _).mono ?_); rintro e wz ⟨rfl, rfl⟩)
    | (go_at_call 11; (with_reducible refine (HSh.out _).mono ?_); rintro e wz ⟨rfl, rfl⟩)
    | (go_at_call 22; (with_reducible refine (HFi.out _).mono ?_); rintro e wb ⟨rfl, b6⟩; have VB := Lib.hid (VB5.out.below b6 VB5.out.lt); have VG := Lib.hid (VG5.out.below b6 VG5.out.lt); have BW := Lib.hid (BW5.out.trans (b6.mono BW5.out.size)); have TB := Lib.hid (H0.out.below BW.out); have MB := Lib.hid (M0.out.grows (Grows.of_below (S := fun _ => False) BW.out) (fun _ x => x.elim)); have MF := Lib.hid (MB.out.sub (T := S) (fun k hk => Or.inl hk)); clear b6; have x0 := VB.out.cell (j := 0) rfl; have x1 := VB.out.cell (j := 1) rfl; have x2 := VB.out.cell (j := 2) rfl; have x3 := VB.out.cell (j := 3) rfl; have x4 := VB.out.cell (j := 4) rfl; have x5 := VB.out.cell (j := 5) rfl; have x6 := VB.out.cell (j := 6) rfl; have g0 := VG.out.cell (j := 0) rfl; have g1 := VG.out.cell (j := 1) rfl; have g2 := VG.out.cell (j := 2) rfl)
    | (go_at_call 19; (with_reducible refine (HK.out _).mono ?_); rintro e wz ⟨rfl, rfl⟩)
    | (go_at_call 27; (with_reducible refine (HF.out _ _ _ TB.out.f).mono ?_); rintro e wc ⟨rfl, S1, hf1, a1⟩; have two1 := TB.out.left hf1 a1; have TC := Lib.hid two1; clear two1; have VC := Lib.hid (a1.grows.var VB.out (fun hs => NS.out _ (Nat.le_refl _) hs)); have x0 := VC.out.cell (j := 0) rfl; have x1 := VC.out.cell (j := 1) rfl; have x2 := VC.out.cell (j := 2) rfl; have x3 := VC.out.cell (j := 3) rfl; have x4 := VC.out.cell (j := 4) rfl; have x5 := VC.out.cell (j := 5) rfl; have x6 := VC.out.cell (j := 6) rfl)
    | (go_at_call 38; (with_reducible refine (HR.out _ _ _ TC.out.1.r).mono ?_); rintro e wd ⟨rfl, R2, hr2, a2⟩; have two2 := TC.out.1.right hr2 a2; have TD := Lib.hid two2; clear two2))
  go_ret
  rw [HSt.out]
  exact ⟨rfl, S1, R2, TD.out.1, After.trans (after_below BW.out) (After.trans TC.out.2 TD.out.2)⟩
set_option maxRecDepth 100000 in
set_option maxHeartbeats 16000000 in
theorem step_true_8 {w : World} {p r : Nat} {d : Dev} {S R : Nat → Prop} (h : Two w p r d d S R) (hd : d.Ok) (tw ta tb : Int) (ts : ByteArray) (tx : UInt8) (tm : List Int) (ma : Option Addr) (ml mc : Nat) (hs : ts.size ≤ maxLen) (hM : MaskAt w ma tm (both S R)) (hm : ∀ m ∈ tm, m < 9223372036854775808) (hml : ml = tm.length) (hml2 : tm.length ≤ maxLen) (hk : tw % 12 = 8) :
    Calls Try.prog 17 #[.pointer (some ⟨p, 0, none⟩), .pointer (some ⟨r, 0, none⟩), .agg #[.int .i64 tw, .int .i64 ta, .int .i64 tb, .string ts, .int .u8 (tx.toNat : Int), .slice ma ml mc, .bool true]] w fun e w' => e = .returned (.bool true) ∧ ∃ S' R', Two w' p r (stepD d ⟨tw, ta, tb, ts, tx, tm, true⟩) (stepD d ⟨tw, ta, tb, ts, tx, tm, true⟩) S' R' ∧ After (both S R) w w' (both S' R') := by
  have HML := Lib.hid hml
  clear hml
  have H0 := Lib.hid h
  have M0 := Lib.hid hM
  have NS := Lib.hid (show ∀ k, w.heap.size ≤ k → ¬ S k from fun k hk hs => by have := h.f.lt k hs; omega)
  obtain ⟨q0, q1, q2⟩ := rCells h.r
  have r0 : (w.alloc (.cells #[.int .i64 tw, .int .i64 ta, .int .i64 tb, .string ts, .int .u8 (tx.toNat : Int), .slice ma ml mc, .bool true] 39)).cell? ⟨r, 0, none⟩ = some (.int .i64 (d.pg : Int)) := (Grows.alloc (fun _ => False) w _).cell q0 (fun x => x)
  have r1 : (w.alloc (.cells #[.int .i64 tw, .int .i64 ta, .int .i64 tb, .string ts, .int .u8 (tx.toNat : Int), .slice ma ml mc, .bool true] 39)).cell? ⟨r, 1, none⟩ = some (.int .i64 (d.pgs : Int)) := (Grows.alloc (fun _ => False) w _).cell q1 (fun x => x)
  have r2 : (w.alloc (.cells #[.int .i64 tw, .int .i64 ta, .int .i64 tb, .string ts, .int .u8 (tx.toNat : Int), .slice ma ml mc, .bool true] 39)).cell? ⟨r, 2, none⟩ = some (.int .i64 (d.rgs : Int)) := (Grows.alloc (fun _ => False) w _).cell q2 (fun x => x)
  have HVB := Lib.hid (show Var ((w.alloc (.cells #[.int .i64 tw, .int .i64 ta, .int .i64 tb, .string ts, .int .u8 (tx.toNat : Int), .slice ma ml mc, .bool true] 39)).alloc (.cells #[.int .i64 (d.pg : Int), .int .i64 (d.pgs : Int), .int .i64 (d.rgs : Int)] 23)) w.heap.size 39 [.int .i64 tw, .int .i64 ta, .int .i64 tb, .string ts, .int .u8 (tx.toNat : Int), .slice ma ml mc, .bool true] from (Var.new w 39 [.int .i64 tw, .int .i64 ta, .int .i64 tb, .string ts, .int .u8 (tx.toNat : Int), .slice ma ml mc, .bool true]).alloc _)
  have HVG := Lib.hid (show Var ((w.alloc (.cells #[.int .i64 tw, .int .i64 ta, .int .i64 tb, .string ts, .int .u8 (tx.toNat : Int), .slice ma ml mc, .bool true] 39)).alloc (.cells #[.int .i64 (d.pg : Int), .int .i64 (d.pgs : Int), .int .i64 (d.rgs : Int)] 23)) (w.heap.size + 1) 23 [.int .i64 (d.pg : Int), .int .i64 (d.pgs : Int), .int .i64 (d.rgs : Int)] by have := Var.new (w.alloc (.cells #[.int .i64 tw, .int .i64 ta, .int .i64 tb, .string ts, .int .u8 (tx.toNat : Int), .slice ma ml mc, .bool true] 39)) 23 [.int .i64 (d.pg : Int), .int .i64 (d.pgs : Int), .int .i64 (d.rgs : Int)]; rw [show (w.alloc (.cells #[.int .i64 tw, .int .i64 ta, .int .i64 tb, .string ts, .int .u8 (tx.toNat : Int), .slice ma ml mc, .bool true] 39)).heap.size = w.heap.size + 1 by simp] at this; exact this)
  have HB2 := Lib.hid (show Below w.heap.size w ((w.alloc (.cells #[.int .i64 tw, .int .i64 ta, .int .i64 tb, .string ts, .int .u8 (tx.toNat : Int), .slice ma ml mc, .bool true] 39)).alloc (.cells #[.int .i64 (d.pg : Int), .int .i64 (d.pgs : Int), .int .i64 (d.rgs : Int)] 23)) from bel2 (Geom.bel_alloc w _) (Geom.bel_alloc _ _))
  have hp0 := hd.p0
  have hp1 := hd.p1
  have hs0 := hd.s0
  have hs1 := hd.s1
  have hr0 := hd.r0
  have hr1 := hd.r1
  have hn1 := hd.n_le
  have hn0 : 0 < d.n := Nat.mul_pos (by omega) (by omega)
  have hnn : (d.pgs : Int) * (d.rgs : Int) = (d.n : Int) := by unfold Dev.n; rw [Int.natCast_mul]
  obtain ⟨fz, hfz⟩ : ∃ fz, fz = ta % 12 := ⟨_, rfl⟩
  have hf2 : 0 ≤ fz ∧ fz < 12 := by omega
  obtain ⟨nn, hN⟩ : ∃ nn, nn = d.n := ⟨_, rfl⟩
  rw [← hN] at hnn
  obtain ⟨pn, hpn⟩ : ∃ pn : Nat, (pn : Int) = ta % (d.n : Int) := ⟨(ta % (d.n : Int)).toNat, by have := Int.emod_nonneg ta (show (d.n : Int) ≠ 0 by omega); omega⟩
  obtain ⟨rn, hrn⟩ : ∃ rn : Nat, (rn : Int) = ta % (d.rgs : Int) := ⟨(ta % (d.rgs : Int)).toNat, by have := Int.emod_nonneg ta (show (d.rgs : Int) ≠ 0 by omega); omega⟩
  have hq1 : 0 ≤ (nn : Int) ∧ (nn : Int) ≤ 120 := by omega
  have HKp := Lib.hid (fun w => Book.pick_any ta nn (by omega) (by omega) w)
  rw [show ta % (nn : Int) = (pn : Int) by rw [hN, hpn]] at HKp
  have HSh := Lib.hid (fun w => shortB_any ts hs d.pg (by omega) (d.pg : Int) rfl w)
  obtain ⟨b1, hb1⟩ : ∃ b1, b1 = ts.data.toList.take d.pg := ⟨_, rfl⟩
  have lb : b1.length ≤ d.pg := by rw [hb1, List.length_take]; omega
  rw [← hb1] at HSh
  have HFi := Lib.hid (fun w => fillC 0 ((d.pg : Int) - (b1.length : Int)) (d.pg - b1.length) (by omega) (by omega) 0 rfl w)
  obtain ⟨bf, hbf0⟩ : ∃ bf, bf = b1 ++ rep (d.pg - b1.length) 0 := ⟨_, rfl⟩
  have hbf : bf = full ts d.pg 0 := by rw [hbf0, hb1]; rfl
  have zb : bs b1 ++ bs (rep (d.pg - b1.length) 0) = bs bf := by rw [bs_append, hbf0]
  have sb : (bs b1).size = b1.length := bs_size _
  have sb2 : (bs (rep (d.pg - b1.length) 0)).size = d.pg - b1.length := by rw [bs_size]; simp [rep]
  clear hN hb1 hbf0
  clear h hM q0 q1 q2
  have HK : Hid (∀ w, Calls Try.prog 19 #[.int .i64 tw, .int .i64 12] w fun e w' => e = .returned (.int .i64 8) ∧ w = w') := fun w => by have := Book.pick_any tw 12 (by decide) (by decide) w; rw [show tw % ((12 : Nat) : Int) = 8 from hk] at this; exact this
  have HF := Lib.hid (fun w p S (h : FHas w p d S) hM => fCrash_any h hd ma tm ml mc HML.out hM hm hml2)
  have HR := Lib.hid (fun w p R (h : RHas w p d R) hM => rCrash h hd ma tm ml mc HML.out hM hm hml2)
  have HSt := Lib.hid (show stepD d ⟨tw, ta, tb, ts, tx, tm, true⟩ = crashD d tm by unfold stepD; simp only [hk]; rfl)
  clear hk hfz hpn hrn hbf
  go_enter Try.func17, Try.ntmps17
  go_wp2
  go_quiet (fail)
  obtain ⟨w5, hw5⟩ : ∃ w5, w5 = ((w.alloc (.cells #[.int .i64 tw, .int .i64 ta, .int .i64 tb, .string ts, .int .u8 (tx.toNat : Int), .slice ma ml mc, .bool true] 39)).alloc (.cells #[.int .i64 (d.pg : Int), .int .i64 (d.pgs : Int), .int .i64 (d.rgs : Int)] 23)).drewN nq := ⟨_, rfl⟩
  rw [← hw5]
  have B5 := Lib.hid (show Below ((w.alloc (.cells #[.int .i64 tw, .int .i64 ta, .int .i64 tb, .string ts, .int .u8 (tx.toNat : Int), .slice ma ml mc, .bool true] 39)).alloc (.cells #[.int .i64 (d.pg : Int), .int .i64 (d.pgs : Int), .int .i64 (d.rgs : Int)] 23)).heap.size ((w.alloc (.cells #[.int .i64 tw, .int .i64 ta, .int .i64 tb, .string ts, .int .u8 (tx.toNat : Int), .slice ma ml mc, .bool true] 39)).alloc (.cells #[.int .i64 (d.pg : Int), .int .i64 (d.pgs : Int), .int .i64 (d.rgs : Int)] 23)) w5 by rw [hw5]; exact below_drewN _ _)
  have VB5 := Lib.hid (HVB.out.below B5.out HVB.out.lt)
  have VG5 := Lib.hid (HVG.out.below B5.out HVG.out.lt)
  have BW5 := Lib.hid (HB2.out.trans (B5.out.mono HB2.out.size))
  clear hw5 r0 r1 r2
  have x0 := VB5.out.cell (j := 0) rfl
  have x1 := VB5.out.cell (j := 1) rfl
  have x2 := VB5.out.cell (j := 2) rfl
  have x3 := VB5.out.cell (j := 3) rfl
  have x4 := VB5.out.cell (j := 4) rfl
  have x5 := VB5.out.cell (j := 5) rfl
  have x6 := VB5.out.cell (j := 6) rfl
  have g0 := VG5.out.cell (j := 0) rfl
  have g1 := VG5.out.cell (j := 1) rfl
  have g2 := VG5.out.cell (j := 2) rfl
  go_wp2_with (first
    | (go_at_call 19; (with_reducible refine (HKp.out _).mono ?_); rintro e wz ⟨rfl, rfl⟩)
    | (go_at_call 11; (with_reducible refine (HSh.out _).mono ?_); rintro e wz ⟨rfl, rfl⟩)
    | (go_at_call 22; (with_reducible refine (HFi.out _).mono ?_); rintro e wb ⟨rfl, b6⟩; have VB := Lib.hid (VB5.out.below b6 VB5.out.lt); have VG := Lib.hid (VG5.out.below b6 VG5.out.lt); have BW := Lib.hid (BW5.out.trans (b6.mono BW5.out.size)); have TB := Lib.hid (H0.out.below BW.out); have MB := Lib.hid (M0.out.grows (Grows.of_below (S := fun _ => False) BW.out) (fun _ x => x.elim)); have MF := Lib.hid (MB.out.sub (T := S) (fun k hk => Or.inl hk)); clear b6; have x0 := VB.out.cell (j := 0) rfl; have x1 := VB.out.cell (j := 1) rfl; have x2 := VB.out.cell (j := 2) rfl; have x3 := VB.out.cell (j := 3) rfl; have x4 := VB.out.cell (j := 4) rfl; have x5 := VB.out.cell (j := 5) rfl; have x6 := VB.out.cell (j := 6) rfl; have g0 := VG.out.cell (j := 0) rfl; have g1 := VG.out.cell (j := 1) rfl; have g2 := VG.out.cell (j := 2) rfl)
    | (go_at_call 19; (with_reducible refine (HK.out _).mono ?_); rintro e wz ⟨rfl, rfl⟩)
    | (go_at_call 28; (with_reducible refine (HF.out _ _ _ TB.out.f MF.out).mono ?_); rintro e wc ⟨rfl, S1, hf1, a1⟩; have two1 := TB.out.left hf1 a1; have TC := Lib.hid two1; clear two1; have VC := Lib.hid (a1.grows.var VB.out (fun hs => NS.out _ (Nat.le_refl _) hs)); have x0 := VC.out.cell (j := 0) rfl; have x1 := VC.out.cell (j := 1) rfl; have x2 := VC.out.cell (j := 2) rfl; have x3 := VC.out.cell (j := 3) rfl; have x4 := VC.out.cell (j := 4) rfl; have x5 := VC.out.cell (j := 5) rfl; have x6 := VC.out.cell (j := 6) rfl; have MC := Lib.hid ((MB.out.grows a1.grows (fun k hk => Or.inl hk)).sub (T := R) (fun k hk => Or.inr hk)))
    | (go_at_call 39; (with_reducible refine (HR.out _ _ _ TC.out.1.r MC.out).mono ?_); rintro e wd ⟨rfl, R2, hr2, a2⟩; have two2 := TC.out.1.right hr2 a2; have TD := Lib.hid two2; clear two2))
  go_ret
  rw [HSt.out]
  exact ⟨rfl, S1, R2, TD.out.1, After.trans (after_below BW.out) (After.trans TC.out.2 TD.out.2)⟩
set_option maxRecDepth 100000 in
set_option maxHeartbeats 16000000 in
theorem step_true_9 {w : World} {p r : Nat} {d : Dev} {S R : Nat → Prop} (h : Two w p r d d S R) (hd : d.Ok) (tw ta tb : Int) (ts : ByteArray) (tx : UInt8) (tm : List Int) (ma : Option Addr) (ml mc : Nat) (hs : ts.size ≤ maxLen) (hM : MaskAt w ma tm (both S R)) (hm : ∀ m ∈ tm, m < 9223372036854775808) (hml : ml = tm.length) (hml2 : tm.length ≤ maxLen) (hk : tw % 12 = 9) :
    Calls Try.prog 17 #[.pointer (some ⟨p, 0, none⟩), .pointer (some ⟨r, 0, none⟩), .agg #[.int .i64 tw, .int .i64 ta, .int .i64 tb, .string ts, .int .u8 (tx.toNat : Int), .slice ma ml mc, .bool true]] w fun e w' => e = .returned (.bool true) ∧ ∃ S' R', Two w' p r (stepD d ⟨tw, ta, tb, ts, tx, tm, true⟩) (stepD d ⟨tw, ta, tb, ts, tx, tm, true⟩) S' R' ∧ After (both S R) w w' (both S' R') := by
  have HML := Lib.hid hml
  clear hml
  have H0 := Lib.hid h
  have M0 := Lib.hid hM
  have NS := Lib.hid (show ∀ k, w.heap.size ≤ k → ¬ S k from fun k hk hs => by have := h.f.lt k hs; omega)
  obtain ⟨q0, q1, q2⟩ := rCells h.r
  have r0 : (w.alloc (.cells #[.int .i64 tw, .int .i64 ta, .int .i64 tb, .string ts, .int .u8 (tx.toNat : Int), .slice ma ml mc, .bool true] 39)).cell? ⟨r, 0, none⟩ = some (.int .i64 (d.pg : Int)) := (Grows.alloc (fun _ => False) w _).cell q0 (fun x => x)
  have r1 : (w.alloc (.cells #[.int .i64 tw, .int .i64 ta, .int .i64 tb, .string ts, .int .u8 (tx.toNat : Int), .slice ma ml mc, .bool true] 39)).cell? ⟨r, 1, none⟩ = some (.int .i64 (d.pgs : Int)) := (Grows.alloc (fun _ => False) w _).cell q1 (fun x => x)
  have r2 : (w.alloc (.cells #[.int .i64 tw, .int .i64 ta, .int .i64 tb, .string ts, .int .u8 (tx.toNat : Int), .slice ma ml mc, .bool true] 39)).cell? ⟨r, 2, none⟩ = some (.int .i64 (d.rgs : Int)) := (Grows.alloc (fun _ => False) w _).cell q2 (fun x => x)
  have HVB := Lib.hid (show Var ((w.alloc (.cells #[.int .i64 tw, .int .i64 ta, .int .i64 tb, .string ts, .int .u8 (tx.toNat : Int), .slice ma ml mc, .bool true] 39)).alloc (.cells #[.int .i64 (d.pg : Int), .int .i64 (d.pgs : Int), .int .i64 (d.rgs : Int)] 23)) w.heap.size 39 [.int .i64 tw, .int .i64 ta, .int .i64 tb, .string ts, .int .u8 (tx.toNat : Int), .slice ma ml mc, .bool true] from (Var.new w 39 [.int .i64 tw, .int .i64 ta, .int .i64 tb, .string ts, .int .u8 (tx.toNat : Int), .slice ma ml mc, .bool true]).alloc _)
  have HVG := Lib.hid (show Var ((w.alloc (.cells #[.int .i64 tw, .int .i64 ta, .int .i64 tb, .string ts, .int .u8 (tx.toNat : Int), .slice ma ml mc, .bool true] 39)).alloc (.cells #[.int .i64 (d.pg : Int), .int .i64 (d.pgs : Int), .int .i64 (d.rgs : Int)] 23)) (w.heap.size + 1) 23 [.int .i64 (d.pg : Int), .int .i64 (d.pgs : Int), .int .i64 (d.rgs : Int)] by have := Var.new (w.alloc (.cells #[.int .i64 tw, .int .i64 ta, .int .i64 tb, .string ts, .int .u8 (tx.toNat : Int), .slice ma ml mc, .bool true] 39)) 23 [.int .i64 (d.pg : Int), .int .i64 (d.pgs : Int), .int .i64 (d.rgs : Int)]; rw [show (w.alloc (.cells #[.int .i64 tw, .int .i64 ta, .int .i64 tb, .string ts, .int .u8 (tx.toNat : Int), .slice ma ml mc, .bool true] 39)).heap.size = w.heap.size + 1 by simp] at this; exact this)
  have HB2 := Lib.hid (show Below w.heap.size w ((w.alloc (.cells #[.int .i64 tw, .int .i64 ta, .int .i64 tb, .string ts, .int .u8 (tx.toNat : Int), .slice ma ml mc, .bool true] 39)).alloc (.cells #[.int .i64 (d.pg : Int), .int .i64 (d.pgs : Int), .int .i64 (d.rgs : Int)] 23)) from bel2 (Geom.bel_alloc w _) (Geom.bel_alloc _ _))
  have hp0 := hd.p0
  have hp1 := hd.p1
  have hs0 := hd.s0
  have hs1 := hd.s1
  have hr0 := hd.r0
  have hr1 := hd.r1
  have hn1 := hd.n_le
  have hn0 : 0 < d.n := Nat.mul_pos (by omega) (by omega)
  have hnn : (d.pgs : Int) * (d.rgs : Int) = (d.n : Int) := by unfold Dev.n; rw [Int.natCast_mul]
  obtain ⟨fz, hfz⟩ : ∃ fz, fz = ta % 12 := ⟨_, rfl⟩
  have hf2 : 0 ≤ fz ∧ fz < 12 := by omega
  obtain ⟨nn, hN⟩ : ∃ nn, nn = d.n := ⟨_, rfl⟩
  rw [← hN] at hnn
  obtain ⟨pn, hpn⟩ : ∃ pn : Nat, (pn : Int) = ta % (d.n : Int) := ⟨(ta % (d.n : Int)).toNat, by have := Int.emod_nonneg ta (show (d.n : Int) ≠ 0 by omega); omega⟩
  obtain ⟨rn, hrn⟩ : ∃ rn : Nat, (rn : Int) = ta % (d.rgs : Int) := ⟨(ta % (d.rgs : Int)).toNat, by have := Int.emod_nonneg ta (show (d.rgs : Int) ≠ 0 by omega); omega⟩
  have hq1 : 0 ≤ (nn : Int) ∧ (nn : Int) ≤ 120 := by omega
  have HKp := Lib.hid (fun w => Book.pick_any ta nn (by omega) (by omega) w)
  rw [show ta % (nn : Int) = (pn : Int) by rw [hN, hpn]] at HKp
  have HSh := Lib.hid (fun w => shortB_any ts hs d.pg (by omega) (d.pg : Int) rfl w)
  obtain ⟨b1, hb1⟩ : ∃ b1, b1 = ts.data.toList.take d.pg := ⟨_, rfl⟩
  have lb : b1.length ≤ d.pg := by rw [hb1, List.length_take]; omega
  rw [← hb1] at HSh
  have HFi := Lib.hid (fun w => fillC 0 ((d.pg : Int) - (b1.length : Int)) (d.pg - b1.length) (by omega) (by omega) 0 rfl w)
  obtain ⟨bf, hbf0⟩ : ∃ bf, bf = b1 ++ rep (d.pg - b1.length) 0 := ⟨_, rfl⟩
  have hbf : bf = full ts d.pg 0 := by rw [hbf0, hb1]; rfl
  have zb : bs b1 ++ bs (rep (d.pg - b1.length) 0) = bs bf := by rw [bs_append, hbf0]
  have sb : (bs b1).size = b1.length := bs_size _
  have sb2 : (bs (rep (d.pg - b1.length) 0)).size = d.pg - b1.length := by rw [bs_size]; simp [rep]
  clear hN hb1 hbf0
  clear h hM q0 q1 q2
  have HK : Hid (∀ w, Calls Try.prog 19 #[.int .i64 tw, .int .i64 12] w fun e w' => e = .returned (.int .i64 9) ∧ w = w') := fun w => by have := Book.pick_any tw 12 (by decide) (by decide) w; rw [show tw % ((12 : Nat) : Int) = 9 from hk] at this; exact this
  have HKa : Hid (∀ w, Calls Try.prog 19 #[.int .i64 ta, .int .i64 12] w fun e w' => e = .returned (.int .i64 fz) ∧ w = w') := fun w => by rw [hfz]; exact Book.pick_any ta 12 (by decide) (by decide) w
  have HF := Lib.hid (fun w p S (h : FHas w p d S) => fFuse_any h hd (fz - 2) (by omega))
  have HR := Lib.hid (fun w p R (h : RHas w p d R) => rFuse h (fz - 2) (by omega))
  have HSt := Lib.hid (show stepD d ⟨tw, ta, tb, ts, tx, tm, true⟩ = fuseD d (fz - 2) by unfold stepD; simp only [hk, hfz]; rfl)
  clear hk hfz hpn hrn hbf
  go_enter Try.func17, Try.ntmps17
  go_wp2
  go_quiet (fail)
  obtain ⟨w5, hw5⟩ : ∃ w5, w5 = ((w.alloc (.cells #[.int .i64 tw, .int .i64 ta, .int .i64 tb, .string ts, .int .u8 (tx.toNat : Int), .slice ma ml mc, .bool true] 39)).alloc (.cells #[.int .i64 (d.pg : Int), .int .i64 (d.pgs : Int), .int .i64 (d.rgs : Int)] 23)).drewN nq := ⟨_, rfl⟩
  rw [← hw5]
  have B5 := Lib.hid (show Below ((w.alloc (.cells #[.int .i64 tw, .int .i64 ta, .int .i64 tb, .string ts, .int .u8 (tx.toNat : Int), .slice ma ml mc, .bool true] 39)).alloc (.cells #[.int .i64 (d.pg : Int), .int .i64 (d.pgs : Int), .int .i64 (d.rgs : Int)] 23)).heap.size ((w.alloc (.cells #[.int .i64 tw, .int .i64 ta, .int .i64 tb, .string ts, .int .u8 (tx.toNat : Int), .slice ma ml mc, .bool true] 39)).alloc (.cells #[.int .i64 (d.pg : Int), .int .i64 (d.pgs : Int), .int .i64 (d.rgs : Int)] 23)) w5 by rw [hw5]; exact below_drewN _ _)
  have VB5 := Lib.hid (HVB.out.below B5.out HVB.out.lt)
  have VG5 := Lib.hid (HVG.out.below B5.out HVG.out.lt)
  have BW5 := Lib.hid (HB2.out.trans (B5.out.mono HB2.out.size))
  clear hw5 r0 r1 r2
  have x0 := VB5.out.cell (j := 0) rfl
  have x1 := VB5.out.cell (j := 1) rfl
  have x2 := VB5.out.cell (j := 2) rfl
  have x3 := VB5.out.cell (j := 3) rfl
  have x4 := VB5.out.cell (j := 4) rfl
  have x5 := VB5.out.cell (j := 5) rfl
  have x6 := VB5.out.cell (j := 6) rfl
  have g0 := VG5.out.cell (j := 0) rfl
  have g1 := VG5.out.cell (j := 1) rfl
  have g2 := VG5.out.cell (j := 2) rfl
  go_wp2_with (first
    | (go_at_call 19; (with_reducible refine (HKp.out _).mono ?_); rintro e wz ⟨rfl, rfl⟩)
    | (go_at_call 11; (with_reducible refine (HSh.out _).mono ?_); rintro e wz ⟨rfl, rfl⟩)
    | (go_at_call 22; (with_reducible refine (HFi.out _).mono ?_); rintro e wb ⟨rfl, b6⟩; have VB := Lib.hid (VB5.out.below b6 VB5.out.lt); have VG := Lib.hid (VG5.out.below b6 VG5.out.lt); have BW := Lib.hid (BW5.out.trans (b6.mono BW5.out.size)); have TB := Lib.hid (H0.out.below BW.out); have MB := Lib.hid (M0.out.grows (Grows.of_below (S := fun _ => False) BW.out) (fun _ x => x.elim)); have MF := Lib.hid (MB.out.sub (T := S) (fun k hk => Or.inl hk)); clear b6; have x0 := VB.out.cell (j := 0) rfl; have x1 := VB.out.cell (j := 1) rfl; have x2 := VB.out.cell (j := 2) rfl; have x3 := VB.out.cell (j := 3) rfl; have x4 := VB.out.cell (j := 4) rfl; have x5 := VB.out.cell (j := 5) rfl; have x6 := VB.out.cell (j := 6) rfl; have g0 := VG.out.cell (j := 0) rfl; have g1 := VG.out.cell (j := 1) rfl; have g2 := VG.out.cell (j := 2) rfl)
    | (go_at_call 19; (with_reducible refine (HK.out _).mono ?_); rintro e wz ⟨rfl, rfl⟩)
    | (go_at_call 19; (with_reducible refine (HKa.out _).mono ?_); rintro e wz ⟨rfl, rfl⟩)
    | (go_at_call 30; (with_reducible refine (HF.out _ _ _ TB.out.f).mono ?_); rintro e wc ⟨rfl, S1, hf1, a1⟩; have two1 := TB.out.left hf1 a1; have TC := Lib.hid two1; clear two1; have VC := Lib.hid (a1.grows.var VB.out (fun hs => NS.out _ (Nat.le_refl _) hs)); have x0 := VC.out.cell (j := 0) rfl; have x1 := VC.out.cell (j := 1) rfl; have x2 := VC.out.cell (j := 2) rfl; have x3 := VC.out.cell (j := 3) rfl; have x4 := VC.out.cell (j := 4) rfl; have x5 := VC.out.cell (j := 5) rfl; have x6 := VC.out.cell (j := 6) rfl)
    | (go_at_call 40; (with_reducible refine (HR.out _ _ _ TC.out.1.r).mono ?_); rintro e wd ⟨rfl, R2, hr2, a2⟩; have two2 := TC.out.1.right hr2 a2; have TD := Lib.hid two2; clear two2))
  go_ret
  rw [HSt.out]
  exact ⟨rfl, S1, R2, TD.out.1, After.trans (after_below BW.out) (After.trans TC.out.2 TD.out.2)⟩
set_option maxRecDepth 100000 in
set_option maxHeartbeats 16000000 in
theorem step_true_11 {w : World} {p r : Nat} {d : Dev} {S R : Nat → Prop} (h : Two w p r d d S R) (hd : d.Ok) (tw ta tb : Int) (ts : ByteArray) (tx : UInt8) (tm : List Int) (ma : Option Addr) (ml mc : Nat) (hs : ts.size ≤ maxLen) (hM : MaskAt w ma tm (both S R)) (hm : ∀ m ∈ tm, m < 9223372036854775808) (hml : ml = tm.length) (hml2 : tm.length ≤ maxLen) (hk : tw % 12 = 11) :
    Calls Try.prog 17 #[.pointer (some ⟨p, 0, none⟩), .pointer (some ⟨r, 0, none⟩), .agg #[.int .i64 tw, .int .i64 ta, .int .i64 tb, .string ts, .int .u8 (tx.toNat : Int), .slice ma ml mc, .bool true]] w fun e w' => e = .returned (.bool true) ∧ ∃ S' R', Two w' p r (stepD d ⟨tw, ta, tb, ts, tx, tm, true⟩) (stepD d ⟨tw, ta, tb, ts, tx, tm, true⟩) S' R' ∧ After (both S R) w w' (both S' R') := by
  have HML := Lib.hid hml
  clear hml
  have H0 := Lib.hid h
  have M0 := Lib.hid hM
  have NS := Lib.hid (show ∀ k, w.heap.size ≤ k → ¬ S k from fun k hk hs => by have := h.f.lt k hs; omega)
  obtain ⟨q0, q1, q2⟩ := rCells h.r
  have r0 : (w.alloc (.cells #[.int .i64 tw, .int .i64 ta, .int .i64 tb, .string ts, .int .u8 (tx.toNat : Int), .slice ma ml mc, .bool true] 39)).cell? ⟨r, 0, none⟩ = some (.int .i64 (d.pg : Int)) := (Grows.alloc (fun _ => False) w _).cell q0 (fun x => x)
  have r1 : (w.alloc (.cells #[.int .i64 tw, .int .i64 ta, .int .i64 tb, .string ts, .int .u8 (tx.toNat : Int), .slice ma ml mc, .bool true] 39)).cell? ⟨r, 1, none⟩ = some (.int .i64 (d.pgs : Int)) := (Grows.alloc (fun _ => False) w _).cell q1 (fun x => x)
  have r2 : (w.alloc (.cells #[.int .i64 tw, .int .i64 ta, .int .i64 tb, .string ts, .int .u8 (tx.toNat : Int), .slice ma ml mc, .bool true] 39)).cell? ⟨r, 2, none⟩ = some (.int .i64 (d.rgs : Int)) := (Grows.alloc (fun _ => False) w _).cell q2 (fun x => x)
  have HVB := Lib.hid (show Var ((w.alloc (.cells #[.int .i64 tw, .int .i64 ta, .int .i64 tb, .string ts, .int .u8 (tx.toNat : Int), .slice ma ml mc, .bool true] 39)).alloc (.cells #[.int .i64 (d.pg : Int), .int .i64 (d.pgs : Int), .int .i64 (d.rgs : Int)] 23)) w.heap.size 39 [.int .i64 tw, .int .i64 ta, .int .i64 tb, .string ts, .int .u8 (tx.toNat : Int), .slice ma ml mc, .bool true] from (Var.new w 39 [.int .i64 tw, .int .i64 ta, .int .i64 tb, .string ts, .int .u8 (tx.toNat : Int), .slice ma ml mc, .bool true]).alloc _)
  have HVG := Lib.hid (show Var ((w.alloc (.cells #[.int .i64 tw, .int .i64 ta, .int .i64 tb, .string ts, .int .u8 (tx.toNat : Int), .slice ma ml mc, .bool true] 39)).alloc (.cells #[.int .i64 (d.pg : Int), .int .i64 (d.pgs : Int), .int .i64 (d.rgs : Int)] 23)) (w.heap.size + 1) 23 [.int .i64 (d.pg : Int), .int .i64 (d.pgs : Int), .int .i64 (d.rgs : Int)] by have := Var.new (w.alloc (.cells #[.int .i64 tw, .int .i64 ta, .int .i64 tb, .string ts, .int .u8 (tx.toNat : Int), .slice ma ml mc, .bool true] 39)) 23 [.int .i64 (d.pg : Int), .int .i64 (d.pgs : Int), .int .i64 (d.rgs : Int)]; rw [show (w.alloc (.cells #[.int .i64 tw, .int .i64 ta, .int .i64 tb, .string ts, .int .u8 (tx.toNat : Int), .slice ma ml mc, .bool true] 39)).heap.size = w.heap.size + 1 by simp] at this; exact this)
  have HB2 := Lib.hid (show Below w.heap.size w ((w.alloc (.cells #[.int .i64 tw, .int .i64 ta, .int .i64 tb, .string ts, .int .u8 (tx.toNat : Int), .slice ma ml mc, .bool true] 39)).alloc (.cells #[.int .i64 (d.pg : Int), .int .i64 (d.pgs : Int), .int .i64 (d.rgs : Int)] 23)) from bel2 (Geom.bel_alloc w _) (Geom.bel_alloc _ _))
  have hp0 := hd.p0
  have hp1 := hd.p1
  have hs0 := hd.s0
  have hs1 := hd.s1
  have hr0 := hd.r0
  have hr1 := hd.r1
  have hn1 := hd.n_le
  have hn0 : 0 < d.n := Nat.mul_pos (by omega) (by omega)
  have hnn : (d.pgs : Int) * (d.rgs : Int) = (d.n : Int) := by unfold Dev.n; rw [Int.natCast_mul]
  obtain ⟨fz, hfz⟩ : ∃ fz, fz = ta % 12 := ⟨_, rfl⟩
  have hf2 : 0 ≤ fz ∧ fz < 12 := by omega
  obtain ⟨nn, hN⟩ : ∃ nn, nn = d.n := ⟨_, rfl⟩
  rw [← hN] at hnn
  obtain ⟨pn, hpn⟩ : ∃ pn : Nat, (pn : Int) = ta % (d.n : Int) := ⟨(ta % (d.n : Int)).toNat, by have := Int.emod_nonneg ta (show (d.n : Int) ≠ 0 by omega); omega⟩
  obtain ⟨rn, hrn⟩ : ∃ rn : Nat, (rn : Int) = ta % (d.rgs : Int) := ⟨(ta % (d.rgs : Int)).toNat, by have := Int.emod_nonneg ta (show (d.rgs : Int) ≠ 0 by omega); omega⟩
  have hq1 : 0 ≤ (nn : Int) ∧ (nn : Int) ≤ 120 := by omega
  have HKp := Lib.hid (fun w => Book.pick_any ta nn (by omega) (by omega) w)
  rw [show ta % (nn : Int) = (pn : Int) by rw [hN, hpn]] at HKp
  have HSh := Lib.hid (fun w => shortB_any ts hs d.pg (by omega) (d.pg : Int) rfl w)
  obtain ⟨b1, hb1⟩ : ∃ b1, b1 = ts.data.toList.take d.pg := ⟨_, rfl⟩
  have lb : b1.length ≤ d.pg := by rw [hb1, List.length_take]; omega
  rw [← hb1] at HSh
  have HFi := Lib.hid (fun w => fillC 0 ((d.pg : Int) - (b1.length : Int)) (d.pg - b1.length) (by omega) (by omega) 0 rfl w)
  obtain ⟨bf, hbf0⟩ : ∃ bf, bf = b1 ++ rep (d.pg - b1.length) 0 := ⟨_, rfl⟩
  have hbf : bf = full ts d.pg 0 := by rw [hbf0, hb1]; rfl
  have zb : bs b1 ++ bs (rep (d.pg - b1.length) 0) = bs bf := by rw [bs_append, hbf0]
  have sb : (bs b1).size = b1.length := bs_size _
  have sb2 : (bs (rep (d.pg - b1.length) 0)).size = d.pg - b1.length := by rw [bs_size]; simp [rep]
  clear hN hb1 hbf0
  clear h hM q0 q1 q2
  have HK : Hid (∀ w, Calls Try.prog 19 #[.int .i64 tw, .int .i64 12] w fun e w' => e = .returned (.int .i64 11) ∧ w = w') := fun w => by have := Book.pick_any tw 12 (by decide) (by decide) w; rw [show tw % ((12 : Nat) : Int) = 11 from hk] at this; exact this
  have HF := Lib.hid (fun w p S (h : FHas w p d S) => fRead_any h hd ta)
  have HR := Lib.hid (fun w p R (h : RHas w p d R) => rRead h hd ta)
  have HSt := Lib.hid (show stepD d ⟨tw, ta, tb, ts, tx, tm, true⟩ = d by unfold stepD; simp only [hk]; rfl)
  clear hk hfz hpn hrn hbf
  go_enter Try.func17, Try.ntmps17
  go_wp2
  go_quiet (fail)
  obtain ⟨w5, hw5⟩ : ∃ w5, w5 = ((w.alloc (.cells #[.int .i64 tw, .int .i64 ta, .int .i64 tb, .string ts, .int .u8 (tx.toNat : Int), .slice ma ml mc, .bool true] 39)).alloc (.cells #[.int .i64 (d.pg : Int), .int .i64 (d.pgs : Int), .int .i64 (d.rgs : Int)] 23)).drewN nq := ⟨_, rfl⟩
  rw [← hw5]
  have B5 := Lib.hid (show Below ((w.alloc (.cells #[.int .i64 tw, .int .i64 ta, .int .i64 tb, .string ts, .int .u8 (tx.toNat : Int), .slice ma ml mc, .bool true] 39)).alloc (.cells #[.int .i64 (d.pg : Int), .int .i64 (d.pgs : Int), .int .i64 (d.rgs : Int)] 23)).heap.size ((w.alloc (.cells #[.int .i64 tw, .int .i64 ta, .int .i64 tb, .string ts, .int .u8 (tx.toNat : Int), .slice ma ml mc, .bool true] 39)).alloc (.cells #[.int .i64 (d.pg : Int), .int .i64 (d.pgs : Int), .int .i64 (d.rgs : Int)] 23)) w5 by rw [hw5]; exact below_drewN _ _)
  have VB5 := Lib.hid (HVB.out.below B5.out HVB.out.lt)
  have VG5 := Lib.hid (HVG.out.below B5.out HVG.out.lt)
  have BW5 := Lib.hid (HB2.out.trans (B5.out.mono HB2.out.size))
  clear hw5 r0 r1 r2
  have x0 := VB5.out.cell (j := 0) rfl
  have x1 := VB5.out.cell (j := 1) rfl
  have x2 := VB5.out.cell (j := 2) rfl
  have x3 := VB5.out.cell (j := 3) rfl
  have x4 := VB5.out.cell (j := 4) rfl
  have x5 := VB5.out.cell (j := 5) rfl
  have x6 := VB5.out.cell (j := 6) rfl
  have g0 := VG5.out.cell (j := 0) rfl
  have g1 := VG5.out.cell (j := 1) rfl
  have g2 := VG5.out.cell (j := 2) rfl
  go_wp2_with (first
    | (go_at_call 19; (with_reducible refine (HKp.out _).mono ?_); rintro e wz ⟨rfl, rfl⟩)
    | (go_at_call 11; (with_reducible refine (HSh.out _).mono ?_); rintro e wz ⟨rfl, rfl⟩)
    | (go_at_call 22; (with_reducible refine (HFi.out _).mono ?_); rintro e wb ⟨rfl, b6⟩; have VB := Lib.hid (VB5.out.below b6 VB5.out.lt); have VG := Lib.hid (VG5.out.below b6 VG5.out.lt); have BW := Lib.hid (BW5.out.trans (b6.mono BW5.out.size)); have TB := Lib.hid (H0.out.below BW.out); have MB := Lib.hid (M0.out.grows (Grows.of_below (S := fun _ => False) BW.out) (fun _ x => x.elim)); have MF := Lib.hid (MB.out.sub (T := S) (fun k hk => Or.inl hk)); clear b6; have x0 := VB.out.cell (j := 0) rfl; have x1 := VB.out.cell (j := 1) rfl; have x2 := VB.out.cell (j := 2) rfl; have x3 := VB.out.cell (j := 3) rfl; have x4 := VB.out.cell (j := 4) rfl; have x5 := VB.out.cell (j := 5) rfl; have x6 := VB.out.cell (j := 6) rfl; have g0 := VG.out.cell (j := 0) rfl; have g1 := VG.out.cell (j := 1) rfl; have g2 := VG.out.cell (j := 2) rfl)
    | (go_at_call 19; (with_reducible refine (HK.out _).mono ?_); rintro e wz ⟨rfl, rfl⟩)
    | (go_at_call 29; (with_reducible refine (HF.out _ _ _ TB.out.f).mono ?_); rintro e wc ⟨rfl, bc⟩; have TC := Lib.hid (TB.out.below bc); have VC := Lib.hid (VB.out.below bc VB.out.lt); have x0 := VC.out.cell (j := 0) rfl; have x1 := VC.out.cell (j := 1) rfl; have x2 := VC.out.cell (j := 2) rfl; have x3 := VC.out.cell (j := 3) rfl; have x4 := VC.out.cell (j := 4) rfl; have x5 := VC.out.cell (j := 5) rfl; have x6 := VC.out.cell (j := 6) rfl)
    | (go_at_call 42; (with_reducible refine (HR.out _ _ _ TC.out.r).mono ?_); rintro e wd ⟨rfl, bd⟩; have TD := Lib.hid (TC.out.below bd)))
  go_ret
  rw [HSt.out]
  exact ⟨rfl, S, R, TD.out, after_below (bel2 (bel2 BW.out bc) bd)⟩
end Go.Proofs.Ytgcbdekdjdlfaaa.Flash
