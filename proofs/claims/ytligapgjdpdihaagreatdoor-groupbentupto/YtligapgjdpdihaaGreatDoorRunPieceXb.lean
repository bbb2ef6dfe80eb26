/-
  Joined texts: PieceXb, PieceXc.
-/
import Derived.Test.YtligapgjdpdihaaGreatDoorRunRefFrame
/-
  What package piece's AsPart, AsSeal, AsFloor, sealOf and body answer.
-/
set_option linter.unusedVariables false
set_option linter.unusedSimpArgs false
namespace Go.Proofs.YtligapgjdpdihaaGreatDoor.Piece
open Go.RowKit
open CrcM (W)
open Crc (le4 sumOf vl wd putS)
open Flash (bs bs_size bs_list list_bs)
open Go.Proofs.YtligapgjdpdihaaGreatDoor.Frame (Fr zeroF fV bel2 below_drewN)
open Tup Bytes Own
open Go.Proofs.YtligapgjdpdihaaGreatDoor.Region (fill Then Deps Each wp_region_is wp_region_is_tail wp_region_each wp_region_tail)
def asPartV : Pc → Value
  | .part s a t => partV s a t
  | _ => .agg #[.int .u32 0, .int .u32 0, .string ⟨#[]⟩]
def isPartP : Pc → Bool
  | .part _ _ _ => true
  | _ => false
set_option maxRecDepth 100000 in
set_option maxHeartbeats 8000000 in
theorem asPart_any (p : Pc) (w : World) : Calls Tryz.prog 76 #[pcV p] w fun e w' => e = .returned (.tuple #[asPartV p, .bool (isPartP p)]) ∧ Below w.heap.size w w' := by
  rcases p with _ | ⟨e, r⟩ | ⟨s, a, t⟩ | ⟨s, p, v, f, u, z⟩ | ⟨s, g, f⟩
  case none =>
    show Calls Tryz.prog 76 #[.nilIface] w fun e w' => e = .returned (.tuple #[.agg #[.int .u32 0, .int .u32 0, .string ⟨#[]⟩], .bool false]) ∧ Below w.heap.size w w'
    have hta := taPart_nil
    go_enter Tryz.func76, Tryz.ntmps76
    go_wp2
    refine bodyPost_ret (v := .tuple #[.agg #[.int .u32 0, .int .u32 0, .string ⟨#[]⟩], .bool false]) (by rw [results_cell_tmp rfl]; simp [go_sem]) rfl ?_
    exact ⟨rfl, bel2 (Geom.bel_alloc _ _) (Geom.bel_alloc _ _)⟩
  case head =>
    show Calls Tryz.prog 76 #[.iface 108 (.agg #[.int .u32 (vl e), .int .u32 (vl r)])] w fun e w' => e = .returned (.tuple #[.agg #[.int .u32 0, .int .u32 0, .string ⟨#[]⟩], .bool false]) ∧ Below w.heap.size w w'
    have hta := taPart_Head (.agg #[.int .u32 (vl e), .int .u32 (vl r)])
    go_enter Tryz.func76, Tryz.ntmps76
    go_wp2
    refine bodyPost_ret (v := .tuple #[.agg #[.int .u32 0, .int .u32 0, .string ⟨#[]⟩], .bool false]) (by rw [results_cell_tmp rfl]; simp [go_sem]) rfl ?_
    exact ⟨rfl, bel2 (Geom.bel_alloc _ _) (Geom.bel_alloc _ _)⟩
  case part =>
    show Calls Tryz.prog 76 #[.iface 81 (.agg #[.int .u32 (vl s), .int .u32 (vl a), .string (bs t)])] w fun e w' => e = .returned (.tuple #[.agg #[.int .u32 (vl s), .int .u32 (vl a), .string (bs t)], .bool true]) ∧ Below w.heap.size w w'
    have hta := taPart_Part (.agg #[.int .u32 (vl s), .int .u32 (vl a), .string (bs t)])
    obtain ⟨B, hB⟩ : ∃ B, B = bs t := ⟨_, rfl⟩
    rw [← hB] at hta ⊢
    clear hB
    go_enter Tryz.func76, Tryz.ntmps76
    go_wp2
    refine bodyPost_ret (v := .tuple #[.agg #[.int .u32 (vl s), .int .u32 (vl a), .string B], .bool true]) (by rw [results_cell_tmp rfl]; simp [go_sem]) rfl ?_
    exact ⟨rfl, bel2 (Geom.bel_alloc _ _) (Geom.bel_alloc _ _)⟩
  case fin =>
    show Calls Tryz.prog 76 #[.iface 46 (.agg #[.int .u32 (vl s), .int .u32 (vl p), .int .u32 (vl v), .int .u32 (vl f), .int .u32 (vl u), .int .u32 (vl z)])] w fun e w' => e = .returned (.tuple #[.agg #[.int .u32 0, .int .u32 0, .string ⟨#[]⟩], .bool false]) ∧ Below w.heap.size w w'
    have hta := taPart_Seal (.agg #[.int .u32 (vl s), .int .u32 (vl p), .int .u32 (vl v), .int .u32 (vl f), .int .u32 (vl u), .int .u32 (vl z)])
    go_enter Tryz.func76, Tryz.ntmps76
    go_wp2
    refine bodyPost_ret (v := .tuple #[.agg #[.int .u32 0, .int .u32 0, .string ⟨#[]⟩], .bool false]) (by rw [results_cell_tmp rfl]; simp [go_sem]) rfl ?_
    exact ⟨rfl, bel2 (Geom.bel_alloc _ _) (Geom.bel_alloc _ _)⟩
  case floor =>
    show Calls Tryz.prog 76 #[.iface 112 (.agg #[.int .u32 (vl s), .int .u32 (vl g), .int .u32 (vl f)])] w fun e w' => e = .returned (.tuple #[.agg #[.int .u32 0, .int .u32 0, .string ⟨#[]⟩], .bool false]) ∧ Below w.heap.size w w'
    have hta := taPart_Floor (.agg #[.int .u32 (vl s), .int .u32 (vl g), .int .u32 (vl f)])
    go_enter Tryz.func76, Tryz.ntmps76
    go_wp2
    refine bodyPost_ret (v := .tuple #[.agg #[.int .u32 0, .int .u32 0, .string ⟨#[]⟩], .bool false]) (by rw [results_cell_tmp rfl]; simp [go_sem]) rfl ?_
    exact ⟨rfl, bel2 (Geom.bel_alloc _ _) (Geom.bel_alloc _ _)⟩
def asSealV : Pc → Value
  | .fin s p v f u z => sealV s p v f u z
  | _ => .agg #[.int .u32 0, .int .u32 0, .int .u32 0, .int .u32 0, .int .u32 0, .int .u32 0]
def isSealP : Pc → Bool
  | .fin _ _ _ _ _ _ => true
  | _ => false
set_option maxRecDepth 100000 in
set_option maxHeartbeats 8000000 in
theorem asSeal_any (p : Pc) (w : World) : Calls Tryz.prog 41 #[pcV p] w fun e w' => e = .returned (.tuple #[asSealV p, .bool (isSealP p)]) ∧ Below w.heap.size w w' := by
  rcases p with _ | ⟨e, r⟩ | ⟨s, a, t⟩ | ⟨s, p, v, f, u, z⟩ | ⟨s, g, f⟩
  case none =>
    show Calls Tryz.prog 41 #[.nilIface] w fun e w' => e = .returned (.tuple #[.agg #[.int .u32 0, .int .u32 0, .int .u32 0, .int .u32 0, .int .u32 0, .int .u32 0], .bool false]) ∧ Below w.heap.size w w'
    have hta := taSeal_nil
    go_enter Tryz.func41, Tryz.ntmps41
    go_wp2
    refine bodyPost_ret (v := .tuple #[.agg #[.int .u32 0, .int .u32 0, .int .u32 0, .int .u32 0, .int .u32 0, .int .u32 0], .bool false]) (by rw [results_cell_tmp rfl]; simp [go_sem]) rfl ?_
    exact ⟨rfl, bel2 (Geom.bel_alloc _ _) (Geom.bel_alloc _ _)⟩
  case head =>
    show Calls Tryz.prog 41 #[.iface 108 (.agg #[.int .u32 (vl e), .int .u32 (vl r)])] w fun e w' => e = .returned (.tuple #[.agg #[.int .u32 0, .int .u32 0, .int .u32 0, .int .u32 0, .int .u32 0, .int .u32 0], .bool false]) ∧ Below w.heap.size w w'
    have hta := taSeal_Head (.agg #[.int .u32 (vl e), .int .u32 (vl r)])
    go_enter Tryz.func41, Tryz.ntmps41
    go_wp2
    refine bodyPost_ret (v := .tuple #[.agg #[.int .u32 0, .int .u32 0, .int .u32 0, .int .u32 0, .int .u32 0, .int .u32 0], .bool false]) (by rw [results_cell_tmp rfl]; simp [go_sem]) rfl ?_
    exact ⟨rfl, bel2 (Geom.bel_alloc _ _) (Geom.bel_alloc _ _)⟩
  case part =>
    show Calls Tryz.prog 41 #[.iface 81 (.agg #[.int .u32 (vl s), .int .u32 (vl a), .string (bs t)])] w fun e w' => e = .returned (.tuple #[.agg #[.int .u32 0, .int .u32 0, .int .u32 0, .int .u32 0, .int .u32 0, .int .u32 0], .bool false]) ∧ Below w.heap.size w w'
    have hta := taSeal_Part (.agg #[.int .u32 (vl s), .int .u32 (vl a), .string (bs t)])
    obtain ⟨B, hB⟩ : ∃ B, B = bs t := ⟨_, rfl⟩
    rw [← hB] at hta ⊢
    clear hB
    go_enter Tryz.func41, Tryz.ntmps41
    go_wp2
    refine bodyPost_ret (v := .tuple #[.agg #[.int .u32 0, .int .u32 0, .int .u32 0, .int .u32 0, .int .u32 0, .int .u32 0], .bool false]) (by rw [results_cell_tmp rfl]; simp [go_sem]) rfl ?_
    exact ⟨rfl, bel2 (Geom.bel_alloc _ _) (Geom.bel_alloc _ _)⟩
  case fin =>
    show Calls Tryz.prog 41 #[.iface 46 (.agg #[.int .u32 (vl s), .int .u32 (vl p), .int .u32 (vl v), .int .u32 (vl f), .int .u32 (vl u), .int .u32 (vl z)])] w fun e w' => e = .returned (.tuple #[.agg #[.int .u32 (vl s), .int .u32 (vl p), .int .u32 (vl v), .int .u32 (vl f), .int .u32 (vl u), .int .u32 (vl z)], .bool true]) ∧ Below w.heap.size w w'
    have hta := taSeal_Seal (.agg #[.int .u32 (vl s), .int .u32 (vl p), .int .u32 (vl v), .int .u32 (vl f), .int .u32 (vl u), .int .u32 (vl z)])
    go_enter Tryz.func41, Tryz.ntmps41
    go_wp2
    refine bodyPost_ret (v := .tuple #[.agg #[.int .u32 (vl s), .int .u32 (vl p), .int .u32 (vl v), .int .u32 (vl f), .int .u32 (vl u), .int .u32 (vl z)], .bool true]) (by rw [results_cell_tmp rfl]; simp [go_sem]) rfl ?_
    exact ⟨rfl, bel2 (Geom.bel_alloc _ _) (Geom.bel_alloc _ _)⟩
  case floor =>
    show Calls Tryz.prog 41 #[.iface 112 (.agg #[.int .u32 (vl s), .int .u32 (vl g), .int .u32 (vl f)])] w fun e w' => e = .returned (.tuple #[.agg #[.int .u32 0, .int .u32 0, .int .u32 0, .int .u32 0, .int .u32 0, .int .u32 0], .bool false]) ∧ Below w.heap.size w w'
    have hta := taSeal_Floor (.agg #[.int .u32 (vl s), .int .u32 (vl g), .int .u32 (vl f)])
    go_enter Tryz.func41, Tryz.ntmps41
    go_wp2
    refine bodyPost_ret (v := .tuple #[.agg #[.int .u32 0, .int .u32 0, .int .u32 0, .int .u32 0, .int .u32 0, .int .u32 0], .bool false]) (by rw [results_cell_tmp rfl]; simp [go_sem]) rfl ?_
    exact ⟨rfl, bel2 (Geom.bel_alloc _ _) (Geom.bel_alloc _ _)⟩
def asFloorV : Pc → Value
  | .floor s g f => floorV s g f
  | _ => .agg #[.int .u32 0, .int .u32 0, .int .u32 0]
def isFloorP : Pc → Bool
  | .floor _ _ _ => true
  | _ => false
set_option maxRecDepth 100000 in
set_option maxHeartbeats 8000000 in
theorem sealOf_any (f : Fr) (hs : f.body.length ≤ maxLen) (w : World) : Calls Tryz.prog 74 #[fV f] w fun e w' => e = .returned (sealOfF f) ∧ Below w.heap.size w w' := by
  have HG0 := Lib.hid (fun w => getZ_any f.body hs 0 (by omega) 0 rfl w)
  have HG1 := Lib.hid (fun w => getZ_any f.body hs 4 (by omega) 4 rfl w)
  have HG2 := Lib.hid (fun w => getZ_any f.body hs 8 (by omega) 8 rfl w)
  have HG3 := Lib.hid (fun w => getZ_any f.body hs 12 (by omega) 12 rfl w)
  obtain ⟨kd, a, b, body⟩ := f
  unfold sealOfF sealV fV
  simp only at HG0 HG1 HG2 HG3 ⊢
  obtain ⟨B, hB⟩ : ∃ B, B = bs body := ⟨_, rfl⟩
  rw [← hB] at HG0 HG1 HG2 HG3 ⊢
  clear hB
  generalize getZ body 0 = g0 at *
  generalize decide (0 + 4 ≤ body.length) = d0 at *
  generalize getZ body 4 = g1 at *
  generalize decide (4 + 4 ≤ body.length) = d1 at *
  generalize getZ body 8 = g2 at *
  generalize decide (8 + 4 ≤ body.length) = d2 at *
  generalize getZ body 12 = g3 at *
  generalize decide (12 + 4 ≤ body.length) = d3 at *
  have hsz1 : (w.alloc (.cells #[.int .i64 kd, .int .u32 (vl a), .int .u32 (vl b), .string B] 29)).heap.size = w.heap.size + 1 := by simp
  have hsz2 : ((w.alloc (.cells #[.int .i64 kd, .int .u32 (vl a), .int .u32 (vl b), .string B] 29)).alloc (.cells #[.int .u32 0, .int .u32 0, .int .u32 0, .int .u32 0, .int .u32 0, .int .u32 0] 46)).heap.size = w.heap.size + 2 := by simp
  obtain ⟨w1, hw1⟩ : ∃ w1, w1 = ((w.alloc (.cells #[.int .i64 kd, .int .u32 (vl a), .int .u32 (vl b), .string B] 29)).alloc (.cells #[.int .u32 0, .int .u32 0, .int .u32 0, .int .u32 0, .int .u32 0, .int .u32 0] 46)).alloc (.cells #[.int .u32 (vl a), .int .u32 (vl b), .int .u32 0, .int .u32 0, .int .u32 0, .int .u32 0] 46) := ⟨_, rfl⟩
  have HB1 := Lib.hid (show Below w.heap.size w w1 by rw [hw1]; exact bel2 (bel2 (Geom.bel_alloc _ _) (Geom.bel_alloc _ _)) (Geom.bel_alloc _ _))
  have HF1 := Lib.hid (show Var w1 w.heap.size 29 [.int .i64 kd, .int .u32 (vl a), .int .u32 (vl b), .string B] by rw [hw1]; exact ((Var.new w _ _).alloc _).alloc _)
  have HR1 := Lib.hid (show Var w1 (w.heap.size + 1) 46 [.int .u32 0, .int .u32 0, .int .u32 0, .int .u32 0, .int .u32 0, .int .u32 0] by
    have := (Var.new (w.alloc (.cells #[.int .i64 kd, .int .u32 (vl a), .int .u32 (vl b), .string B] 29)) 46 [.int .u32 0, .int .u32 0, .int .u32 0, .int .u32 0, .int .u32 0, .int .u32 0]).alloc (.cells #[.int .u32 (vl a), .int .u32 (vl b), .int .u32 0, .int .u32 0, .int .u32 0, .int .u32 0] 46)
    rw [hsz1] at this
    rw [hw1]; exact this)
  have HS1 := Lib.hid (show Var w1 (w.heap.size + 2) 46 [.int .u32 (vl a), .int .u32 (vl b), .int .u32 0, .int .u32 0, .int .u32 0, .int .u32 0] by
    have := Var.new ((w.alloc (.cells #[.int .i64 kd, .int .u32 (vl a), .int .u32 (vl b), .string B] 29)).alloc (.cells #[.int .u32 0, .int .u32 0, .int .u32 0, .int .u32 0, .int .u32 0, .int .u32 0] 46)) 46 [.int .u32 (vl a), .int .u32 (vl b), .int .u32 0, .int .u32 0, .int .u32 0, .int .u32 0]
    rw [hsz2] at this
    rw [hw1]; exact this)
  go_enter Tryz.func74, Tryz.ntmps74
  go_wp2_with (first
    | (go_at_call 88; ((with_reducible refine (HG0.out _).mono ?_); rintro e w2 ⟨rfl, bz⟩; have hbel : Below w1.heap.size w1 w2 := (by rw [hw1]; exact bz); clear bz; have vf := HF1.out.below hbel HF1.out.lt; have vr := HR1.out.below hbel HR1.out.lt; have vs := HS1.out.below hbel HS1.out.lt; obtain ⟨w2x, hw2x⟩ : ∃ wx, wx = w2.setCell ⟨w.heap.size + 2, 2, none⟩ (.int .u32 (vl g0)) := ⟨_, rfl⟩; have HF2 := Lib.hid (show Var w2x w.heap.size 29 [.int .i64 kd, .int .u32 (vl a), .int .u32 (vl b), .string B] by rw [hw2x]; exact Var.othr2 vf ⟨w.heap.size + 2, 2, none⟩ _ (by simp only; omega)); have HR2 := Lib.hid (show Var w2x (w.heap.size + 1) 46 [.int .u32 0, .int .u32 0, .int .u32 0, .int .u32 0, .int .u32 0, .int .u32 0] by rw [hw2x]; exact Var.othr2 vr ⟨w.heap.size + 2, 2, none⟩ _ (by simp only; omega)); have HS2 := Lib.hid (show Var w2x (w.heap.size + 2) 46 [.int .u32 (vl a), .int .u32 (vl b), .int .u32 (vl g0), .int .u32 0, .int .u32 0, .int .u32 0] by rw [hw2x]; exact vs.set 2 (.int .u32 (vl g0))); have HB2 := Lib.hid (show Below w.heap.size w w2x by rw [hw2x]; exact (bel2 HB1.out hbel).setCell (p := ⟨w.heap.size + 2, 2, none⟩) (by simp only; omega) _); have sc0 := vs.cell (j := 2) rfl; have sf0 := vs.frozen 2; have fc0 := HF2.out.cell (j := 3) rfl; rw [hw2x] at fc0; clear hbel vf vr vs))
    | (go_at_call 88; ((with_reducible refine (HG1.out _).mono ?_); rintro e w3 ⟨rfl, bz⟩; have hbel : Below w2x.heap.size w2x w3 := (by rw [hw2x]; exact bz); clear bz; have vf := HF2.out.below hbel HF2.out.lt; have vr := HR2.out.below hbel HR2.out.lt; have vs := HS2.out.below hbel HS2.out.lt; obtain ⟨w3x, hw3x⟩ : ∃ wx, wx = w3.setCell ⟨w.heap.size + 2, 3, none⟩ (.int .u32 (vl g1)) := ⟨_, rfl⟩; have HF3 := Lib.hid (show Var w3x w.heap.size 29 [.int .i64 kd, .int .u32 (vl a), .int .u32 (vl b), .string B] by rw [hw3x]; exact Var.othr2 vf ⟨w.heap.size + 2, 3, none⟩ _ (by simp only; omega)); have HR3 := Lib.hid (show Var w3x (w.heap.size + 1) 46 [.int .u32 0, .int .u32 0, .int .u32 0, .int .u32 0, .int .u32 0, .int .u32 0] by rw [hw3x]; exact Var.othr2 vr ⟨w.heap.size + 2, 3, none⟩ _ (by simp only; omega)); have HS3 := Lib.hid (show Var w3x (w.heap.size + 2) 46 [.int .u32 (vl a), .int .u32 (vl b), .int .u32 (vl g0), .int .u32 (vl g1), .int .u32 0, .int .u32 0] by rw [hw3x]; exact vs.set 3 (.int .u32 (vl g1))); have HB3 := Lib.hid (show Below w.heap.size w w3x by rw [hw3x]; exact (bel2 HB2.out hbel).setCell (p := ⟨w.heap.size + 2, 3, none⟩) (by simp only; omega) _); have sc1 := vs.cell (j := 3) rfl; have sf1 := vs.frozen 3; have fc1 := HF3.out.cell (j := 3) rfl; rw [hw3x] at fc1; clear hbel vf vr vs))
    | (go_at_call 88; ((with_reducible refine (HG2.out _).mono ?_); rintro e w4 ⟨rfl, bz⟩; have hbel : Below w3x.heap.size w3x w4 := (by rw [hw3x]; exact bz); clear bz; have vf := HF3.out.below hbel HF3.out.lt; have vr := HR3.out.below hbel HR3.out.lt; have vs := HS3.out.below hbel HS3.out.lt; obtain ⟨w4x, hw4x⟩ : ∃ wx, wx = w4.setCell ⟨w.heap.size + 2, 4, none⟩ (.int .u32 (vl g2)) := ⟨_, rfl⟩; have HF4 := Lib.hid (show Var w4x w.heap.size 29 [.int .i64 kd, .int .u32 (vl a), .int .u32 (vl b), .string B] by rw [hw4x]; exact Var.othr2 vf ⟨w.heap.size + 2, 4, none⟩ _ (by simp only; omega)); have HR4 := Lib.hid (show Var w4x (w.heap.size + 1) 46 [.int .u32 0, .int .u32 0, .int .u32 0, .int .u32 0, .int .u32 0, .int .u32 0] by rw [hw4x]; exact Var.othr2 vr ⟨w.heap.size + 2, 4, none⟩ _ (by simp only; omega)); have HS4 := Lib.hid (show Var w4x (w.heap.size + 2) 46 [.int .u32 (vl a), .int .u32 (vl b), .int .u32 (vl g0), .int .u32 (vl g1), .int .u32 (vl g2), .int .u32 0] by rw [hw4x]; exact vs.set 4 (.int .u32 (vl g2))); have HB4 := Lib.hid (show Below w.heap.size w w4x by rw [hw4x]; exact (bel2 HB3.out hbel).setCell (p := ⟨w.heap.size + 2, 4, none⟩) (by simp only; omega) _); have sc2 := vs.cell (j := 4) rfl; have sf2 := vs.frozen 4; have fc2 := HF4.out.cell (j := 3) rfl; rw [hw4x] at fc2; clear hbel vf vr vs))
    | (go_at_call 88; ((with_reducible refine (HG3.out _).mono ?_); rintro e w5 ⟨rfl, bz⟩; have hbel : Below w4x.heap.size w4x w5 := (by rw [hw4x]; exact bz); clear bz; have vf := HF4.out.below hbel HF4.out.lt; have vr := HR4.out.below hbel HR4.out.lt; have vs := HS4.out.below hbel HS4.out.lt; obtain ⟨w5x, hw5x⟩ : ∃ wx, wx = w5.setCell ⟨w.heap.size + 2, 5, none⟩ (.int .u32 (vl g3)) := ⟨_, rfl⟩; have HF5 := Lib.hid (show Var w5x w.heap.size 29 [.int .i64 kd, .int .u32 (vl a), .int .u32 (vl b), .string B] by rw [hw5x]; exact Var.othr2 vf ⟨w.heap.size + 2, 5, none⟩ _ (by simp only; omega)); have HR5 := Lib.hid (show Var w5x (w.heap.size + 1) 46 [.int .u32 0, .int .u32 0, .int .u32 0, .int .u32 0, .int .u32 0, .int .u32 0] by rw [hw5x]; exact Var.othr2 vr ⟨w.heap.size + 2, 5, none⟩ _ (by simp only; omega)); have HS5 := Lib.hid (show Var w5x (w.heap.size + 2) 46 [.int .u32 (vl a), .int .u32 (vl b), .int .u32 (vl g0), .int .u32 (vl g1), .int .u32 (vl g2), .int .u32 (vl g3)] by rw [hw5x]; exact vs.set 5 (.int .u32 (vl g3))); have HB5 := Lib.hid (show Below w.heap.size w w5x by rw [hw5x]; exact (bel2 HB4.out hbel).setCell (p := ⟨w.heap.size + 2, 5, none⟩) (by simp only; omega) _); have sc3 := vs.cell (j := 5) rfl; have sf3 := vs.frozen 5; have sd0 := HS5.out.cell (j := 0) rfl; have sd1 := HS5.out.cell (j := 1) rfl; have sd2 := HS5.out.cell (j := 2) rfl; have sd3 := HS5.out.cell (j := 3) rfl; have sd4 := HS5.out.cell (j := 4) rfl; have sd5 := HS5.out.cell (j := 5) rfl; have rd0 := HR5.out.cell (j := 0) rfl; have rd1 := HR5.out.cell (j := 1) rfl; have rd2 := HR5.out.cell (j := 2) rfl; have rd3 := HR5.out.cell (j := 3) rfl; have rd4 := HR5.out.cell (j := 4) rfl; have rd5 := HR5.out.cell (j := 5) rfl; have rf0 := HR5.out.frozen 0; have rf1 := HR5.out.frozen 1; have rf2 := HR5.out.frozen 2; have rf3 := HR5.out.frozen 3; have rf4 := HR5.out.frozen 4; have rf5 := HR5.out.frozen 5; rw [hw5x] at sd0 rd0 rf0 sd1 rd1 rf1 sd2 rd2 rf2 sd3 rd3 rf3 sd4 rd4 rf4 sd5 rd5 rf5; clear hbel vf vr vs)))
  have vr := HR5.out
  have vr := vr.set 0 (.int .u32 (vl a))
  have vr := vr.set 1 (.int .u32 (vl b))
  have vr := vr.set 2 (.int .u32 (vl g0))
  have vr := vr.set 3 (.int .u32 (vl g1))
  have vr := vr.set 4 (.int .u32 (vl g2))
  have vr := vr.set 5 (.int .u32 (vl g3))
  have z0 := vr.cell (j := 0) rfl
  have z1 := vr.cell (j := 1) rfl
  have z2 := vr.cell (j := 2) rfl
  have z3 := vr.cell (j := 3) rfl
  have z4 := vr.cell (j := 4) rfl
  have z5 := vr.cell (j := 5) rfl
  rw [hw5x] at z0 z1 z2 z3 z4 z5
  clear sd0 sd1 sd2 sd3 sd4 sd5 rd0 rd1 rd2 rd3 rd4 rd5 rf0 rf1 rf2 rf3 rf4 rf5 vr
  refine bodyPost_ret (v := .agg #[.int .u32 (vl a), .int .u32 (vl b), .int .u32 (vl g0), .int .u32 (vl g1), .int .u32 (vl g2), .int .u32 (vl g3)]) (by simp [results, Tryz.results74, go_sem, z0, z1, z2, z3, z4, z5]) rfl ?_
  have hb := HB5.out
  rw [hw5x] at hb
  exact ⟨rfl, (((((hb.setCell (p := ⟨w.heap.size + 1, 0, none⟩) (by simp only; omega) _).setCell (p := ⟨w.heap.size + 1, 1, none⟩) (by simp only; omega) _).setCell (p := ⟨w.heap.size + 1, 2, none⟩) (by simp only; omega) _).setCell (p := ⟨w.heap.size + 1, 3, none⟩) (by simp only; omega) _).setCell (p := ⟨w.heap.size + 1, 4, none⟩) (by simp only; omega) _).setCell (p := ⟨w.heap.size + 1, 5, none⟩) (by simp only; omega) _⟩
set_option maxRecDepth 100000 in
set_option maxHeartbeats 8000000 in
theorem sealBody_any (s p v f u z : W) (w : World) : Calls Tryz.prog 69 #[sealV s p v f u z] w fun e' w' => e' = .returned (.string (bs (four v f u z))) ∧ Below w.heap.size w w' := by
  have HPv := Lib.hid (fun w => Crc.put_any v w)
  obtain ⟨Tv, hTv⟩ : ∃ T, T = putS v := ⟨_, rfl⟩
  rw [← hTv] at HPv
  have sv : Tv.size = 4 := by rw [hTv]; rfl
  have HPf := Lib.hid (fun w => Crc.put_any f w)
  obtain ⟨Tf, hTf⟩ : ∃ T, T = putS f := ⟨_, rfl⟩
  rw [← hTf] at HPf
  have sf : Tf.size = 4 := by rw [hTf]; rfl
  have HPu := Lib.hid (fun w => Crc.put_any u w)
  obtain ⟨Tu, hTu⟩ : ∃ T, T = putS u := ⟨_, rfl⟩
  rw [← hTu] at HPu
  have su : Tu.size = 4 := by rw [hTu]; rfl
  have HPz := Lib.hid (fun w => Crc.put_any z w)
  obtain ⟨Tz, hTz⟩ : ∃ T, T = putS z := ⟨_, rfl⟩
  rw [← hTz] at HPz
  have sz : Tz.size = 4 := by rw [hTz]; rfl
  have HE := Lib.hid (show bs (four v f u z) = Tv ++ Tf ++ Tu ++ Tz by
    rw [hTv, hTf, hTu, hTz]
    apply ByteArray.ext
    simp only [ByteArray.data_append]
    unfold putS four bs
    simp)
  rw [HE.out]
  unfold sealV
  have HV := Lib.hid (Var.new w 46 [.int .u32 (vl s), .int .u32 (vl p), .int .u32 (vl v), .int .u32 (vl f), .int .u32 (vl u), .int .u32 (vl z)])
  clear hTv hTf hTu hTz
  go_enter Tryz.func69, Tryz.ntmps69
  go_wp2
  obtain ⟨w1, hw1⟩ : ∃ w1, w1 = w.alloc (.cells #[.int .u32 (vl s), .int .u32 (vl p), .int .u32 (vl v), .int .u32 (vl f), .int .u32 (vl u), .int .u32 (vl z)] 46) := ⟨_, rfl⟩
  have HB1 := Lib.hid (show Below w.heap.size w w1 by rw [hw1]; exact Geom.bel_alloc _ _)
  rw [show w.alloc (.cells ([.int .u32 (vl s), .int .u32 (vl p), .int .u32 (vl v), .int .u32 (vl f), .int .u32 (vl u), .int .u32 (vl z)] : List Value).toArray 46) = w1 from hw1.symm] at HV
  rw [← hw1]
  clear hw1
  refine wp_region_is [3, 4, 5, 6, 7, 8, 9, 10, 11, 12, 13, 14, 15, 16, 17, 2] (fun w' => Below w1.heap.size w1 w')
    [.pointer (some ⟨w.heap.size, 2, none⟩), .int .u32 (vl v), .string Tv, .pointer (some ⟨w.heap.size, 3, none⟩), .int .u32 (vl f), .string Tf, .string (Tv ++ Tf), .pointer (some ⟨w.heap.size, 4, none⟩), .int .u32 (vl u), .string Tu, .string (Tv ++ Tf ++ Tu), .pointer (some ⟨w.heap.size, 5, none⟩), .int .u32 (vl z), .string Tz, .string (Tv ++ Tf ++ Tu ++ Tz), .string (Tv ++ Tf ++ Tu ++ Tz)] (by kernel_rfl) (by kernel_rfl) rfl (by decide) (by simp) (Below.refl _ _).drew ?each ?done
  case each =>
    simp only [Each]
    repeat' (first | exact trivial | refine And.intro ?_ ?_)
    all_goals
      intro ys wx hBx hdeps
      simp only [Deps, Region.binds, List.getD_cons_zero, List.getD_cons_succ, forall_const, and_true] at hdeps
      have q2 := (HV.out.below hBx HV.out.lt).cell (j := 2) rfl
      have q3 := (HV.out.below hBx HV.out.lt).cell (j := 3) rfl
      have q4 := (HV.out.below hBx HV.out.lt).cell (j := 4) rfl
      have q5 := (HV.out.below hBx HV.out.lt).cell (j := 5) rfl
      simp only [hdeps, fill, List.foldl_cons, List.foldl_nil, Act.put, List.setIfInBounds_toArray, List.set_cons_succ, List.set_cons_zero]
      first
        | (go_wp2_with fail; exact ⟨_, rfl, rfl, hBx, Below.refl _ _⟩)
        | (go_wp2_with (go_at_call 72; (with_reducible refine (HPv.out _).mono ?_); rintro e w3 ⟨rfl, hm⟩); exact ⟨_, rfl, rfl, hBx.trans (hm.mono hBx.size), hm⟩)
        | (go_wp2_with (go_at_call 72; (with_reducible refine (HPf.out _).mono ?_); rintro e w3 ⟨rfl, hm⟩); exact ⟨_, rfl, rfl, hBx.trans (hm.mono hBx.size), hm⟩)
        | (go_wp2_with (go_at_call 72; (with_reducible refine (HPu.out _).mono ?_); rintro e w3 ⟨rfl, hm⟩); exact ⟨_, rfl, rfl, hBx.trans (hm.mono hBx.size), hm⟩)
        | (go_wp2_with (go_at_call 72; (with_reducible refine (HPz.out _).mono ?_); rintro e w3 ⟨rfl, hm⟩); exact ⟨_, rfl, rfl, hBx.trans (hm.mono hBx.size), hm⟩)
  case done =>
    intro ys wx hBx hV
    have h2 : ys 2 = .string (Tv ++ Tf ++ Tu ++ Tz) := hV 15 (by decide)
    simp only [h2, fill, List.drop_succ_cons, List.drop_zero, List.foldl_cons, List.foldl_nil, Act.put, List.setIfInBounds_toArray, List.set_cons_succ, List.set_cons_zero]
    go_wp2
    go_ret
    exact ⟨rfl, bel2 HB1.out hBx⟩
end Go.Proofs.YtligapgjdpdihaaGreatDoor.Piece
/-
  What package piece's Of answers.
-/
set_option linter.unusedVariables false
set_option linter.unusedSimpArgs false
namespace Go.Proofs.YtligapgjdpdihaaGreatDoor.Piece
open Go.RowKit
open CrcM (W)
open Crc (le4 sumOf vl wd putS)
open Flash (bs bs_size bs_list list_bs)
open Go.Proofs.YtligapgjdpdihaaGreatDoor.Frame (Fr zeroF fV bel2 below_drewN)
open Tup Bytes Own
open Go.Proofs.YtligapgjdpdihaaGreatDoor.Region (fill Then Deps Each wp_region_is wp_region_is_tail wp_region_each wp_region_tail)
theorem okSeal {a b : W} {l : List UInt8} (h : ((l.length : Int) == 16) = true) : sealPR a b (getZ l 0) (getZ l 4) (getZ l 12) = (isSeqB a && sealR a b l) := by
  have hl : l.length = 16 := by rw [beq_iff_eq] at h; omega
  have hb := Crc.vl_range b
  have e0 : vl (getZ l 0) = le4 l 0 := by unfold getZ; rw [if_pos (by omega), wd_le4]
  have e4 : vl (getZ l 4) = le4 l 4 := by unfold getZ; rw [if_pos (by omega), wd_le4]
  have e12 : vl (getZ l 12) = le4 l 12 := by unfold getZ; rw [if_pos (by omega), wd_le4]
  have p12 : 0 ≤ le4 l 12 := by rw [← wd_le4]; exact (Crc.vl_range _).1
  unfold sealPR sealR
  rw [e0, e4, e12, h, neI, neI]
  have q1 : decide (0 < vl b) = !decide (vl b = 0) := by rw [← decide_not, decide_eq_decide]; omega
  have q2 : decide (0 < le4 l 12) = !decide (le4 l 12 = 0) := by rw [← decide_not, decide_eq_decide]; omega
  rw [q1, q2]
  cases isSeqB a <;> cases decide (vl b = 0) <;> cases decide (le4 l 0 < vl a) <;> cases decide (1 ≤ le4 l 4) <;> cases decide (le4 l 4 ≤ vl a) <;> cases decide (le4 l 12 = 0) <;> rfl
theorem okFloor {a : W} {l : List UInt8} (h : ((l.length : Int) == 4) = true) : floorPR a (getZ l 0) = (isSeqB a && floorR a l) := by
  have hl : l.length = 4 := by rw [beq_iff_eq] at h; omega
  have e0 : vl (getZ l 0) = le4 l 0 := by unfold getZ; rw [if_pos (by omega), wd_le4]
  unfold floorPR floorR
  rw [e0, h]
  rfl
theorem rightS {a b : W} {l : List UInt8} (h : ((l.length : Int) == 16) = true) : pieceR ⟨3, a, b, l⟩ = sealPR a b (getZ l 0) (getZ l 4) (getZ l 12) := by rw [okSeal h]; rfl
theorem rightS_not {a b : W} {l : List UInt8} (h : ((l.length : Int) == 16) = false) : pieceR ⟨3, a, b, l⟩ = false := by
  show (isSeqB a && sealR a b l) = false
  unfold sealR; rw [h]; cases isSeqB a <;> cases vl b != 0 <;> rfl
theorem rightF {a b : W} {l : List UInt8} (h : ((l.length : Int) == 4) = true) : pieceR ⟨4, a, b, l⟩ = floorPR a (getZ l 0) := by rw [okFloor h]; rfl
theorem rightF_not {a b : W} {l : List UInt8} (h : ((l.length : Int) == 4) = false) : pieceR ⟨4, a, b, l⟩ = false := by
  show (isSeqB a && floorR a l) = false
  unfold floorR; rw [h]; cases isSeqB a <;> rfl
theorem getZ_at {l : List UInt8} {k : Nat} (h : k + 4 ≤ l.length) : getZ l k = wd (le4 l k) := by unfold getZ; rw [if_pos h]
theorem ofF_val {f : Fr} {p : Pc} (h : pieceR f = true) (hp : pcOf f = p) : ofF f = (p, 0) := by rw [ofF_ok h, hp]
set_option maxRecDepth 100000 in
set_option maxHeartbeats 8000000 in
theorem of_head (a b : W) (body : List UInt8) (w : World) : Calls Tryz.prog 40 #[fV ⟨1, a, b, body⟩] w fun e w' => e = .returned (.tuple #[pcV (ofF ⟨1, a, b, body⟩).1, .int .i64 ((ofF ⟨1, a, b, body⟩).2 : Int)]) ∧ Below w.heap.size w w' := by
  have HR := Lib.hid (fun w => headRight_any a b w)
  have HE := Lib.hid (show pieceR ⟨1, a, b, body⟩ = (isSeqB a && body.isEmpty) from rfl)
  have HY : Hid (pieceR ⟨1, a, b, body⟩ = true → ofF ⟨1, a, b, body⟩ = (.head a b, 0)) := fun h => ofF_val h rfl
  have HN : Hid (pieceR ⟨1, a, b, body⟩ = false → ofF ⟨1, a, b, body⟩ = (.none, 2)) := fun h => ofF_not h
  generalize ofF ⟨1, a, b, body⟩ = r at *
  unfold headV at HR
  unfold fV
  simp only
  have hem := bs_empty body
  have hz : ((bs body).size : Int) = (body.length : Int) := by rw [bs_size]
  obtain ⟨B, hB⟩ : ∃ B, B = bs body := ⟨_, rfl⟩
  rw [← hB] at hem hz ⊢
  clear hB
  have hsz1 : (w.alloc (.cells #[.int .i64 1, .int .u32 (vl a), .int .u32 (vl b), .string B] 29)).heap.size = w.heap.size + 1 := by simp
  obtain ⟨w1, hw1⟩ : ∃ w1, w1 = (w.alloc (.cells #[.int .i64 1, .int .u32 (vl a), .int .u32 (vl b), .string B] 29)).alloc (.cells #[.int .u32 (vl a), .int .u32 (vl b)] 108) := ⟨_, rfl⟩
  have HB1 := Lib.hid (show Below w.heap.size w w1 by rw [hw1]; exact bel2 (Geom.bel_alloc _ _) (Geom.bel_alloc _ _))
  have HF1 := Lib.hid (show Var w1 w.heap.size 29 [.int .i64 1, .int .u32 (vl a), .int .u32 (vl b), .string B] by rw [hw1]; exact (Var.new w _ _).alloc _)
  have HP1 := Lib.hid (show Var w1 (w.heap.size + 1) 108 [.int .u32 (vl a), .int .u32 (vl b)] by
    have := Var.new (w.alloc (.cells #[.int .i64 1, .int .u32 (vl a), .int .u32 (vl b), .string B] 29)) 108 [.int .u32 (vl a), .int .u32 (vl b)]
    rw [hsz1] at this
    rw [hw1]; exact this)
  generalize isSeqB a = q at *
  generalize body.isEmpty = z at *
  generalize pieceR ⟨1, a, b, body⟩ = pr at *
  have hc : (z = true ∧ q = true) ∨ (z = true ∧ q = false) ∨ z = false := by cases z <;> cases q <;> simp
  rcases hc with ⟨rfl, rfl⟩ | ⟨rfl, rfl⟩ | rfl
  case inl =>
    obtain rfl := HY.out HE.out
    show Calls Tryz.prog _ _ _ fun e w' => e = .returned (.tuple #[.iface 108 (.agg #[.int .u32 (vl a), .int .u32 (vl b)]), .int .i64 0]) ∧ Below w.heap.size w w'
    go_enter Tryz.func40, Tryz.ntmps40
    go_wp2_with (go_at_call 63; ((with_reducible refine (HR.out _).mono ?_); rintro e w5 ⟨rfl, bz⟩; have hbel : Below w1.heap.size w1 w5 := (by rw [hw1]; exact bz); have BW5 := Lib.hid (bel2 HB1.out hbel); have q0 := (HP1.out.below hbel HP1.out.lt).cell (j := 0) rfl; have q1 := (HP1.out.below hbel HP1.out.lt).cell (j := 1) rfl; clear hbel bz))
    go_ret2
    exact ⟨rfl, BW5.out⟩
  case inr.inl =>
    obtain rfl := HN.out HE.out
    show Calls Tryz.prog _ _ _ fun e w' => e = .returned (.tuple #[.nilIface, .int .i64 2]) ∧ Below w.heap.size w w'
    go_enter Tryz.func40, Tryz.ntmps40
    go_wp2_with (go_at_call 63; ((with_reducible refine (HR.out _).mono ?_); rintro e w5 ⟨rfl, bz⟩; have hbel : Below w1.heap.size w1 w5 := (by rw [hw1]; exact bz); have BW5 := Lib.hid (bel2 HB1.out hbel); have q0 := (HP1.out.below hbel HP1.out.lt).cell (j := 0) rfl; have q1 := (HP1.out.below hbel HP1.out.lt).cell (j := 1) rfl; clear hbel bz))
    go_ret2
    exact ⟨rfl, BW5.out⟩
  case inr.inr =>
    obtain rfl := HN.out (by rw [HE.out]; simp)
    show Calls Tryz.prog _ _ _ fun e w' => e = .returned (.tuple #[.nilIface, .int .i64 2]) ∧ Below w.heap.size w w'
    go_enter Tryz.func40, Tryz.ntmps40
    go_wp2
    go_ret2
    exact ⟨rfl, bel2 (Geom.bel_alloc _ _) (Geom.bel_alloc _ _)⟩
set_option maxRecDepth 100000 in
set_option maxHeartbeats 8000000 in
theorem of_part (a b : W) (body : List UInt8) (w : World) : Calls Tryz.prog 40 #[fV ⟨2, a, b, body⟩] w fun e w' => e = .returned (.tuple #[pcV (ofF ⟨2, a, b, body⟩).1, .int .i64 ((ofF ⟨2, a, b, body⟩).2 : Int)]) ∧ Below w.heap.size w w' := by
  have HR := Lib.hid (fun w => partRight_any a b body w)
  have HE := Lib.hid (show pieceR ⟨2, a, b, body⟩ = partR a body from rfl)
  have HY : Hid (pieceR ⟨2, a, b, body⟩ = true → ofF ⟨2, a, b, body⟩ = (.part a b body, 0)) := fun h => ofF_val h rfl
  have HN : Hid (pieceR ⟨2, a, b, body⟩ = false → ofF ⟨2, a, b, body⟩ = (.none, 2)) := fun h => ofF_not h
  generalize ofF ⟨2, a, b, body⟩ = r at *
  have HV := Lib.hid (show pcV (.part a b body) = .iface 81 (.agg #[.int .u32 (vl a), .int .u32 (vl b), .string (bs body)]) from rfl)
  unfold partV at HR
  unfold fV
  simp only
  obtain ⟨B, hB⟩ : ∃ B, B = bs body := ⟨_, rfl⟩
  rw [← hB] at HR HV ⊢
  clear hB
  have hsz1 : (w.alloc (.cells #[.int .i64 2, .int .u32 (vl a), .int .u32 (vl b), .string B] 29)).heap.size = w.heap.size + 1 := by simp
  obtain ⟨w1, hw1⟩ : ∃ w1, w1 = (w.alloc (.cells #[.int .i64 2, .int .u32 (vl a), .int .u32 (vl b), .string B] 29)).alloc (.cells #[.int .u32 (vl a), .int .u32 (vl b), .string B] 81) := ⟨_, rfl⟩
  have HB1 := Lib.hid (show Below w.heap.size w w1 by rw [hw1]; exact bel2 (Geom.bel_alloc _ _) (Geom.bel_alloc _ _))
  have HF1 := Lib.hid (show Var w1 w.heap.size 29 [.int .i64 2, .int .u32 (vl a), .int .u32 (vl b), .string B] by rw [hw1]; exact (Var.new w _ _).alloc _)
  have HP1 := Lib.hid (show Var w1 (w.heap.size + 1) 81 [.int .u32 (vl a), .int .u32 (vl b), .string B] by
    have := Var.new (w.alloc (.cells #[.int .i64 2, .int .u32 (vl a), .int .u32 (vl b), .string B] 29)) 81 [.int .u32 (vl a), .int .u32 (vl b), .string B]
    rw [hsz1] at this
    rw [hw1]; exact this)
  generalize partR a body = q at *
  generalize pieceR ⟨2, a, b, body⟩ = pr at *
  cases q
  case true =>
    obtain rfl := HY.out HE.out
    simp only [HV.out]
    show Calls Tryz.prog _ _ _ fun e w' => e = .returned (.tuple #[.iface 81 (.agg #[.int .u32 (vl a), .int .u32 (vl b), .string B]), .int .i64 0]) ∧ Below w.heap.size w w'
    go_enter Tryz.func40, Tryz.ntmps40
    go_wp2_with (go_at_call 65; ((with_reducible refine (HR.out _).mono ?_); rintro e w5 ⟨rfl, bz⟩; have hbel : Below w1.heap.size w1 w5 := (by rw [hw1]; exact bz); have BW5 := Lib.hid (bel2 HB1.out hbel); have q0 := (HP1.out.below hbel HP1.out.lt).cell (j := 0) rfl; have q1 := (HP1.out.below hbel HP1.out.lt).cell (j := 1) rfl; have q2 := (HP1.out.below hbel HP1.out.lt).cell (j := 2) rfl; clear hbel bz))
    go_ret2
    exact ⟨rfl, BW5.out⟩
  case false =>
    obtain rfl := HN.out HE.out
    show Calls Tryz.prog _ _ _ fun e w' => e = .returned (.tuple #[.nilIface, .int .i64 2]) ∧ Below w.heap.size w w'
    go_enter Tryz.func40, Tryz.ntmps40
    go_wp2_with (go_at_call 65; ((with_reducible refine (HR.out _).mono ?_); rintro e w5 ⟨rfl, bz⟩; have hbel : Below w1.heap.size w1 w5 := (by rw [hw1]; exact bz); have BW5 := Lib.hid (bel2 HB1.out hbel); have q0 := (HP1.out.below hbel HP1.out.lt).cell (j := 0) rfl; have q1 := (HP1.out.below hbel HP1.out.lt).cell (j := 1) rfl; have q2 := (HP1.out.below hbel HP1.out.lt).cell (j := 2) rfl; clear hbel bz))
    go_ret2
    exact ⟨rfl, BW5.out⟩
set_option maxRecDepth 100000 in
set_option maxHeartbeats 8000000 in
theorem of_fin (a b : W) (body : List UInt8) (hs : body.length ≤ maxLen) (w : World) : Calls Tryz.prog 40 #[fV ⟨3, a, b, body⟩] w fun e w' => e = .returned (.tuple #[pcV (ofF ⟨3, a, b, body⟩).1, .int .i64 ((ofF ⟨3, a, b, body⟩).2 : Int)]) ∧ Below w.heap.size w w' := by
  have HO := Lib.hid (fun w => sealOf_any ⟨3, a, b, body⟩ hs w)
  have HR := Lib.hid (fun w => sealRight_any a b (getZ body 0) (getZ body 4) (getZ body 8) (getZ body 12) w)
  have HE : Hid (((body.length : Int) == 16) = true → pieceR ⟨3, a, b, body⟩ = sealPR a b (getZ body 0) (getZ body 4) (getZ body 12)) := fun h => rightS h
  have HM : Hid (((body.length : Int) == 16) = false → pieceR ⟨3, a, b, body⟩ = false) := fun h => rightS_not h
  have HY : Hid (((body.length : Int) == 16) = true → pieceR ⟨3, a, b, body⟩ = true → ofF ⟨3, a, b, body⟩ = (.fin a b (getZ body 0) (getZ body 4) (getZ body 8) (getZ body 12), 0)) := fun h hp => ofF_val hp (by
    have hl : body.length = 16 := by rw [beq_iff_eq] at h; omega
    simp only [pcOf, if_true, if_neg (show ¬ (3 : Int) = 1 by decide), if_neg (show ¬ (3 : Int) = 2 by decide)]
    simp only [getZ_at (show 0 + 4 ≤ body.length by omega), getZ_at (show 4 + 4 ≤ body.length by omega), getZ_at (show 8 + 4 ≤ body.length by omega), getZ_at (show 12 + 4 ≤ body.length by omega)])
  have HN : Hid (pieceR ⟨3, a, b, body⟩ = false → ofF ⟨3, a, b, body⟩ = (.none, 2)) := fun h => ofF_not h
  generalize ofF ⟨3, a, b, body⟩ = r at *
  generalize pieceR ⟨3, a, b, body⟩ = pr at *
  generalize sealPR a b (getZ body 0) (getZ body 4) (getZ body 12) = q at *
  unfold sealOfF sealV at HO
  unfold sealV at HR
  unfold fV at HO ⊢
  simp only at HO ⊢
  generalize getZ body 0 = g0 at *
  generalize getZ body 4 = g4 at *
  generalize getZ body 8 = g8 at *
  generalize getZ body 12 = g12 at *
  have hz : ((bs body).size : Int) = (body.length : Int) := by rw [bs_size]
  obtain ⟨B, hB⟩ : ∃ B, B = bs body := ⟨_, rfl⟩
  rw [← hB] at HO hz ⊢
  obtain ⟨n, hn⟩ : ∃ n : Nat, n = body.length := ⟨_, rfl⟩
  rw [← hn] at hz HE HM HY
  clear hB hn hs
  obtain ⟨w1, hw1⟩ : ∃ w1, w1 = w.alloc (.cells #[.int .i64 3, .int .u32 (vl a), .int .u32 (vl b), .string B] 29) := ⟨_, rfl⟩
  have HB1 := Lib.hid (show Below w.heap.size w w1 by rw [hw1]; exact Geom.bel_alloc _ _)
  have HF1 := Lib.hid (show Var w1 w.heap.size 29 [.int .i64 3, .int .u32 (vl a), .int .u32 (vl b), .string B] by rw [hw1]; exact Var.new w _ _)
  have hc : (((n : Int) == 16) = true ∧ q = true) ∨ (((n : Int) == 16) = true ∧ q = false) ∨ ((n : Int) == 16) = false := by cases (n : Int) == 16 <;> cases q <;> simp
  rcases hc with ⟨t1, rfl⟩ | ⟨t1, rfl⟩ | t1
  case inl =>
    obtain rfl := HY.out t1 (HE.out t1)
    show Calls Tryz.prog _ _ _ fun e w' => e = .returned (.tuple #[.iface 46 (.agg #[.int .u32 (vl a), .int .u32 (vl b), .int .u32 (vl g0), .int .u32 (vl g4), .int .u32 (vl g8), .int .u32 (vl g12)]), .int .i64 0]) ∧ Below w.heap.size w w'
    go_enter Tryz.func40, Tryz.ntmps40
    go_wp2_with (first | (go_at_call 74; ((with_reducible refine (HO.out _).mono ?_); rintro e w3 ⟨rfl, bz⟩; have hbel : Below w1.heap.size w1 w3 := (by rw [hw1]; exact bz); obtain ⟨w4, hw4⟩ : ∃ w4, w4 = w3.alloc (.cells #[.int .u32 (vl a), .int .u32 (vl b), .int .u32 (vl g0), .int .u32 (vl g4), .int .u32 (vl g8), .int .u32 (vl g12)] 46) := ⟨_, rfl⟩; have BW4 := Lib.hid (show Below w.heap.size w w4 from by rw [hw4]; exact bel2 (bel2 HB1.out hbel) (Geom.bel_alloc _ _)); have HP4 := Lib.hid (show Var w4 w3.heap.size 46 [.int .u32 (vl a), .int .u32 (vl b), .int .u32 (vl g0), .int .u32 (vl g4), .int .u32 (vl g8), .int .u32 (vl g12)] by rw [hw4]; exact Var.new _ _ _); have vf := (HF1.out.below hbel HF1.out.lt).alloc (.cells #[.int .u32 (vl a), .int .u32 (vl b), .int .u32 (vl g0), .int .u32 (vl g4), .int .u32 (vl g8), .int .u32 (vl g12)] 46); have x3 := vf.cell (j := 3) rfl; clear hbel bz vf)) | (go_at_call 67; ((with_reducible refine (HR.out _).mono ?_); rintro e w5 ⟨rfl, bz⟩; have hbel : Below w4.heap.size w4 w5 := (by rw [hw4]; exact bz); have BW5 := Lib.hid (bel2 BW4.out hbel); have q0 := (HP4.out.below hbel HP4.out.lt).cell (j := 0) rfl; have q1 := (HP4.out.below hbel HP4.out.lt).cell (j := 1) rfl; have q2 := (HP4.out.below hbel HP4.out.lt).cell (j := 2) rfl; have q3 := (HP4.out.below hbel HP4.out.lt).cell (j := 3) rfl; have q4 := (HP4.out.below hbel HP4.out.lt).cell (j := 4) rfl; have q5 := (HP4.out.below hbel HP4.out.lt).cell (j := 5) rfl; clear hbel bz)))
    go_ret2
    exact ⟨rfl, BW5.out⟩
  case inr.inl =>
    obtain rfl := HN.out (HE.out t1)
    show Calls Tryz.prog _ _ _ fun e w' => e = .returned (.tuple #[.nilIface, .int .i64 2]) ∧ Below w.heap.size w w'
    go_enter Tryz.func40, Tryz.ntmps40
    go_wp2_with (first | (go_at_call 74; ((with_reducible refine (HO.out _).mono ?_); rintro e w3 ⟨rfl, bz⟩; have hbel : Below w1.heap.size w1 w3 := (by rw [hw1]; exact bz); obtain ⟨w4, hw4⟩ : ∃ w4, w4 = w3.alloc (.cells #[.int .u32 (vl a), .int .u32 (vl b), .int .u32 (vl g0), .int .u32 (vl g4), .int .u32 (vl g8), .int .u32 (vl g12)] 46) := ⟨_, rfl⟩; have BW4 := Lib.hid (show Below w.heap.size w w4 from by rw [hw4]; exact bel2 (bel2 HB1.out hbel) (Geom.bel_alloc _ _)); have HP4 := Lib.hid (show Var w4 w3.heap.size 46 [.int .u32 (vl a), .int .u32 (vl b), .int .u32 (vl g0), .int .u32 (vl g4), .int .u32 (vl g8), .int .u32 (vl g12)] by rw [hw4]; exact Var.new _ _ _); have vf := (HF1.out.below hbel HF1.out.lt).alloc (.cells #[.int .u32 (vl a), .int .u32 (vl b), .int .u32 (vl g0), .int .u32 (vl g4), .int .u32 (vl g8), .int .u32 (vl g12)] 46); have x3 := vf.cell (j := 3) rfl; clear hbel bz vf)) | (go_at_call 67; ((with_reducible refine (HR.out _).mono ?_); rintro e w5 ⟨rfl, bz⟩; have hbel : Below w4.heap.size w4 w5 := (by rw [hw4]; exact bz); have BW5 := Lib.hid (bel2 BW4.out hbel); have q0 := (HP4.out.below hbel HP4.out.lt).cell (j := 0) rfl; have q1 := (HP4.out.below hbel HP4.out.lt).cell (j := 1) rfl; have q2 := (HP4.out.below hbel HP4.out.lt).cell (j := 2) rfl; have q3 := (HP4.out.below hbel HP4.out.lt).cell (j := 3) rfl; have q4 := (HP4.out.below hbel HP4.out.lt).cell (j := 4) rfl; have q5 := (HP4.out.below hbel HP4.out.lt).cell (j := 5) rfl; clear hbel bz)))
    go_ret2
    exact ⟨rfl, BW5.out⟩
  case inr.inr =>
    obtain rfl := HN.out (HM.out t1)
    show Calls Tryz.prog _ _ _ fun e w' => e = .returned (.tuple #[.nilIface, .int .i64 2]) ∧ Below w.heap.size w w'
    go_enter Tryz.func40, Tryz.ntmps40
    go_wp2_with (go_at_call 74; ((with_reducible refine (HO.out _).mono ?_); rintro e w3 ⟨rfl, bz⟩; have hbel : Below w1.heap.size w1 w3 := (by rw [hw1]; exact bz); obtain ⟨w4, hw4⟩ : ∃ w4, w4 = w3.alloc (.cells #[.int .u32 (vl a), .int .u32 (vl b), .int .u32 (vl g0), .int .u32 (vl g4), .int .u32 (vl g8), .int .u32 (vl g12)] 46) := ⟨_, rfl⟩; have BW4 := Lib.hid (show Below w.heap.size w w4 from by rw [hw4]; exact bel2 (bel2 HB1.out hbel) (Geom.bel_alloc _ _)); have HP4 := Lib.hid (show Var w4 w3.heap.size 46 [.int .u32 (vl a), .int .u32 (vl b), .int .u32 (vl g0), .int .u32 (vl g4), .int .u32 (vl g8), .int .u32 (vl g12)] by rw [hw4]; exact Var.new _ _ _); have vf := (HF1.out.below hbel HF1.out.lt).alloc (.cells #[.int .u32 (vl a), .int .u32 (vl b), .int .u32 (vl g0), .int .u32 (vl g4), .int .u32 (vl g8), .int .u32 (vl g12)] 46); have x3 := vf.cell (j := 3) rfl; clear hbel bz vf))
    go_ret2
    rw [← hw4]
    exact ⟨rfl, BW4.out⟩
set_option maxRecDepth 100000 in
set_option maxHeartbeats 8000000 in
theorem of_floor (a b : W) (body : List UInt8) (hs : body.length ≤ maxLen) (w : World) : Calls Tryz.prog 40 #[fV ⟨4, a, b, body⟩] w fun e w' => e = .returned (.tuple #[pcV (ofF ⟨4, a, b, body⟩).1, .int .i64 ((ofF ⟨4, a, b, body⟩).2 : Int)]) ∧ Below w.heap.size w w' := by
  have HO := Lib.hid (fun w => floorOf_any ⟨4, a, b, body⟩ hs w)
  have HR := Lib.hid (fun w => floorRight_any a b (getZ body 0) w)
  have HE : Hid (((body.length : Int) == 4) = true → pieceR ⟨4, a, b, body⟩ = floorPR a (getZ body 0)) := fun h => rightF h
  have HM : Hid (((body.length : Int) == 4) = false → pieceR ⟨4, a, b, body⟩ = false) := fun h => rightF_not h
  have HY : Hid (((body.length : Int) == 4) = true → pieceR ⟨4, a, b, body⟩ = true → ofF ⟨4, a, b, body⟩ = (.floor a b (getZ body 0), 0)) := fun h hp => ofF_val hp (by
    have hl : body.length = 4 := by rw [beq_iff_eq] at h; omega
    simp only [pcOf, if_true, if_neg (show ¬ (4 : Int) = 1 by decide), if_neg (show ¬ (4 : Int) = 2 by decide), if_neg (show ¬ (4 : Int) = 3 by decide)]
    simp only [getZ_at (show 0 + 4 ≤ body.length by omega)])
  have HN : Hid (pieceR ⟨4, a, b, body⟩ = false → ofF ⟨4, a, b, body⟩ = (.none, 2)) := fun h => ofF_not h
  generalize ofF ⟨4, a, b, body⟩ = r at *
  generalize pieceR ⟨4, a, b, body⟩ = pr at *
  generalize floorPR a (getZ body 0) = q at *
  unfold floorOfF floorV at HO
  unfold floorV at HR
  unfold fV at HO ⊢
  simp only at HO ⊢
  generalize getZ body 0 = g0 at *
  have hz : ((bs body).size : Int) = (body.length : Int) := by rw [bs_size]
  obtain ⟨B, hB⟩ : ∃ B, B = bs body := ⟨_, rfl⟩
  rw [← hB] at HO hz ⊢
  obtain ⟨n, hn⟩ : ∃ n : Nat, n = body.length := ⟨_, rfl⟩
  rw [← hn] at hz HE HM HY
  clear hB hn hs
  obtain ⟨w1, hw1⟩ : ∃ w1, w1 = w.alloc (.cells #[.int .i64 4, .int .u32 (vl a), .int .u32 (vl b), .string B] 29) := ⟨_, rfl⟩
  have HB1 := Lib.hid (show Below w.heap.size w w1 by rw [hw1]; exact Geom.bel_alloc _ _)
  have HF1 := Lib.hid (show Var w1 w.heap.size 29 [.int .i64 4, .int .u32 (vl a), .int .u32 (vl b), .string B] by rw [hw1]; exact Var.new w _ _)
  have hc : (((n : Int) == 4) = true ∧ q = true) ∨ (((n : Int) == 4) = true ∧ q = false) ∨ ((n : Int) == 4) = false := by cases (n : Int) == 4 <;> cases q <;> simp
  rcases hc with ⟨t1, rfl⟩ | ⟨t1, rfl⟩ | t1
  case inl =>
    obtain rfl := HY.out t1 (HE.out t1)
    show Calls Tryz.prog _ _ _ fun e w' => e = .returned (.tuple #[.iface 112 (.agg #[.int .u32 (vl a), .int .u32 (vl b), .int .u32 (vl g0)]), .int .i64 0]) ∧ Below w.heap.size w w'
    go_enter Tryz.func40, Tryz.ntmps40
    go_wp2_with (first | (go_at_call 75; ((with_reducible refine (HO.out _).mono ?_); rintro e w3 ⟨rfl, bz⟩; have hbel : Below w1.heap.size w1 w3 := (by rw [hw1]; exact bz); obtain ⟨w4, hw4⟩ : ∃ w4, w4 = w3.alloc (.cells #[.int .u32 (vl a), .int .u32 (vl b), .int .u32 (vl g0)] 112) := ⟨_, rfl⟩; have BW4 := Lib.hid (show Below w.heap.size w w4 from by rw [hw4]; exact bel2 (bel2 HB1.out hbel) (Geom.bel_alloc _ _)); have HP4 := Lib.hid (show Var w4 w3.heap.size 112 [.int .u32 (vl a), .int .u32 (vl b), .int .u32 (vl g0)] by rw [hw4]; exact Var.new _ _ _); have vf := (HF1.out.below hbel HF1.out.lt).alloc (.cells #[.int .u32 (vl a), .int .u32 (vl b), .int .u32 (vl g0)] 112); have x3 := vf.cell (j := 3) rfl; clear hbel bz vf)) | (go_at_call 70; ((with_reducible refine (HR.out _).mono ?_); rintro e w5 ⟨rfl, bz⟩; have hbel : Below w4.heap.size w4 w5 := (by rw [hw4]; exact bz); have BW5 := Lib.hid (bel2 BW4.out hbel); have q0 := (HP4.out.below hbel HP4.out.lt).cell (j := 0) rfl; have q1 := (HP4.out.below hbel HP4.out.lt).cell (j := 1) rfl; have q2 := (HP4.out.below hbel HP4.out.lt).cell (j := 2) rfl; clear hbel bz)))
    go_ret2
    exact ⟨rfl, BW5.out⟩
  case inr.inl =>
    obtain rfl := HN.out (HE.out t1)
    show Calls Tryz.prog _ _ _ fun e w' => e = .returned (.tuple #[.nilIface, .int .i64 2]) ∧ Below w.heap.size w w'
    go_enter Tryz.func40, Tryz.ntmps40
    go_wp2_with (first | (go_at_call 75; ((with_reducible refine (HO.out _).mono ?_); rintro e w3 ⟨rfl, bz⟩; have hbel : Below w1.heap.size w1 w3 := (by rw [hw1]; exact bz); obtain ⟨w4, hw4⟩ : ∃ w4, w4 = w3.alloc (.cells #[.int .u32 (vl a), .int .u32 (vl b), .int .u32 (vl g0)] 112) := ⟨_, rfl⟩; have BW4 := Lib.hid (show Below w.heap.size w w4 from by rw [hw4]; exact bel2 (bel2 HB1.out hbel) (Geom.bel_alloc _ _)); have HP4 := Lib.hid (show Var w4 w3.heap.size 112 [.int .u32 (vl a), .int .u32 (vl b), .int .u32 (vl g0)] by rw [hw4]; exact Var.new _ _ _); have vf := (HF1.out.below hbel HF1.out.lt).alloc (.cells #[.int .u32 (vl a), .int .u32 (vl b), .int .u32 (vl g0)] 112); have x3 := vf.cell (j := 3) rfl; clear hbel bz vf)) | (go_at_call 70; ((with_reducible refine (HR.out _).mono ?_); rintro e w5 ⟨rfl, bz⟩; have hbel : Below w4.heap.size w4 w5 := (by rw [hw4]; exact bz); have BW5 := Lib.hid (bel2 BW4.out hbel); have q0 := (HP4.out.below hbel HP4.out.lt).cell (j := 0) rfl; have q1 := (HP4.out.below hbel HP4.out.lt).cell (j := 1) rfl; have q2 := (HP4.out.below hbel HP4.out.lt).cell (j := 2) rfl; clear hbel bz)))
    go_ret2
    exact ⟨rfl, BW5.out⟩
  case inr.inr =>
    obtain rfl := HN.out (HM.out t1)
    show Calls Tryz.prog _ _ _ fun e w' => e = .returned (.tuple #[.nilIface, .int .i64 2]) ∧ Below w.heap.size w w'
    go_enter Tryz.func40, Tryz.ntmps40
    go_wp2_with (go_at_call 75; ((with_reducible refine (HO.out _).mono ?_); rintro e w3 ⟨rfl, bz⟩; have hbel : Below w1.heap.size w1 w3 := (by rw [hw1]; exact bz); obtain ⟨w4, hw4⟩ : ∃ w4, w4 = w3.alloc (.cells #[.int .u32 (vl a), .int .u32 (vl b), .int .u32 (vl g0)] 112) := ⟨_, rfl⟩; have BW4 := Lib.hid (show Below w.heap.size w w4 from by rw [hw4]; exact bel2 (bel2 HB1.out hbel) (Geom.bel_alloc _ _)); have HP4 := Lib.hid (show Var w4 w3.heap.size 112 [.int .u32 (vl a), .int .u32 (vl b), .int .u32 (vl g0)] by rw [hw4]; exact Var.new _ _ _); have vf := (HF1.out.below hbel HF1.out.lt).alloc (.cells #[.int .u32 (vl a), .int .u32 (vl b), .int .u32 (vl g0)] 112); have x3 := vf.cell (j := 3) rfl; clear hbel bz vf))
    go_ret2
    rw [← hw4]
    exact ⟨rfl, BW4.out⟩
set_option maxRecDepth 100000 in
set_option maxHeartbeats 8000000 in
theorem of_not (f : Fr) (hk : ¬ f.kind = 1 ∧ ¬ f.kind = 2 ∧ ¬ f.kind = 3 ∧ ¬ f.kind = 4) (w : World) : Calls Tryz.prog 40 #[fV f] w fun e w' => e = .returned (.tuple #[pcV (ofF f).1, .int .i64 ((ofF f).2 : Int)]) ∧ Below w.heap.size w w' := by
  have HN := Lib.hid (show ofF f = (.none, 2) from ofF_not (by
    unfold pieceR
    rw [if_neg hk.1, if_neg hk.2.1, if_neg hk.2.2.1, if_neg hk.2.2.2]; cases isSeqB f.a <;> rfl))
  rw [HN.out]
  obtain ⟨kd, a, b, body⟩ := f
  unfold fV
  simp only at hk ⊢
  show Calls Tryz.prog _ _ _ fun e w' => e = .returned (.tuple #[.nilIface, .int .i64 2]) ∧ Below w.heap.size w w'
  have q1 : (kd == 1) = false := by rw [eqI]; exact decide_eq_false hk.1
  have q2 : (kd == 2) = false := by rw [eqI]; exact decide_eq_false hk.2.1
  have q3 : (kd == 3) = false := by rw [eqI]; exact decide_eq_false hk.2.2.1
  have q4 : (kd == 4) = false := by rw [eqI]; exact decide_eq_false hk.2.2.2
  clear hk
  go_enter Tryz.func40, Tryz.ntmps40
  go_wp2
  go_ret2
  exact ⟨rfl, Geom.bel_alloc _ _⟩
theorem of_any (f : Fr) (hs : f.body.length ≤ maxLen) (w : World) : Calls Tryz.prog 40 #[fV f] w fun e w' => e = .returned (.tuple #[pcV (ofF f).1, .int .i64 ((ofF f).2 : Int)]) ∧ Below w.heap.size w w' := by
  by_cases h1 : f.kind = 1
  · obtain ⟨kd, a, b, body⟩ := f
    simp only at h1; subst h1; exact of_head a b body w
  by_cases h2 : f.kind = 2
  · obtain ⟨kd, a, b, body⟩ := f
    simp only at h2; subst h2; exact of_part a b body w
  by_cases h3 : f.kind = 3
  · obtain ⟨kd, a, b, body⟩ := f
    simp only at h3; subst h3; exact of_fin a b body hs w
  by_cases h4 : f.kind = 4
  · obtain ⟨kd, a, b, body⟩ := f
    simp only at h4; subst h4; exact of_floor a b body hs w
  exact of_not f ⟨h1, h2, h3, h4⟩ w
end Go.Proofs.YtligapgjdpdihaaGreatDoor.Piece
