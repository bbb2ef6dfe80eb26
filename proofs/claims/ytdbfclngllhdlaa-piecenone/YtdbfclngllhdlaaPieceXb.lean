/-
  What package piece's AsPart, AsSeal, AsFloor, sealOf and body answer.
-/
import Derived.Test.YtdbfclngllhdlaaPieceXa
set_option linter.unusedVariables false
set_option linter.unusedSimpArgs false
namespace Go.Proofs.Ytdbfclngllhdlaa.Piece
open Go.RowKit
open CrcM (W)
open Crc (le4 sumOf vl wd putS)
open Flash (bs bs_size bs_list list_bs)
open Go.Proofs.Ytdbfclngllhdlaa.Frame (Fr zeroF fV bel2 below_drewN)
open Tup Bytes Own
open Go.Proofs.Ytdbfclngllhdlaa.Region (fill Then Deps Each wp_region_is wp_region_is_tail wp_region_each wp_region_tail)
def asPartV : Pc → Value
  | .part s a t => partV s a t
  | _ => .agg #[.int .u32 0, .int .u32 0, .string ⟨#[]⟩]
def isPartP : Pc → Bool
  | .part _ _ _ => true
  | _ => false
set_option maxRecDepth 100000 in
set_option maxHeartbeats 8000000 in
theorem asPart_any (p : Pc) (w : World) : Calls Try.prog 14 #[pcV p] w fun e w' => e = .returned (.tuple #[asPartV p, .bool (isPartP p)]) ∧ Below w.heap.size w w' := by
  rcases p with _ | ⟨e, r⟩ | ⟨s, a, t⟩ | ⟨s, p, v, f, u, z⟩ | ⟨s, g, f⟩
  case none =>
    show Calls Try.prog 14 #[.nilIface] w fun e w' => e = .returned (.tuple #[.agg #[.int .u32 0, .int .u32 0, .string ⟨#[]⟩], .bool false]) ∧ Below w.heap.size w w'
    have hta := taPart_nil
    go_enter Try.func14, Try.ntmps14
    go_wp2
    refine bodyPost_ret (v := .tuple #[.agg #[.int .u32 0, .int .u32 0, .string ⟨#[]⟩], .bool false]) (by rw [results_cell_tmp rfl]; simp [go_sem]) rfl ?_
    exact ⟨rfl, bel2 (Geom.bel_alloc _ _) (Geom.bel_alloc _ _)⟩
  case head =>
    show Calls Try.prog 14 #[.iface 55 (.agg #[.int .u32 (vl e), .int .u32 (vl r)])] w fun e w' => e = .returned (.tuple #[.agg #[.int .u32 0, .int .u32 0, .string ⟨#[]⟩], .bool false]) ∧ Below w.heap.size w w'
    have hta := taPart_Head (.agg #[.int .u32 (vl e), .int .u32 (vl r)])
    go_enter Try.func14, Try.ntmps14
    go_wp2
    refine bodyPost_ret (v := .tuple #[.agg #[.int .u32 0, .int .u32 0, .string ⟨#[]⟩], .bool false]) (by rw [results_cell_tmp rfl]; simp [go_sem]) rfl ?_
    exact ⟨rfl, bel2 (Geom.bel_alloc _ _) (Geom.bel_alloc _ _)⟩
  case part =>
    show Calls Try.prog 14 #[.iface 39 (.agg #[.int .u32 (vl s), .int .u32 (vl a), .string (bs t)])] w fun e w' => e = .returned (.tuple #[.agg #[.int .u32 (vl s), .int .u32 (vl a), .string (bs t)], .bool true]) ∧ Below w.heap.size w w'
    have hta := taPart_Part (.agg #[.int .u32 (vl s), .int .u32 (vl a), .string (bs t)])
    obtain ⟨B, hB⟩ : ∃ B, B = bs t := ⟨_, rfl⟩
    rw [← hB] at hta ⊢
    clear hB
    go_enter Try.func14, Try.ntmps14
    go_wp2
    refine bodyPost_ret (v := .tuple #[.agg #[.int .u32 (vl s), .int .u32 (vl a), .string B], .bool true]) (by rw [results_cell_tmp rfl]; simp [go_sem]) rfl ?_
    exact ⟨rfl, bel2 (Geom.bel_alloc _ _) (Geom.bel_alloc _ _)⟩
  case fin =>
    show Calls Try.prog 14 #[.iface 43 (.agg #[.int .u32 (vl s), .int .u32 (vl p), .int .u32 (vl v), .int .u32 (vl f), .int .u32 (vl u), .int .u32 (vl z)])] w fun e w' => e = .returned (.tuple #[.agg #[.int .u32 0, .int .u32 0, .string ⟨#[]⟩], .bool false]) ∧ Below w.heap.size w w'
    have hta := taPart_Seal (.agg #[.int .u32 (vl s), .int .u32 (vl p), .int .u32 (vl v), .int .u32 (vl f), .int .u32 (vl u), .int .u32 (vl z)])
    go_enter Try.func14, Try.ntmps14
    go_wp2
    refine bodyPost_ret (v := .tuple #[.agg #[.int .u32 0, .int .u32 0, .string ⟨#[]⟩], .bool false]) (by rw [results_cell_tmp rfl]; simp [go_sem]) rfl ?_
    exact ⟨rfl, bel2 (Geom.bel_alloc _ _) (Geom.bel_alloc _ _)⟩
  case floor =>
    show Calls Try.prog 14 #[.iface 47 (.agg #[.int .u32 (vl s), .int .u32 (vl g), .int .u32 (vl f)])] w fun e w' => e = .returned (.tuple #[.agg #[.int .u32 0, .int .u32 0, .string ⟨#[]⟩], .bool false]) ∧ Below w.heap.size w w'
    have hta := taPart_Floor (.agg #[.int .u32 (vl s), .int .u32 (vl g), .int .u32 (vl f)])
    go_enter Try.func14, Try.ntmps14
    go_wp2
    refine bodyPost_ret (v := .tuple #[.agg #[.int .u32 0, .int .u32 0, .string ⟨#[]⟩], .bool false]) (by rw [results_cell_tmp rfl]; simp [go_sem]) rfl ?_
    exact ⟨rfl, bel2 (Geom.bel_alloc _ _) (Geom.bel_alloc _ _)⟩
def asSealV : Pc → Value
  | .fin s p v f u z => sealV s p v f u z
  | _ => .agg #[.int .u32 0, .int .u32 0, .int .u32 0, .int .u32 0, .int .u32 0, .int .u32 0]
def isSealP : Pc → Bool
  | .fin _ _ _ _ _ _ => true
  | _ => false
set_option maxRecDepth 100000 in
set_option maxHeartbeats 8000000 in
theorem asSeal_any (p : Pc) (w : World) : Calls Try.prog 15 #[pcV p] w fun e w' => e = .returned (.tuple #[asSealV p, .bool (isSealP p)]) ∧ Below w.heap.size w w' := by
  rcases p with _ | ⟨e, r⟩ | ⟨s, a, t⟩ | ⟨s, p, v, f, u, z⟩ | ⟨s, g, f⟩
  case none =>
    show Calls Try.prog 15 #[.nilIface] w fun e w' => e = .returned (.tuple #[.agg #[.int .u32 0, .int .u32 0, .int .u32 0, .int .u32 0, .int .u32 0, .int .u32 0], .bool false]) ∧ Below w.heap.size w w'
    have hta := taSeal_nil
    go_enter Try.func15, Try.ntmps15
    go_wp2
    refine bodyPost_ret (v := .tuple #[.agg #[.int .u32 0, .int .u32 0, .int .u32 0, .int .u32 0, .int .u32 0, .int .u32 0], .bool false]) (by rw [results_cell_tmp rfl]; simp [go_sem]) rfl ?_
    exact ⟨rfl, bel2 (Geom.bel_alloc _ _) (Geom.bel_alloc _ _)⟩
  case head =>
    show Calls Try.prog 15 #[.iface 55 (.agg #[.int .u32 (vl e), .int .u32 (vl r)])] w fun e w' => e = .returned (.tuple #[.agg #[.int .u32 0, .int .u32 0, .int .u32 0, .int .u32 0, .int .u32 0, .int .u32 0], .bool false]) ∧ Below w.heap.size w w'
    have hta := taSeal_Head (.agg #[.int .u32 (vl e), .int .u32 (vl r)])
    go_enter Try.func15, Try.ntmps15
    go_wp2
    refine bodyPost_ret (v := .tuple #[.agg #[.int .u32 0, .int .u32 0, .int .u32 0, .int .u32 0, .int .u32 0, .int .u32 0], .bool false]) (by rw [results_cell_tmp rfl]; simp [go_sem]) rfl ?_
    exact ⟨rfl, bel2 (Geom.bel_alloc _ _) (Geom.bel_alloc _ _)⟩
  case part =>
    show Calls Try.prog 15 #[.iface 39 (.agg #[.int .u32 (vl s), .int .u32 (vl a), .string (bs t)])] w fun e w' => e = .returned (.tuple #[.agg #[.int .u32 0, .int .u32 0, .int .u32 0, .int .u32 0, .int .u32 0, .int .u32 0], .bool false]) ∧ Below w.heap.size w w'
    have hta := taSeal_Part (.agg #[.int .u32 (vl s), .int .u32 (vl a), .string (bs t)])
    obtain ⟨B, hB⟩ : ∃ B, B = bs t := ⟨_, rfl⟩
    rw [← hB] at hta ⊢
    clear hB
    go_enter Try.func15, Try.ntmps15
    go_wp2
    refine bodyPost_ret (v := .tuple #[.agg #[.int .u32 0, .int .u32 0, .int .u32 0, .int .u32 0, .int .u32 0, .int .u32 0], .bool false]) (by rw [results_cell_tmp rfl]; simp [go_sem]) rfl ?_
    exact ⟨rfl, bel2 (Geom.bel_alloc _ _) (Geom.bel_alloc _ _)⟩
  case fin =>
    show Calls Try.prog 15 #[.iface 43 (.agg #[.int .u32 (vl s), .int .u32 (vl p), .int .u32 (vl v), .int .u32 (vl f), .int .u32 (vl u), .int .u32 (vl z)])] w fun e w' => e = .returned (.tuple #[.agg #[.int .u32 (vl s), .int .u32 (vl p), .int .u32 (vl v), .int .u32 (vl f), .int .u32 (vl u), .int .u32 (vl z)], .bool true]) ∧ Below w.heap.size w w'
    have hta := taSeal_Seal (.agg #[.int .u32 (vl s), .int .u32 (vl p), .int .u32 (vl v), .int .u32 (vl f), .int .u32 (vl u), .int .u32 (vl z)])
    go_enter Try.func15, Try.ntmps15
    go_wp2
    refine bodyPost_ret (v := .tuple #[.agg #[.int .u32 (vl s), .int .u32 (vl p), .int .u32 (vl v), .int .u32 (vl f), .int .u32 (vl u), .int .u32 (vl z)], .bool true]) (by rw [results_cell_tmp rfl]; simp [go_sem]) rfl ?_
    exact ⟨rfl, bel2 (Geom.bel_alloc _ _) (Geom.bel_alloc _ _)⟩
  case floor =>
    show Calls Try.prog 15 #[.iface 47 (.agg #[.int .u32 (vl s), .int .u32 (vl g), .int .u32 (vl f)])] w fun e w' => e = .returned (.tuple #[.agg #[.int .u32 0, .int .u32 0, .int .u32 0, .int .u32 0, .int .u32 0, .int .u32 0], .bool false]) ∧ Below w.heap.size w w'
    have hta := taSeal_Floor (.agg #[.int .u32 (vl s), .int .u32 (vl g), .int .u32 (vl f)])
    go_enter Try.func15, Try.ntmps15
    go_wp2
    refine bodyPost_ret (v := .tuple #[.agg #[.int .u32 0, .int .u32 0, .int .u32 0, .int .u32 0, .int .u32 0, .int .u32 0], .bool false]) (by rw [results_cell_tmp rfl]; simp [go_sem]) rfl ?_
    exact ⟨rfl, bel2 (Geom.bel_alloc _ _) (Geom.bel_alloc _ _)⟩
def asFloorV : Pc → Value
  | .floor s g f => floorV s g f
  | _ => .agg #[.int .u32 0, .int .u32 0, .int .u32 0]
def isFloorP : Pc → Bool
  | .floor _ _ _ => true
  | _ => false
set_option maxRecDepth 100000 in
set_option maxHeartbeats 8000000 in
theorem asFloor_any (p : Pc) (w : World) : Calls Try.prog 16 #[pcV p] w fun e w' => e = .returned (.tuple #[asFloorV p, .bool (isFloorP p)]) ∧ Below w.heap.size w w' := by
  rcases p with _ | ⟨e, r⟩ | ⟨s, a, t⟩ | ⟨s, p, v, f, u, z⟩ | ⟨s, g, f⟩
  case none =>
    show Calls Try.prog 16 #[.nilIface] w fun e w' => e = .returned (.tuple #[.agg #[.int .u32 0, .int .u32 0, .int .u32 0], .bool false]) ∧ Below w.heap.size w w'
    have hta := taFloor_nil
    go_enter Try.func16, Try.ntmps16
    go_wp2
    refine bodyPost_ret (v := .tuple #[.agg #[.int .u32 0, .int .u32 0, .int .u32 0], .bool false]) (by rw [results_cell_tmp rfl]; simp [go_sem]) rfl ?_
    exact ⟨rfl, bel2 (Geom.bel_alloc _ _) (Geom.bel_alloc _ _)⟩
  case head =>
    show Calls Try.prog 16 #[.iface 55 (.agg #[.int .u32 (vl e), .int .u32 (vl r)])] w fun e w' => e = .returned (.tuple #[.agg #[.int .u32 0, .int .u32 0, .int .u32 0], .bool false]) ∧ Below w.heap.size w w'
    have hta := taFloor_Head (.agg #[.int .u32 (vl e), .int .u32 (vl r)])
    go_enter Try.func16, Try.ntmps16
    go_wp2
    refine bodyPost_ret (v := .tuple #[.agg #[.int .u32 0, .int .u32 0, .int .u32 0], .bool false]) (by rw [results_cell_tmp rfl]; simp [go_sem]) rfl ?_
    exact ⟨rfl, bel2 (Geom.bel_alloc _ _) (Geom.bel_alloc _ _)⟩
  case part =>
    show Calls Try.prog 16 #[.iface 39 (.agg #[.int .u32 (vl s), .int .u32 (vl a), .string (bs t)])] w fun e w' => e = .returned (.tuple #[.agg #[.int .u32 0, .int .u32 0, .int .u32 0], .bool false]) ∧ Below w.heap.size w w'
    have hta := taFloor_Part (.agg #[.int .u32 (vl s), .int .u32 (vl a), .string (bs t)])
    obtain ⟨B, hB⟩ : ∃ B, B = bs t := ⟨_, rfl⟩
    rw [← hB] at hta ⊢
    clear hB
    go_enter Try.func16, Try.ntmps16
    go_wp2
    refine bodyPost_ret (v := .tuple #[.agg #[.int .u32 0, .int .u32 0, .int .u32 0], .bool false]) (by rw [results_cell_tmp rfl]; simp [go_sem]) rfl ?_
    exact ⟨rfl, bel2 (Geom.bel_alloc _ _) (Geom.bel_alloc _ _)⟩
  case fin =>
    show Calls Try.prog 16 #[.iface 43 (.agg #[.int .u32 (vl s), .int .u32 (vl p), .int .u32 (vl v), .int .u32 (vl f), .int .u32 (vl u), .int .u32 (vl z)])] w fun e w' => e = .returned (.tuple #[.agg #[.int .u32 0, .int .u32 0, .int .u32 0], .bool false]) ∧ Below w.heap.size w w'
    have hta := taFloor_Seal (.agg #[.int .u32 (vl s), .int .u32 (vl p), .int .u32 (vl v), .int .u32 (vl f), .int .u32 (vl u), .int .u32 (vl z)])
    go_enter Try.func16, Try.ntmps16
    go_wp2
    refine bodyPost_ret (v := .tuple #[.agg #[.int .u32 0, .int .u32 0, .int .u32 0], .bool false]) (by rw [results_cell_tmp rfl]; simp [go_sem]) rfl ?_
    exact ⟨rfl, bel2 (Geom.bel_alloc _ _) (Geom.bel_alloc _ _)⟩
  case floor =>
    show Calls Try.prog 16 #[.iface 47 (.agg #[.int .u32 (vl s), .int .u32 (vl g), .int .u32 (vl f)])] w fun e w' => e = .returned (.tuple #[.agg #[.int .u32 (vl s), .int .u32 (vl g), .int .u32 (vl f)], .bool true]) ∧ Below w.heap.size w w'
    have hta := taFloor_Floor (.agg #[.int .u32 (vl s), .int .u32 (vl g), .int .u32 (vl f)])
    go_enter Try.func16, Try.ntmps16
    go_wp2
    refine bodyPost_ret (v := .tuple #[.agg #[.int .u32 (vl s), .int .u32 (vl g), .int .u32 (vl f)], .bool true]) (by rw [results_cell_tmp rfl]; simp [go_sem]) rfl ?_
    exact ⟨rfl, bel2 (Geom.bel_alloc _ _) (Geom.bel_alloc _ _)⟩
set_option maxRecDepth 100000 in
set_option maxHeartbeats 8000000 in
theorem sealOf_any (f : Fr) (hs : f.body.length ≤ maxLen) (w : World) : Calls Try.prog 28 #[fV f] w fun e w' => e = .returned (sealOfF f) ∧ Below w.heap.size w w' := by
  have HG0 := Lib.hid (fun w => getZ_any f.body hs 0 (by omega) 0 rfl w)
  have HG1 := Lib.hid (fun w => getZ_any f.body hs 4 (by omega) 4 rfl w)
  have HG2 := Lib.hid (fun w => getZ_any f.body hs 8 (by omega) 8 rfl w)
  have HG3 := Lib.hid (fun w => getZ_any f.body hs 12 (by omega) 12 rfl w)
  obtain ⟨kd, a, b, body⟩ := f
  unfold sealOfF sealV fV
  simp only at HG0 HG1 HG2 HG3 ⊢
  obtain ⟨B, hB⟩ : ∃ B, B = bs body := ⟨_, rfl⟩
  rw [← hB] at HG0 HG1 HG2 HG3 ⊢
  clear hB
  generalize getZ body 0 = g0 at *
  generalize decide (0 + 4 ≤ body.length) = d0 at *
  generalize getZ body 4 = g1 at *
  generalize decide (4 + 4 ≤ body.length) = d1 at *
  generalize getZ body 8 = g2 at *
  generalize decide (8 + 4 ≤ body.length) = d2 at *
  generalize getZ body 12 = g3 at *
  generalize decide (12 + 4 ≤ body.length) = d3 at *
  have hsz1 : (w.alloc (.cells #[.int .i64 kd, .int .u32 (vl a), .int .u32 (vl b), .string B] 24)).heap.size = w.heap.size + 1 := by simp
  have hsz2 : ((w.alloc (.cells #[.int .i64 kd, .int .u32 (vl a), .int .u32 (vl b), .string B] 24)).alloc (.cells #[.int .u32 0, .int .u32 0, .int .u32 0, .int .u32 0, .int .u32 0, .int .u32 0] 43)).heap.size = w.heap.size + 2 := by simp
  obtain ⟨w1, hw1⟩ : ∃ w1, w1 = ((w.alloc (.cells #[.int .i64 kd, .int .u32 (vl a), .int .u32 (vl b), .string B] 24)).alloc (.cells #[.int .u32 0, .int .u32 0, .int .u32 0, .int .u32 0, .int .u32 0, .int .u32 0] 43)).alloc (.cells #[.int .u32 (vl a), .int .u32 (vl b), .int .u32 0, .int .u32 0, .int .u32 0, .int .u32 0] 43) := ⟨_, rfl⟩
  have HB1 := Lib.hid (show Below w.heap.size w w1 by rw [hw1]; exact bel2 (bel2 (Geom.bel_alloc _ _) (Geom.bel_alloc _ _)) (Geom.bel_alloc _ _))
  have HF1 := Lib.hid (show Var w1 w.heap.size 24 [.int .i64 kd, .int .u32 (vl a), .int .u32 (vl b), .string B] by rw [hw1]; exact ((Var.new w _ _).alloc _).alloc _)
  have HR1 := Lib.hid (show Var w1 (w.heap.size + 1) 43 [.int .u32 0, .int .u32 0, .int .u32 0, .int .u32 0, .int .u32 0, .int .u32 0] by
    have := (Var.new (w.alloc (.cells #[.int .i64 kd, .int .u32 (vl a), .int .u32 (vl b), .string B] 24)) 43 [.int .u32 0, .int .u32 0, .int .u32 0, .int .u32 0, .int .u32 0, .int .u32 0]).alloc (.cells #[.int .u32 (vl a), .int .u32 (vl b), .int .u32 0, .int .u32 0, .int .u32 0, .int .u32 0] 43)
    rw [hsz1] at this
    rw [hw1]; exact this)
  have HS1 := Lib.hid (show Var w1 (w.heap.size + 2) 43 [.int .u32 (vl a), .int .u32 (vl b), .int .u32 0, .int .u32 0, .int .u32 0, .int .u32 0] by
    have := Var.new ((w.alloc (.cells #[.int .i64 kd, .int .u32 (vl a), .int .u32 (vl b), .string B] 24)).alloc (.cells #[.int .u32 0, .int .u32 0, .int .u32 0, .int .u32 0, .int .u32 0, .int .u32 0] 43)) 43 [.int .u32 (vl a), .int .u32 (vl b), .int .u32 0, .int .u32 0, .int .u32 0, .int .u32 0]
    rw [hsz2] at this
    rw [hw1]; exact this)
  go_enter Try.func28, Try.ntmps28
  go_wp2_with (first
    | (go_at_call 36; ((with_reducible refine (HG0.out _).mono ?_); rintro e w2 ⟨rfl, bz⟩; have hbel : Below w1.heap.size w1 w2 := (by rw [hw1]; exact bz); clear bz; have vf := HF1.out.below hbel HF1.out.lt; have vr := HR1.out.below hbel HR1.out.lt; have vs := HS1.out.below hbel HS1.out.lt; obtain ⟨w2x, hw2x⟩ : ∃ wx, wx = w2.setCell ⟨w.heap.size + 2, 2, none⟩ (.int .u32 (vl g0)) := ⟨_, rfl⟩; have HF2 := Lib.hid (show Var w2x w.heap.size 24 [.int .i64 kd, .int .u32 (vl a), .int .u32 (vl b), .string B] by rw [hw2x]; exact Var.othr2 vf ⟨w.heap.size + 2, 2, none⟩ _ (by simp only; omega)); have HR2 := Lib.hid (show Var w2x (w.heap.size + 1) 43 [.int .u32 0, .int .u32 0, .int .u32 0, .int .u32 0, .int .u32 0, .int .u32 0] by rw [hw2x]; exact Var.othr2 vr ⟨w.heap.size + 2, 2, none⟩ _ (by simp only; omega)); have HS2 := Lib.hid (show Var w2x (w.heap.size + 2) 43 [.int .u32 (vl a), .int .u32 (vl b), .int .u32 (vl g0), .int .u32 0, .int .u32 0, .int .u32 0] by rw [hw2x]; exact vs.set 2 (.int .u32 (vl g0))); have HB2 := Lib.hid (show Below w.heap.size w w2x by rw [hw2x]; exact (bel2 HB1.out hbel).setCell (p := ⟨w.heap.size + 2, 2, none⟩) (by simp only; omega) _); have sc0 := vs.cell (j := 2) rfl; have sf0 := vs.frozen 2; have fc0 := HF2.out.cell (j := 3) rfl; rw [hw2x] at fc0; clear hbel vf vr vs))
    | (go_at_call 36; ((with_reducible refine (HG1.out _).mono ?_); rintro e w3 ⟨rfl, bz⟩; have hbel : Below w2x.heap.size w2x w3 := (by rw [hw2x]; exact bz); clear bz; have vf := HF2.out.below hbel HF2.out.lt; have vr := HR2.out.below hbel HR2.out.lt; have vs := HS2.out.below hbel HS2.out.lt; obtain ⟨w3x, hw3x⟩ : ∃ wx, wx = w3.setCell ⟨w.heap.size + 2, 3, none⟩ (.int .u32 (vl g1)) := ⟨_, rfl⟩; have HF3 := Lib.hid (show Var w3x w.heap.size 24 [.int .i64 kd, .int .u32 (vl a), .int .u32 (vl b), .string B] by rw [hw3x]; exact Var.othr2 vf ⟨w.heap.size + 2, 3, none⟩ _ (by simp only; omega)); have HR3 := Lib.hid (show Var w3x (w.heap.size + 1) 43 [.int .u32 0, .int .u32 0, .int .u32 0, .int .u32 0, .int .u32 0, .int .u32 0] by rw [hw3x]; exact Var.othr2 vr ⟨w.heap.size + 2, 3, none⟩ _ (by simp only; omega)); have HS3 := Lib.hid (show Var w3x (w.heap.size + 2) 43 [.int .u32 (vl a), .int .u32 (vl b), .int .u32 (vl g0), .int .u32 (vl g1), .int .u32 0, .int .u32 0] by rw [hw3x]; exact vs.set 3 (.int .u32 (vl g1))); have HB3 := Lib.hid (show Below w.heap.size w w3x by rw [hw3x]; exact (bel2 HB2.out hbel).setCell (p := ⟨w.heap.size + 2, 3, none⟩) (by simp only; omega) _); have sc1 := vs.cell (j := 3) rfl; have sf1 := vs.frozen 3; have fc1 := HF3.out.cell (j := 3) rfl; rw [hw3x] at fc1; clear hbel vf vr vs))
    | (go_at_call 36; ((with_reducible refine (HG2.out _).mono ?_); rintro e w4 ⟨rfl, bz⟩; have hbel : Below w3x.heap.size w3x w4 := (by rw [hw3x]; exact bz); clear bz; have vf := HF3.out.below hbel HF3.out.lt; have vr := HR3.out.below hbel HR3.out.lt; have vs := HS3.out.below hbel HS3.out.lt; obtain ⟨w4x, hw4x⟩ : ∃ wx, wx = w4.setCell ⟨w.heap.size + 2, 4, none⟩ (.int .u32 (vl g2)) := ⟨_, rfl⟩; have HF4 := Lib.hid (show Var w4x w.heap.size 24 [.int .i64 kd, .int .u32 (vl a), .int .u32 (vl b), .string B] by rw [hw4x]; exact Var.othr2 vf ⟨w.heap.size + 2, 4, none⟩ _ (by simp only; omega)); have HR4 := Lib.hid (show Var w4x (w.heap.size + 1) 43 [.int .u32 0, .int .u32 0, .int .u32 0, .int .u32 0, .int .u32 0, .int .u32 0] by rw [hw4x]; exact Var.othr2 vr ⟨w.heap.size + 2, 4, none⟩ _ (by simp only; omega)); have HS4 := Lib.hid (show Var w4x (w.heap.size + 2) 43 [.int .u32 (vl a), .int .u32 (vl b), .int .u32 (vl g0), .int .u32 (vl g1), .int .u32 (vl g2), .int .u32 0] by rw [hw4x]; exact vs.set 4 (.int .u32 (vl g2))); have HB4 := Lib.hid (show Below w.heap.size w w4x by rw [hw4x]; exact (bel2 HB3.out hbel).setCell (p := ⟨w.heap.size + 2, 4, none⟩) (by simp only; omega) _); have sc2 := vs.cell (j := 4) rfl; have sf2 := vs.frozen 4; have fc2 := HF4.out.cell (j := 3) rfl; rw [hw4x] at fc2; clear hbel vf vr vs))
    | (go_at_call 36; ((with_reducible refine (HG3.out _).mono ?_); rintro e w5 ⟨rfl, bz⟩; have hbel : Below w4x.heap.size w4x w5 := (by rw [hw4x]; exact bz); clear bz; have vf := HF4.out.below hbel HF4.out.lt; have vr := HR4.out.below hbel HR4.out.lt; have vs := HS4.out.below hbel HS4.out.lt; obtain ⟨w5x, hw5x⟩ : ∃ wx, wx = w5.setCell ⟨w.heap.size + 2, 5, none⟩ (.int .u32 (vl g3)) := ⟨_, rfl⟩; have HF5 := Lib.hid (show Var w5x w.heap.size 24 [.int .i64 kd, .int .u32 (vl a), .int .u32 (vl b), .string B] by rw [hw5x]; exact Var.othr2 vf ⟨w.heap.size + 2, 5, none⟩ _ (by simp only; omega)); have HR5 := Lib.hid (show Var w5x (w.heap.size + 1) 43 [.int .u32 0, .int .u32 0, .int .u32 0, .int .u32 0, .int .u32 0, .int .u32 0] by rw [hw5x]; exact Var.othr2 vr ⟨w.heap.size + 2, 5, none⟩ _ (by simp only; omega)); have HS5 := Lib.hid (show Var w5x (w.heap.size + 2) 43 [.int .u32 (vl a), .int .u32 (vl b), .int .u32 (vl g0), .int .u32 (vl g1), .int .u32 (vl g2), .int .u32 (vl g3)] by rw [hw5x]; exact vs.set 5 (.int .u32 (vl g3))); have HB5 := Lib.hid (show Below w.heap.size w w5x by rw [hw5x]; exact (bel2 HB4.out hbel).setCell (p := ⟨w.heap.size + 2, 5, none⟩) (by simp only; omega) _); have sc3 := vs.cell (j := 5) rfl; have sf3 := vs.frozen 5; have sd0 := HS5.out.cell (j := 0) rfl; have sd1 := HS5.out.cell (j := 1) rfl; have sd2 := HS5.out.cell (j := 2) rfl; have sd3 := HS5.out.cell (j := 3) rfl; have sd4 := HS5.out.cell (j := 4) rfl; have sd5 := HS5.out.cell (j := 5) rfl; have rd0 := HR5.out.cell (j := 0) rfl; have rd1 := HR5.out.cell (j := 1) rfl; have rd2 := HR5.out.cell (j := 2) rfl; have rd3 := HR5.out.cell (j := 3) rfl; have rd4 := HR5.out.cell (j := 4) rfl; have rd5 := HR5.out.cell (j := 5) rfl; have rf0 := HR5.out.frozen 0; have rf1 := HR5.out.frozen 1; have rf2 := HR5.out.frozen 2; have rf3 := HR5.out.frozen 3; have rf4 := HR5.out.frozen 4; have rf5 := HR5.out.frozen 5; rw [hw5x] at sd0 rd0 rf0 sd1 rd1 rf1 sd2 rd2 rf2 sd3 rd3 rf3 sd4 rd4 rf4 sd5 rd5 rf5; clear hbel vf vr vs)))
  have vr := HR5.out
  have vr := vr.set 0 (.int .u32 (vl a))
  have vr := vr.set 1 (.int .u32 (vl b))
  have vr := vr.set 2 (.int .u32 (vl g0))
  have vr := vr.set 3 (.int .u32 (vl g1))
  have vr := vr.set 4 (.int .u32 (vl g2))
  have vr := vr.set 5 (.int .u32 (vl g3))
  have z0 := vr.cell (j := 0) rfl
  have z1 := vr.cell (j := 1) rfl
  have z2 := vr.cell (j := 2) rfl
  have z3 := vr.cell (j := 3) rfl
  have z4 := vr.cell (j := 4) rfl
  have z5 := vr.cell (j := 5) rfl
  rw [hw5x] at z0 z1 z2 z3 z4 z5
  clear sd0 sd1 sd2 sd3 sd4 sd5 rd0 rd1 rd2 rd3 rd4 rd5 rf0 rf1 rf2 rf3 rf4 rf5 vr
  refine bodyPost_ret (v := .agg #[.int .u32 (vl a), .int .u32 (vl b), .int .u32 (vl g0), .int .u32 (vl g1), .int .u32 (vl g2), .int .u32 (vl g3)]) (by simp [results, Try.results28, go_sem, z0, z1, z2, z3, z4, z5]) rfl ?_
  have hb := HB5.out
  rw [hw5x] at hb
  exact ⟨rfl, (((((hb.setCell (p := ⟨w.heap.size + 1, 0, none⟩) (by simp only; omega) _).setCell (p := ⟨w.heap.size + 1, 1, none⟩) (by simp only; omega) _).setCell (p := ⟨w.heap.size + 1, 2, none⟩) (by simp only; omega) _).setCell (p := ⟨w.heap.size + 1, 3, none⟩) (by simp only; omega) _).setCell (p := ⟨w.heap.size + 1, 4, none⟩) (by simp only; omega) _).setCell (p := ⟨w.heap.size + 1, 5, none⟩) (by simp only; omega) _⟩
set_option maxRecDepth 100000 in
set_option maxHeartbeats 8000000 in
theorem sealBody_any (s p v f u z : W) (w : World) : Calls Try.prog 33 #[sealV s p v f u z] w fun e' w' => e' = .returned (.string (bs (four v f u z))) ∧ Below w.heap.size w w' := by
  have HPv := Lib.hid (fun w => Crc.put_any v w)
  obtain ⟨Tv, hTv⟩ : ∃ T, T = putS v := ⟨_, rfl⟩
  rw [← hTv] at HPv
  have sv : Tv.size = 4 := by rw [hTv]; rfl
  have HPf := Lib.hid (fun w => Crc.put_any f w)
  obtain ⟨Tf, hTf⟩ : ∃ T, T = putS f := ⟨_, rfl⟩
  rw [← hTf] at HPf
  have sf : Tf.size = 4 := by rw [hTf]; rfl
  have HPu := Lib.hid (fun w => Crc.put_any u w)
  obtain ⟨Tu, hTu⟩ : ∃ T, T = putS u := ⟨_, rfl⟩
  rw [← hTu] at HPu
  have su : Tu.size = 4 := by rw [hTu]; rfl
  have HPz := Lib.hid (fun w => Crc.put_any z w)
  obtain ⟨Tz, hTz⟩ : ∃ T, T = putS z := ⟨_, rfl⟩
  rw [← hTz] at HPz
  have sz : Tz.size = 4 := by rw [hTz]; rfl
  have HE := Lib.hid (show bs (four v f u z) = Tv ++ Tf ++ Tu ++ Tz by
    rw [hTv, hTf, hTu, hTz]
    apply ByteArray.ext
    simp only [ByteArray.data_append]
    unfold putS four bs
    simp)
  rw [HE.out]
  unfold sealV
  have HV := Lib.hid (Var.new w 43 [.int .u32 (vl s), .int .u32 (vl p), .int .u32 (vl v), .int .u32 (vl f), .int .u32 (vl u), .int .u32 (vl z)])
  clear hTv hTf hTu hTz
  go_enter Try.func33, Try.ntmps33
  go_wp2
  obtain ⟨w1, hw1⟩ : ∃ w1, w1 = w.alloc (.cells #[.int .u32 (vl s), .int .u32 (vl p), .int .u32 (vl v), .int .u32 (vl f), .int .u32 (vl u), .int .u32 (vl z)] 43) := ⟨_, rfl⟩
  have HB1 := Lib.hid (show Below w.heap.size w w1 by rw [hw1]; exact Geom.bel_alloc _ _)
  rw [show w.alloc (.cells ([.int .u32 (vl s), .int .u32 (vl p), .int .u32 (vl v), .int .u32 (vl f), .int .u32 (vl u), .int .u32 (vl z)] : List Value).toArray 43) = w1 from hw1.symm] at HV
  rw [← hw1]
  clear hw1
  refine wp_region_is [3, 4, 5, 6, 7, 8, 9, 10, 11, 12, 13, 14, 15, 16, 17, 2] (fun w' => Below w1.heap.size w1 w')
    [.pointer (some ⟨w.heap.size, 2, none⟩), .int .u32 (vl v), .string Tv, .pointer (some ⟨w.heap.size, 3, none⟩), .int .u32 (vl f), .string Tf, .string (Tv ++ Tf), .pointer (some ⟨w.heap.size, 4, none⟩), .int .u32 (vl u), .string Tu, .string (Tv ++ Tf ++ Tu), .pointer (some ⟨w.heap.size, 5, none⟩), .int .u32 (vl z), .string Tz, .string (Tv ++ Tf ++ Tu ++ Tz), .string (Tv ++ Tf ++ Tu ++ Tz)] (by kernel_rfl) (by kernel_rfl) rfl (by decide) (by simp) (Below.refl _ _).drew ?each ?done
  case each =>
    simp only [Each]
    repeat' (first | exact trivial | refine And.intro ?_ ?_)
    all_goals
      intro ys wx hBx hdeps
      simp only [Deps, Region.binds, List.getD_cons_zero, List.getD_cons_succ, forall_const, and_true] at hdeps
      have q2 := (HV.out.below hBx HV.out.lt).cell (j := 2) rfl
      have q3 := (HV.out.below hBx HV.out.lt).cell (j := 3) rfl
      have q4 := (HV.out.below hBx HV.out.lt).cell (j := 4) rfl
      have q5 := (HV.out.below hBx HV.out.lt).cell (j := 5) rfl
      simp only [hdeps, fill, List.foldl_cons, List.foldl_nil, Act.put, List.setIfInBounds_toArray, List.set_cons_succ, List.set_cons_zero]
      first
        | (go_wp2_with fail; exact ⟨_, rfl, rfl, hBx, Below.refl _ _⟩)
        | (go_wp2_with (go_at_call 34; (with_reducible refine (HPv.out _).mono ?_); rintro e w3 ⟨rfl, hm⟩); exact ⟨_, rfl, rfl, hBx.trans (hm.mono hBx.size), hm⟩)
        | (go_wp2_with (go_at_call 34; (with_reducible refine (HPf.out _).mono ?_); rintro e w3 ⟨rfl, hm⟩); exact ⟨_, rfl, rfl, hBx.trans (hm.mono hBx.size), hm⟩)
        | (go_wp2_with (go_at_call 34; (with_reducible refine (HPu.out _).mono ?_); rintro e w3 ⟨rfl, hm⟩); exact ⟨_, rfl, rfl, hBx.trans (hm.mono hBx.size), hm⟩)
        | (go_wp2_with (go_at_call 34; (with_reducible refine (HPz.out _).mono ?_); rintro e w3 ⟨rfl, hm⟩); exact ⟨_, rfl, rfl, hBx.trans (hm.mono hBx.size), hm⟩)
  case done =>
    intro ys wx hBx hV
    have h2 : ys 2 = .string (Tv ++ Tf ++ Tu ++ Tz) := hV 15 (by decide)
    simp only [h2, fill, List.drop_succ_cons, List.drop_zero, List.foldl_cons, List.foldl_nil, Act.put, List.setIfInBounds_toArray, List.set_cons_succ, List.set_cons_zero]
    go_wp2
    go_ret
    exact ⟨rfl, bel2 HB1.out hBx⟩
end Go.Proofs.Ytdbfclngllhdlaa.Piece
