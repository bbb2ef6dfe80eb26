/-
  What package group's isCount, sealOf and partOf answer.
-/
import Derived.Test.YtligapgjdpdihaaDoorRunPieceXc
set_option linter.unusedVariables false
set_option linter.unusedSimpArgs false
namespace Go.Proofs.YtligapgjdpdihaaDoor.Group
open Go.RowKit
open CrcM (W)
open Crc (le4 sumOf vl wd putS)
open Flash (bs bs_size bs_list list_bs cut)
open Go.Proofs.YtligapgjdpdihaaDoor.Frame (Fr zeroF fV fC bel2 below_drewN)
open Piece (pieceR isSeqB ofF ofF_ok ofF_not pcOf pcV Pc of_any asPart_any asSeal_any asPartV asSealV isPartP isSealP sealV partV)
open Tup Bytes Own
open Go.Proofs.YtligapgjdpdihaaDoor.Region (fill Then Deps Each wp_region_is wp_region_is_tail wp_region_each wp_region_tail)
set_option maxRecDepth 100000 in
theorem isCount_any (n : W) (c : Nat) (hc : c ≤ 1000000000000) (w : World) : Calls Tryd.prog 39 #[.int .u32 (vl n), .int .i64 (c : Int)] w fun e w' => e = .returned (.bool (decide (vl n = (c : Int)))) ∧ w = w' := by
  have hn := Crc.vl_range n
  have h1 : vl n % 18446744073709551616 = vl n := by omega
  have h2 : (c : Int) % 18446744073709551616 = (c : Int) := by omega
  have HE := Lib.hid (Piece.eqI (vl n) (c : Int))
  go_enter Tryd.func39, Tryd.ntmps39
  go_wp2
  go_ret
  exact ⟨by rw [← HE.out]; rfl, rfl⟩
set_option maxRecDepth 100000 in
set_option maxHeartbeats 8000000 in
theorem sealOf_core (kd : Int) (a b : W) (B : ByteArray) (pv : Value) (c : Int) (z0 z1 z2 z3 z4 z5 : Int) (ok : Bool)
    (HO : Hid (∀ w, Calls Tryd.prog 71 #[.agg #[.int .i64 kd, .int .u32 (vl a), .int .u32 (vl b), .string B]] w fun e w' => e = .returned (.tuple #[pv, .int .i64 c]) ∧ Below w.heap.size w w'))
    (HA : Hid (∀ w, Calls Tryd.prog 72 #[pv] w fun e w' => e = .returned (.tuple #[.agg #[.int .u32 z0, .int .u32 z1, .int .u32 z2, .int .u32 z3, .int .u32 z4, .int .u32 z5], .bool ok]) ∧ Below w.heap.size w w')) (w : World) :
    Calls Tryd.prog 37 #[.agg #[.int .i64 kd, .int .u32 (vl a), .int .u32 (vl b), .string B]] w fun e w' => e = .returned (.tuple #[.agg #[.int .u32 z0, .int .u32 z1, .int .u32 z2, .int .u32 z3, .int .u32 z4, .int .u32 z5], .bool ok]) ∧ Below w.heap.size w w' := by
  go_enter Tryd.func37, Tryd.ntmps37
  go_wp2_with (first
    | (go_at_call 71; ((with_reducible refine (HO.out _).mono ?_); rintro e w2 ⟨rfl, bz⟩; obtain ⟨w1, hw1⟩ : ∃ wx, wx = ((w.alloc (.cells #[.int .i64 kd, .int .u32 (vl a), .int .u32 (vl b), .string B] 49)).alloc (.cells #[.int .u32 0, .int .u32 0, .int .u32 0, .int .u32 0, .int .u32 0, .int .u32 0] 61)) := ⟨_, rfl⟩; have bw1 := Lib.hid (show Below w.heap.size w w1 by rw [hw1]; exact (bel2 (Geom.bel_alloc _ _) (Geom.bel_alloc _ _))); have zw1 := Lib.hid (show w.heap.size + 2 ≤ w1.heap.size by rw [hw1]; simp); have vw1f := Lib.hid (show Var w1 (w.heap.size) 49 [.int .i64 kd, .int .u32 (vl a), .int .u32 (vl b), .string B] by rw [hw1]; exact ((Var.new w 49 [.int .i64 kd, .int .u32 (vl a), .int .u32 (vl b), .string B]).alloc _)); have vw1r := Lib.hid (show Var w1 (w.heap.size + 1) 61 [.int .u32 0, .int .u32 0, .int .u32 0, .int .u32 0, .int .u32 0, .int .u32 0] by rw [hw1]; exact (show Var ((w.alloc (.cells #[.int .i64 kd, .int .u32 (vl a), .int .u32 (vl b), .string B] 49)).alloc (.cells #[.int .u32 0, .int .u32 0, .int .u32 0, .int .u32 0, .int .u32 0, .int .u32 0] 61)) (w.heap.size + 1) 61 [.int .u32 0, .int .u32 0, .int .u32 0, .int .u32 0, .int .u32 0, .int .u32 0] from by have h := Var.new (w.alloc (.cells #[.int .i64 kd, .int .u32 (vl a), .int .u32 (vl b), .string B] 49)) 61 [.int .u32 0, .int .u32 0, .int .u32 0, .int .u32 0, .int .u32 0, .int .u32 0]; rw [show (w.alloc (.cells #[.int .i64 kd, .int .u32 (vl a), .int .u32 (vl b), .string B] 49)).heap.size = w.heap.size + 1 by simp] at h; exact h)); have hbel : Below w1.heap.size w1 w2 := (by rw [hw1]; exact bz); clear bz; have bw2 := Lib.hid (bel2 bw1.out hbel); have zw2 := Lib.hid hbel.size; have vw2f := Lib.hid (vw1f.out.below hbel vw1f.out.lt); have vw2r := Lib.hid (vw1r.out.below hbel vw1r.out.lt); clear hbel))
    | (go_at_call 72; ((with_reducible refine (HA.out _).mono ?_); rintro e w3 ⟨rfl, bz⟩; have hbel : Below w2.heap.size w2 w3 := (by exact bz); clear bz; have bw3 := Lib.hid (bel2 bw2.out hbel); have zw3 := Lib.hid hbel.size; have vw3f := Lib.hid (vw2f.out.below hbel vw2f.out.lt); have vw3r := Lib.hid (vw2r.out.below hbel vw2r.out.lt); clear hbel; have vf1 := (show Var w3 (w.heap.size + 1) 61 [.int .u32 0, .int .u32 0, .int .u32 0, .int .u32 0, .int .u32 0, .int .u32 0] from vw3r.out); have c2 := vf1.cell (j := 0) rfl; have c3 := vf1.cell (j := 1) rfl; have c4 := vf1.cell (j := 2) rfl; have c5 := vf1.cell (j := 3) rfl; have c6 := vf1.cell (j := 4) rfl; have c7 := vf1.cell (j := 5) rfl; clear vf1; have vf8 := (show Var w3 (w.heap.size + 1) 61 [.int .u32 0, .int .u32 0, .int .u32 0, .int .u32 0, .int .u32 0, .int .u32 0] from vw3r.out); have f9 := vf8.frozen 0; have f10 := vf8.frozen 1; have f11 := vf8.frozen 2; have f12 := vf8.frozen 3; have f13 := vf8.frozen 4; have f14 := vf8.frozen 5; clear vf8)))
  have vf15 := (show Var ((((((w3.setCell ⟨w.heap.size + 1, 0, none⟩ (.int .u32 z0)).setCell ⟨w.heap.size + 1, 1, none⟩ (.int .u32 z1)).setCell ⟨w.heap.size + 1, 2, none⟩ (.int .u32 z2)).setCell ⟨w.heap.size + 1, 3, none⟩ (.int .u32 z3)).setCell ⟨w.heap.size + 1, 4, none⟩ (.int .u32 z4)).setCell ⟨w.heap.size + 1, 5, none⟩ (.int .u32 z5)) (w.heap.size + 1) 61 [.int .u32 z0, .int .u32 z1, .int .u32 z2, .int .u32 z3, .int .u32 z4, .int .u32 z5] from ((((((vw3r.out.set 0 (.int .u32 z0)).set 1 (.int .u32 z1)).set 2 (.int .u32 z2)).set 3 (.int .u32 z3)).set 4 (.int .u32 z4)).set 5 (.int .u32 z5)))
  have c16 := vf15.cell (j := 0) rfl
  have c17 := vf15.cell (j := 1) rfl
  have c18 := vf15.cell (j := 2) rfl
  have c19 := vf15.cell (j := 3) rfl
  have c20 := vf15.cell (j := 4) rfl
  have c21 := vf15.cell (j := 5) rfl
  clear vf15
  refine bodyPost_ret (v := .tuple #[.agg #[.int .u32 z0, .int .u32 z1, .int .u32 z2, .int .u32 z3, .int .u32 z4, .int .u32 z5], .bool ok]) (by rw [results_cell_tmp rfl]; simp [go_sem, c16, c17, c18, c19, c20, c21]) rfl ?_
  exact ⟨rfl, ((((((bw3.out.setCell (p := ⟨w.heap.size + 1, 0, none⟩) (by have := zw1.out; have := zw2.out; have := zw3.out; simp only; omega) _).setCell (p := ⟨w.heap.size + 1, 1, none⟩) (by have := zw1.out; have := zw2.out; have := zw3.out; simp only; omega) _).setCell (p := ⟨w.heap.size + 1, 2, none⟩) (by have := zw1.out; have := zw2.out; have := zw3.out; simp only; omega) _).setCell (p := ⟨w.heap.size + 1, 3, none⟩) (by have := zw1.out; have := zw2.out; have := zw3.out; simp only; omega) _).setCell (p := ⟨w.heap.size + 1, 4, none⟩) (by have := zw1.out; have := zw2.out; have := zw3.out; simp only; omega) _).setCell (p := ⟨w.heap.size + 1, 5, none⟩) (by have := zw1.out; have := zw2.out; have := zw3.out; simp only; omega) _)⟩
theorem sealOf_yes (f : Fr) (hs : f.body.length ≤ maxLen) (hr : pieceR f = true) (hk : f.kind = 3) (w : World) :
    Calls Tryd.prog 37 #[fV f] w fun e w' => e = .returned (.tuple #[sealV f.a f.b (wd (le4 f.body 0)) (wd (le4 f.body 4)) (wd (le4 f.body 8)) (wd (le4 f.body 12)), .bool true]) ∧ Below w.heap.size w w' := by
  have HO := fun w => of_any f hs w
  have hp : pcOf f = .fin f.a f.b (wd (le4 f.body 0)) (wd (le4 f.body 4)) (wd (le4 f.body 8)) (wd (le4 f.body 12)) := by unfold pcOf; rw [if_neg (by omega), if_neg (by omega), if_pos hk]
  rw [ofF_ok hr, hp] at HO
  exact sealOf_core f.kind f.a f.b (bs f.body) _ _ _ _ _ _ _ _ true HO (fun w => asSeal_any (.fin f.a f.b (wd (le4 f.body 0)) (wd (le4 f.body 4)) (wd (le4 f.body 8)) (wd (le4 f.body 12))) w) w
theorem sealOf_zero (p : Pc) (h : isSealP p = false) : asSealV p = .agg #[.int .u32 0, .int .u32 0, .int .u32 0, .int .u32 0, .int .u32 0, .int .u32 0] := by
  cases p <;> first | rfl | cases h
theorem sealOf_not (f : Fr) (hs : f.body.length ≤ maxLen) (hn : pieceR f = false ∨ f.kind ≠ 3) (w : World) :
    Calls Tryd.prog 37 #[fV f] w fun e w' => e = .returned (.tuple #[.agg #[.int .u32 0, .int .u32 0, .int .u32 0, .int .u32 0, .int .u32 0, .int .u32 0], .bool false]) ∧ Below w.heap.size w w' := by
  have HO := fun w => of_any f hs w
  have HA := fun w => asSeal_any (ofF f).1 w
  have hz : isSealP (ofF f).1 = false := by
    cases hr : pieceR f with
    | false => rw [ofF_not hr]; rfl
    | true =>
      rw [ofF_ok hr]
      have hk : f.kind ≠ 3 := by
        rcases hn with h | h
        · rw [hr] at h; cases h
        · exact h
      show isSealP (pcOf f) = false
      unfold pcOf
      by_cases k1 : f.kind = 1
      · rw [if_pos k1]; rfl
      rw [if_neg k1]
      by_cases k2 : f.kind = 2
      · rw [if_pos k2]; rfl
      rw [if_neg k2]
      by_cases k3 : f.kind = 3
      · exact absurd k3 hk
      rw [if_neg k3]
      rfl
  rw [sealOf_zero _ hz, hz] at HA
  exact sealOf_core f.kind f.a f.b (bs f.body) _ _ _ _ _ _ _ _ false HO HA w
set_option maxRecDepth 100000 in
set_option maxHeartbeats 8000000 in
theorem partOf_core (kd : Int) (a b : W) (B : ByteArray) (pv : Value) (c : Int) (z0 z1 : Int) (S : ByteArray) (ok : Bool)
    (HO : Hid (∀ w, Calls Tryd.prog 71 #[.agg #[.int .i64 kd, .int .u32 (vl a), .int .u32 (vl b), .string B]] w fun e w' => e = .returned (.tuple #[pv, .int .i64 c]) ∧ Below w.heap.size w w'))
    (HA : Hid (∀ w, Calls Tryd.prog 90 #[pv] w fun e w' => e = .returned (.tuple #[.agg #[.int .u32 z0, .int .u32 z1, .string S], .bool ok]) ∧ Below w.heap.size w w')) (w : World) :
    Calls Tryd.prog 73 #[.agg #[.int .i64 kd, .int .u32 (vl a), .int .u32 (vl b), .string B]] w fun e w' => e = .returned (.tuple #[.agg #[.int .u32 z0, .int .u32 z1, .string S], .bool ok]) ∧ Below w.heap.size w w' := by
  go_enter Tryd.func73, Tryd.ntmps73
  go_wp2_with (first
    | (go_at_call 71; ((with_reducible refine (HO.out _).mono ?_); rintro e w2 ⟨rfl, bz⟩; obtain ⟨w1, hw1⟩ : ∃ wx, wx = ((w.alloc (.cells #[.int .i64 kd, .int .u32 (vl a), .int .u32 (vl b), .string B] 49)).alloc (.cells #[.int .u32 0, .int .u32 0, .string ⟨#[]⟩] 100)) := ⟨_, rfl⟩; have bw1 := Lib.hid (show Below w.heap.size w w1 by rw [hw1]; exact (bel2 (Geom.bel_alloc _ _) (Geom.bel_alloc _ _))); have zw1 := Lib.hid (show w.heap.size + 2 ≤ w1.heap.size by rw [hw1]; simp); have vw1f := Lib.hid (show Var w1 (w.heap.size) 49 [.int .i64 kd, .int .u32 (vl a), .int .u32 (vl b), .string B] by rw [hw1]; exact ((Var.new w 49 [.int .i64 kd, .int .u32 (vl a), .int .u32 (vl b), .string B]).alloc _)); have vw1r := Lib.hid (show Var w1 (w.heap.size + 1) 100 [.int .u32 0, .int .u32 0, .string ⟨#[]⟩] by rw [hw1]; exact (show Var ((w.alloc (.cells #[.int .i64 kd, .int .u32 (vl a), .int .u32 (vl b), .string B] 49)).alloc (.cells #[.int .u32 0, .int .u32 0, .string ⟨#[]⟩] 100)) (w.heap.size + 1) 100 [.int .u32 0, .int .u32 0, .string ⟨#[]⟩] from by have h := Var.new (w.alloc (.cells #[.int .i64 kd, .int .u32 (vl a), .int .u32 (vl b), .string B] 49)) 100 [.int .u32 0, .int .u32 0, .string ⟨#[]⟩]; rw [show (w.alloc (.cells #[.int .i64 kd, .int .u32 (vl a), .int .u32 (vl b), .string B] 49)).heap.size = w.heap.size + 1 by simp] at h; exact h)); have hbel : Below w1.heap.size w1 w2 := (by rw [hw1]; exact bz); clear bz; have bw2 := Lib.hid (bel2 bw1.out hbel); have zw2 := Lib.hid hbel.size; have vw2f := Lib.hid (vw1f.out.below hbel vw1f.out.lt); have vw2r := Lib.hid (vw1r.out.below hbel vw1r.out.lt); clear hbel))
    | (go_at_call 90; ((with_reducible refine (HA.out _).mono ?_); rintro e w3 ⟨rfl, bz⟩; have hbel : Below w2.heap.size w2 w3 := (by exact bz); clear bz; have bw3 := Lib.hid (bel2 bw2.out hbel); have zw3 := Lib.hid hbel.size; have vw3f := Lib.hid (vw2f.out.below hbel vw2f.out.lt); have vw3r := Lib.hid (vw2r.out.below hbel vw2r.out.lt); clear hbel; have vf1 := (show Var w3 (w.heap.size + 1) 100 [.int .u32 0, .int .u32 0, .string ⟨#[]⟩] from vw3r.out); have c2 := vf1.cell (j := 0) rfl; have c3 := vf1.cell (j := 1) rfl; have c4 := vf1.cell (j := 2) rfl; clear vf1; have vf5 := (show Var w3 (w.heap.size + 1) 100 [.int .u32 0, .int .u32 0, .string ⟨#[]⟩] from vw3r.out); have f6 := vf5.frozen 0; have f7 := vf5.frozen 1; have f8 := vf5.frozen 2; clear vf5)))
  have vf9 := (show Var (((w3.setCell ⟨w.heap.size + 1, 0, none⟩ (.int .u32 z0)).setCell ⟨w.heap.size + 1, 1, none⟩ (.int .u32 z1)).setCell ⟨w.heap.size + 1, 2, none⟩ (.string S)) (w.heap.size + 1) 100 [.int .u32 z0, .int .u32 z1, .string S] from (((vw3r.out.set 0 (.int .u32 z0)).set 1 (.int .u32 z1)).set 2 (.string S)))
  have c10 := vf9.cell (j := 0) rfl
  have c11 := vf9.cell (j := 1) rfl
  have c12 := vf9.cell (j := 2) rfl
  clear vf9
  refine bodyPost_ret (v := .tuple #[.agg #[.int .u32 z0, .int .u32 z1, .string S], .bool ok]) (by rw [results_cell_tmp rfl]; simp [go_sem, c10, c11, c12]) rfl ?_
  exact ⟨rfl, (((bw3.out.setCell (p := ⟨w.heap.size + 1, 0, none⟩) (by have := zw1.out; have := zw2.out; have := zw3.out; simp only; omega) _).setCell (p := ⟨w.heap.size + 1, 1, none⟩) (by have := zw1.out; have := zw2.out; have := zw3.out; simp only; omega) _).setCell (p := ⟨w.heap.size + 1, 2, none⟩) (by have := zw1.out; have := zw2.out; have := zw3.out; simp only; omega) _)⟩
theorem partOf_yes (f : Fr) (hs : f.body.length ≤ maxLen) (hr : pieceR f = true) (hk : f.kind = 2) (w : World) :
    Calls Tryd.prog 73 #[fV f] w fun e w' => e = .returned (.tuple #[partV f.a f.b f.body, .bool true]) ∧ Below w.heap.size w w' := by
  have HO := fun w => of_any f hs w
  have hp : pcOf f = .part f.a f.b f.body := by unfold pcOf; rw [if_neg (by omega), if_pos hk]
  rw [ofF_ok hr, hp] at HO
  exact partOf_core f.kind f.a f.b (bs f.body) _ _ _ _ _ true HO (fun w => asPart_any (.part f.a f.b f.body) w) w
theorem partOf_zero (p : Pc) (h : isPartP p = false) : asPartV p = .agg #[.int .u32 0, .int .u32 0, .string ⟨#[]⟩] := by
  cases p <;> first | rfl | cases h
theorem partOf_not (f : Fr) (hs : f.body.length ≤ maxLen) (hn : pieceR f = false ∨ f.kind ≠ 2) (w : World) :
    Calls Tryd.prog 73 #[fV f] w fun e w' => e = .returned (.tuple #[.agg #[.int .u32 0, .int .u32 0, .string ⟨#[]⟩], .bool false]) ∧ Below w.heap.size w w' := by
  have HO := fun w => of_any f hs w
  have HA := fun w => asPart_any (ofF f).1 w
  have hz : isPartP (ofF f).1 = false := by
    cases hr : pieceR f with
    | false => rw [ofF_not hr]; rfl
    | true =>
      rw [ofF_ok hr]
      have hk : f.kind ≠ 2 := by
        rcases hn with h | h
        · rw [hr] at h; cases h
        · exact h
      show isPartP (pcOf f) = false
      unfold pcOf
      by_cases k1 : f.kind = 1
      · rw [if_pos k1]; rfl
      rw [if_neg k1]
      by_cases k2 : f.kind = 2
      · exact absurd k2 hk
      rw [if_neg k2]
      by_cases k3 : f.kind = 3
      · rw [if_pos k3]; rfl
      rw [if_neg k3]
      rfl
  rw [partOf_zero _ hz, hz] at HA
  exact partOf_core f.kind f.a f.b (bs f.body) _ _ _ _ _ false HO HA w
end Go.Proofs.YtligapgjdpdihaaDoor.Group
