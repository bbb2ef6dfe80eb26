/-
  What the document's Join answers.
-/
import Derived.Test.YtligapgjdpdihaaGreatDoorRunGroupM
import Derived.Test.YtligapgjdpdihaaGreatDoorRunRefFrame
import Derived.Test.YtligapgjdpdihaaGreatDoorRunBatchE
import Derived.Test.YtligapgjdpdihaaGreatDoorRunFlashA
set_option linter.unusedVariables false
set_option linter.unusedSimpArgs false
namespace Go.Proofs.YtligapgjdpdihaaGreatDoor.Group
open Go.RowKit
open CrcM (W)
open Crc (le4 sumOf vl wd putS)
open Flash (bs bs_size bs_list list_bs cut)
open Go.Proofs.YtligapgjdpdihaaGreatDoor.Frame (Fr zeroF fV fC bel2 below_drewN)
open Piece (pieceR isSeqB refPiece_any)
open Tup Bytes Own
open Geom (Gm gV rightG mostG needG Small right_small roomG)
open Batch (Wr WAt WMine bytesW layB rightW readW)
open Piece (four sealR)
open Go.Proofs.YtligapgjdpdihaaGreatDoor.Region (fill Then Deps Each wp_region_is wp_region_is_tail wp_region_each wp_region_tail)
theorem joinG_3 {l : List Fr} (h : l.length < 2) : joinG l = (zeroGp, 3) := by unfold joinG; rw [if_pos h]
theorem joinG_2 {l : List Fr} (h : ¬ l.length < 2) (hs : sealOk l = false) : joinG l = (zeroGp, 2) := by unfold joinG; rw [if_neg h, if_pos hs]
theorem joinG_5 {l : List Fr} (h : ¬ l.length < 2) (hs : sealOk l = true) (hm : sumsOk l = false) : joinG l = (zeroGp, 5) := by unfold joinG; rw [if_neg h, if_neg (by simp [hs]), if_pos hm]
theorem joinG_c {l : List Fr} (h : ¬ l.length < 2) (hs : sealOk l = true) (hm : sumsOk l = true) (hc : (readW (bs (textsF (headF l)))).2 ≠ 0) : joinG l = (zeroGp, (readW (bs (textsF (headF l)))).2) := by unfold joinG; rw [if_neg h, if_neg (by simp [hs]), if_neg (by simp [hm]), if_pos hc]
theorem joinG_0 {l : List Fr} (h : ¬ l.length < 2) (hs : sealOk l = true) (hm : sumsOk l = true) (hc : (readW (bs (textsF (headF l)))).2 = 0) : joinG l = (⟨(lastF l).a, wd (le4 (lastF l).body 0), wd (le4 (lastF l).body 4), (readW (bs (textsF (headF l)))).1⟩, 0) := by unfold joinG; rw [if_neg h, if_neg (by simp [hs]), if_neg (by simp [hm]), if_neg (by simp [hc])]
theorem sealOk_bad {l : List Fr} {k : Nat} (h2 : 2 ≤ l.length) (hk : k < l.length) (hb : pieceR l[k] = false) : sealOk l = false := by
  unfold sealOk
  by_cases he : k = l.length - 1
  · have hg := last_get h2
    rw [← he, List.getElem?_eq_getElem hk] at hg
    have hg2 : l[k] = lastF l := by simpa using hg
    rw [← hg2, hb]; rfl
  · have hkh : k < (headF l).length := by unfold headF; rw [List.length_take]; omega
    have hge : (headF l)[k] = l[k] := List.getElem_take (h := hkh)
    rw [partsOk_bad _ hkh (by rw [hge]; unfold okAt; rw [hb]; rfl), Bool.and_false]
set_option maxRecDepth 100000 in
set_option maxHeartbeats 8000000 in
theorem rjoin_few (a : Option Addr) (l : List Fr) (cap : Nat) (h : l.length < 2) (w : World) : Calls Tryz.prog 8 #[.slice a l.length cap] w (JoinSays (joinG l) w) := by
  rw [joinG_3 h]
  obtain ⟨n, hn⟩ : ∃ n, n = l.length := ⟨_, rfl⟩
  rw [← hn] at h ⊢
  clear hn
  have d1 : decide ((n : Int) < 2) = true := by simp; omega
  have d2 : decide (n < 2) = true := by simp; omega
  go_enter Tryz.func8, Tryz.ntmps8
  go_wp2
  have vf1 := (show Var (w.alloc (.cells #[.int .u32 0, .int .u32 0, .int .u32 0, .slice none 0 0] 27)) (w.heap.size) 27 [.int .u32 0, .int .u32 0, .int .u32 0, .slice none 0 0] from (Var.new w 27 [.int .u32 0, .int .u32 0, .int .u32 0, .slice none 0 0]))
  have c2 := vf1.cell (j := 0) rfl
  have c3 := vf1.cell (j := 1) rfl
  have c4 := vf1.cell (j := 2) rfl
  have c5 := vf1.cell (j := 3) rfl
  clear vf1
  refine bodyPost_ret (v := .tuple #[.agg #[.int .u32 0, .int .u32 0, .int .u32 0, .slice none 0 0], .int .i64 3]) (by rw [results_cell_tmp rfl]; simp [go_sem, c2, c3, c4, c5]) rfl ?_
  skip
  exact ⟨_, rfl, Batch.WMine.nil _ _, (Geom.bel_alloc _ _)⟩
set_option maxRecDepth 100000 in
set_option maxHeartbeats 8000000 in
theorem rjoin_long (b off : Nat) (l : List Fr) (n cap : Nat) (hn : n = l.length) (h2 : ¬ l.length < 2) (hl : n ≤ 1000) (hz : ∀ f ∈ l, f.body.length ≤ 1048576) (w : World) (hr : FAt w (some ⟨b, off, none⟩) l) :
    Calls Tryz.prog 8 #[.slice (some ⟨b, off, none⟩) n cap] w (JoinSays (joinG l) w) := by
  have HR := Lib.hid hr
  have HZ := Lib.hid hz
  have HL := Lib.hid hn
  have HN2 := Lib.hid h2
  have hn2 : 2 ≤ n := by omega
  clear hr hz hn h2
  have d1 : decide ((n : Int) < 2) = false := by simp; omega
  have d2 : decide (n < 2) = false := by simp; omega
  go_enter Tryz.func8, Tryz.ntmps8
  go_wp2
  obtain ⟨w1, hw1⟩ : ∃ wx, wx = (w.alloc (.cells #[.int .u32 0, .int .u32 0, .int .u32 0, .slice none 0 0] 27)) := ⟨_, rfl⟩
  have bw1 := Lib.hid (show Below w.heap.size w w1 by rw [hw1]; exact (Geom.bel_alloc _ _))
  have zw1 := Lib.hid (show w.heap.size + 1 ≤ w1.heap.size by rw [hw1]; simp)
  have vw1r := Lib.hid (show Var w1 (w.heap.size) 27 [.int .u32 0, .int .u32 0, .int .u32 0, .slice none 0 0] by rw [hw1]; exact (Var.new w 27 [.int .u32 0, .int .u32 0, .int .u32 0, .slice none 0 0]))
  rw [← hw1]
  clear hw1 d1 d2
  go_loopw [4] (fun i wr => ∃ k : Nat, i = .int .i64 (k : Int) ∧ k ≤ n ∧ (∀ f ∈ l.take k, pieceR f = true) ∧ Below w1.heap.size w1 wr) (fun i _ => n - (intOf i).toNat)
  case atStart => exact ⟨0, rfl, Nat.zero_le _, by simp, Below.refl _ _⟩
  case round =>
    obtain ⟨k, rfl, hk, hall, hbel⟩ := hrel
    have HALL := Lib.hid hall
    have HBW := Lib.hid (bel2 bw1.out hbel)
    have vrr := Lib.hid (vw1r.out.below hbel vw1r.out.lt)
    have HB1 := Lib.hid hbel
    clear hall hbel
    by_cases hlt : k < n
    case pos =>
      have d1 : decide ((k : Int) < (n : Int)) = true := by simp; omega
      have d2 : decide (k < n) = true := by simp; omega
      have hlt' : k < l.length := by rw [← HL.out]; exact hlt
      obtain ⟨b', off', ha, hblt, c0, c1, c2, c3⟩ := FAt.get (HR.out.below HBW.out) (List.getElem?_eq_getElem hlt')
      simp only [Option.some.injEq, Addr.mk.injEq, and_true] at ha
      obtain ⟨rfl, rfl⟩ := ha
      have hzk := HZ.out _ (List.getElem_mem hlt')
      have HBAD := Lib.hid (fun h => joinG_2 HN2.out (sealOk_bad (by have := HL.out; omega) hlt' h))
      have HNX : Hid (pieceR l[k] = true → ∀ f ∈ l.take (k + 1), pieceR f = true) := fun h f hf => by
        rw [List.take_succ_eq_append_getElem hlt'] at hf
        rcases List.mem_append.1 hf with hf | hf
        · exact HALL.out f hf
        · rw [List.mem_singleton.1 hf]; exact h
      generalize l[k] = x at *
      clear hlt'
      have HP := Lib.hid (fun w => refPiece_any x (by unfold maxLen; omega) w)
      have hpx : ∃ p, pieceR x = p := ⟨_, rfl⟩
      obtain ⟨p, hpx⟩ := hpx
      rw [hpx] at HP
      have HPX := Lib.hid hpx
      obtain ⟨xk, xa, xb, body⟩ := x
      unfold fV at HP
      simp only at c0 c1 c2 c3 HP
      obtain ⟨XB, hB⟩ : ∃ B, B = bs body := ⟨_, rfl⟩
      rw [← hB] at c3 HP
      clear hB hzk hpx
      cases p with
      | false =>
        go_wp2_with (first
    | (go_at_call 19; ((with_reducible refine (HP.out _).mono ?_); rintro e w21 ⟨rfl, bz⟩; have hbel : Below wr.heap.size wr w21 := (by exact bz); clear bz; have bw21 := Lib.hid (bel2 HBW.out hbel); have zw21 := Lib.hid hbel.size; have vw21r := Lib.hid (vrr.out.below hbel vrr.out.lt); clear hbel; clear c0 c1 c2 c3; have vf501 := (show Var w21 (w.heap.size) 27 [.int .u32 0, .int .u32 0, .int .u32 0, .slice none 0 0] from vw21r.out); have c502 := vf501.cell (j := 0) rfl; have c503 := vf501.cell (j := 1) rfl; have c504 := vf501.cell (j := 2) rfl; have c505 := vf501.cell (j := 3) rfl; clear vf501; have vf506 := (show Var w21 (w.heap.size) 27 [.int .u32 0, .int .u32 0, .int .u32 0, .slice none 0 0] from vw21r.out); have f507 := vf506.frozen 0; have f508 := vf506.frozen 1; have f509 := vf506.frozen 2; have f510 := vf506.frozen 3; clear vf506)))
        have vf511 := (show Var ((((w21.setCell ⟨w.heap.size, 0, none⟩ (.int .u32 0)).setCell ⟨w.heap.size, 1, none⟩ (.int .u32 0)).setCell ⟨w.heap.size, 2, none⟩ (.int .u32 0)).setCell ⟨w.heap.size, 3, none⟩ (.slice none 0 0)) (w.heap.size) 27 [.int .u32 0, .int .u32 0, .int .u32 0, .slice none 0 0] from ((((vw21r.out.set 0 (.int .u32 0)).set 1 (.int .u32 0)).set 2 (.int .u32 0)).set 3 (.slice none 0 0)))
        have c512 := vf511.cell (j := 0) rfl
        have c513 := vf511.cell (j := 1) rfl
        have c514 := vf511.cell (j := 2) rfl
        have c515 := vf511.cell (j := 3) rfl
        clear vf511
        refine bodyPost_ret (v := .tuple #[.agg #[.int .u32 0, .int .u32 0, .int .u32 0, .slice none 0 0], .int .i64 2]) (by rw [results_cell_tmp rfl]; simp [go_sem, c512, c513, c514, c515]) rfl ?_
        rw [HBAD.out HPX.out]
        exact ⟨_, rfl, Batch.WMine.nil _ _, ((((bw21.out.setCell (p := ⟨w.heap.size, 0, none⟩) (by have := zw1.out; have := zw21.out; simp only; omega) _).setCell (p := ⟨w.heap.size, 1, none⟩) (by have := zw1.out; have := zw21.out; simp only; omega) _).setCell (p := ⟨w.heap.size, 2, none⟩) (by have := zw1.out; have := zw21.out; simp only; omega) _).setCell (p := ⟨w.heap.size, 3, none⟩) (by have := zw1.out; have := zw21.out; simp only; omega) _)⟩
      | true =>
        go_wp2_with (first
    | (go_at_call 19; ((with_reducible refine (HP.out _).mono ?_); rintro e w21 ⟨rfl, bz⟩; have hbel : Below wr.heap.size wr w21 := (by exact bz); clear bz; have bw21 := Lib.hid (bel2 HBW.out hbel); have zw21 := Lib.hid hbel.size; have vw21r := Lib.hid (vrr.out.below hbel vrr.out.lt); have HBN := Lib.hid (bel2 HB1.out hbel))))
        go_roundw
        case rel => exact ⟨k + 1, by go_num, by omega, HNX.out HPX.out, HBN.out⟩
        case measure => simp [intOf]; omega
    case neg =>
      have d1 : decide ((k : Int) < (n : Int)) = false := by simp; omega
      have d2 : decide (k < n) = false := by simp; omega
      obtain rfl : k = n := by omega
      have HAL : Hid (∀ f ∈ l, pieceR f = true) := fun f hf => HALL.out f (by rw [List.take_of_length_le (by rw [← HL.out]; exact Nat.le_refl _)]; exact hf)
      obtain ⟨m, hm⟩ : ∃ m, m = k - 1 := ⟨_, rfl⟩
      have hmn : m < k := by omega
      have hm1 : 1 ≤ m := by omega
      have hmI : (k : Int) - 1 = (m : Int) := by omega
      have hm32 : (m : Int) % 4294967296 = (m : Int) := by omega
      have hg := last_get (show 2 ≤ l.length by have := HN2.out; omega)
      rw [← HL.out, ← hm] at hg
      obtain ⟨b', off', ha, hblt, c0, c1, c2, c3⟩ := FAt.get (HR.out.below HBW.out) hg
      simp only [Option.some.injEq, Addr.mk.injEq, and_true] at ha
      obtain ⟨rfl, rfl⟩ := ha
      have HM := Lib.hid hm
      have hp := HAL.out _ (mem_last (show 2 ≤ l.length by have := HN2.out; omega))
      have HSK := Lib.hid (fun hk => sealOk_at hp hk)
      have HNK := Lib.hid (fun (hk : ¬ (lastF l).kind = 3) => sealOk_not (fun e => hk e.2))
      have HS16 := Lib.hid (fun hk => seal_len hp hk)
      have HML : Hid (l.length - 1 = m) := by show _ = _; rw [← HL.out, hm]
      have HHD : Hid (headF l = l.take m) := by show _ = _; unfold headF; rw [HML.out]
      have HTK : Hid (∀ j, j ≤ m → (headF l).take j = l.take j) := fun j hj => by rw [HHD.out, List.take_take, show min j m = j by omega]
      clear hg hm hp hblt
      obtain ⟨z, hzz⟩ : ∃ z, z = lastF l := ⟨_, rfl⟩
      have HZL := Lib.hid hzz
      rw [← hzz] at c0 c1 c2 c3 HSK HNK HS16
      clear hzz
      obtain ⟨kd, fa, fb, zb⟩ := z
      simp only at c0 c1 c2 c3
      obtain ⟨FB, hB⟩ : ∃ B, B = bs zb := ⟨_, rfl⟩
      rw [← hB] at c3
      have HFB := Lib.hid hB
      clear hB
      by_cases hkd : kd = 3
      case neg =>
        have q1 : (kd == 3) = false := by rw [beq_eq_false_iff_ne]; exact hkd
        have q2 : (kd != 3) = true := by rw [bne, q1]; rfl
        have HJ := Lib.hid (joinG_2 HN2.out (HNK.out hkd))
        clear hkd
        have vf501 := (show Var (wr.alloc (.cells #[.int .i64 kd, .int .u32 (vl fa), .int .u32 (vl fb), .string FB] 29)) (w.heap.size) 27 [.int .u32 0, .int .u32 0, .int .u32 0, .slice none 0 0] from (vrr.out.alloc _))
        have c502 := vf501.cell (j := 0) rfl
        have c503 := vf501.cell (j := 1) rfl
        have c504 := vf501.cell (j := 2) rfl
        have c505 := vf501.cell (j := 3) rfl
        clear vf501
        have vf506 := (show Var (wr.alloc (.cells #[.int .i64 kd, .int .u32 (vl fa), .int .u32 (vl fb), .string FB] 29)) (w.heap.size) 27 [.int .u32 0, .int .u32 0, .int .u32 0, .slice none 0 0] from (vrr.out.alloc _))
        have f507 := vf506.frozen 0
        have f508 := vf506.frozen 1
        have f509 := vf506.frozen 2
        have f510 := vf506.frozen 3
        clear vf506
        go_wp2
        have vf511 := (show Var (((((wr.alloc (.cells #[.int .i64 kd, .int .u32 (vl fa), .int .u32 (vl fb), .string FB] 29)).setCell ⟨w.heap.size, 0, none⟩ (.int .u32 0)).setCell ⟨w.heap.size, 1, none⟩ (.int .u32 0)).setCell ⟨w.heap.size, 2, none⟩ (.int .u32 0)).setCell ⟨w.heap.size, 3, none⟩ (.slice none 0 0)) (w.heap.size) 27 [.int .u32 0, .int .u32 0, .int .u32 0, .slice none 0 0] from (((((vrr.out.alloc _).set 0 (.int .u32 0)).set 1 (.int .u32 0)).set 2 (.int .u32 0)).set 3 (.slice none 0 0)))
        have c512 := vf511.cell (j := 0) rfl
        have c513 := vf511.cell (j := 1) rfl
        have c514 := vf511.cell (j := 2) rfl
        have c515 := vf511.cell (j := 3) rfl
        clear vf511
        refine bodyPost_ret (v := .tuple #[.agg #[.int .u32 0, .int .u32 0, .int .u32 0, .slice none 0 0], .int .i64 2]) (by rw [results_cell_tmp rfl]; simp [go_sem, c512, c513, c514, c515]) rfl ?_
        rw [HJ.out]
        exact ⟨_, rfl, Batch.WMine.nil _ _, (((((bel2 HBW.out (Geom.bel_alloc _ _)).setCell (p := ⟨w.heap.size, 0, none⟩) (by have := zw1.out; simp only; omega) _).setCell (p := ⟨w.heap.size, 1, none⟩) (by have := zw1.out; simp only; omega) _).setCell (p := ⟨w.heap.size, 2, none⟩) (by have := zw1.out; simp only; omega) _).setCell (p := ⟨w.heap.size, 3, none⟩) (by have := zw1.out; simp only; omega) _)⟩
      subst hkd
      by_cases hfb : vl fb = (m : Int)
      case neg =>
        have q1 : (vl fb == (m : Int)) = false := by rw [beq_eq_false_iff_ne]; exact hfb
        have q2 : (vl fb != (m : Int)) = true := by rw [bne, q1]; rfl
        have HJ := Lib.hid (joinG_2 HN2.out (by rw [HSK.out rfl, HML.out, decide_eq_false hfb]; rfl))
        clear hfb
        have vf501 := (show Var (wr.alloc (.cells #[.int .i64 3, .int .u32 (vl fa), .int .u32 (vl fb), .string FB] 29)) (w.heap.size) 27 [.int .u32 0, .int .u32 0, .int .u32 0, .slice none 0 0] from (vrr.out.alloc _))
        have c502 := vf501.cell (j := 0) rfl
        have c503 := vf501.cell (j := 1) rfl
        have c504 := vf501.cell (j := 2) rfl
        have c505 := vf501.cell (j := 3) rfl
        clear vf501
        have vf506 := (show Var (wr.alloc (.cells #[.int .i64 3, .int .u32 (vl fa), .int .u32 (vl fb), .string FB] 29)) (w.heap.size) 27 [.int .u32 0, .int .u32 0, .int .u32 0, .slice none 0 0] from (vrr.out.alloc _))
        have f507 := vf506.frozen 0
        have f508 := vf506.frozen 1
        have f509 := vf506.frozen 2
        have f510 := vf506.frozen 3
        clear vf506
        go_wp2
        have vf511 := (show Var (((((wr.alloc (.cells #[.int .i64 3, .int .u32 (vl fa), .int .u32 (vl fb), .string FB] 29)).setCell ⟨w.heap.size, 0, none⟩ (.int .u32 0)).setCell ⟨w.heap.size, 1, none⟩ (.int .u32 0)).setCell ⟨w.heap.size, 2, none⟩ (.int .u32 0)).setCell ⟨w.heap.size, 3, none⟩ (.slice none 0 0)) (w.heap.size) 27 [.int .u32 0, .int .u32 0, .int .u32 0, .slice none 0 0] from (((((vrr.out.alloc _).set 0 (.int .u32 0)).set 1 (.int .u32 0)).set 2 (.int .u32 0)).set 3 (.slice none 0 0)))
        have c512 := vf511.cell (j := 0) rfl
        have c513 := vf511.cell (j := 1) rfl
        have c514 := vf511.cell (j := 2) rfl
        have c515 := vf511.cell (j := 3) rfl
        clear vf511
        refine bodyPost_ret (v := .tuple #[.agg #[.int .u32 0, .int .u32 0, .int .u32 0, .slice none 0 0], .int .i64 2]) (by rw [results_cell_tmp rfl]; simp [go_sem, c512, c513, c514, c515]) rfl ?_
        rw [HJ.out]
        exact ⟨_, rfl, Batch.WMine.nil _ _, (((((bel2 HBW.out (Geom.bel_alloc _ _)).setCell (p := ⟨w.heap.size, 0, none⟩) (by have := zw1.out; simp only; omega) _).setCell (p := ⟨w.heap.size, 1, none⟩) (by have := zw1.out; simp only; omega) _).setCell (p := ⟨w.heap.size, 2, none⟩) (by have := zw1.out; simp only; omega) _).setCell (p := ⟨w.heap.size, 3, none⟩) (by have := zw1.out; simp only; omega) _)⟩
      have q1 : (vl fb == (m : Int)) = true := by rw [hfb]; exact beq_self_eq_true _
      have q2 : (vl fb != (m : Int)) = false := by rw [bne, q1]; rfl
      have HSEAL := Lib.hid (show sealOk l = partsOk fa 0 (headF l) by rw [HSK.out rfl, HML.out, decide_eq_true hfb]; rfl)
      have H16 := HS16.out rfl
      simp only at H16
      clear hfb
      go_wp2
      obtain ⟨w21, hw21⟩ : ∃ wx, wx = (wr.alloc (.cells #[.int .i64 3, .int .u32 (vl fa), .int .u32 (vl fb), .string FB] 29)) := ⟨_, rfl⟩
      have bw21 := Lib.hid (show Below w.heap.size w w21 by rw [hw21]; exact (bel2 HBW.out (Geom.bel_alloc _ _)))
      have zw21 := Lib.hid (show wr.heap.size + 1 ≤ w21.heap.size by rw [hw21]; simp)
      have vw21r := Lib.hid (show Var w21 (w.heap.size) 27 [.int .u32 0, .int .u32 0, .int .u32 0, .slice none 0 0] by rw [hw21]; exact (vrr.out.alloc _))
      have vw21z := Lib.hid (show Var w21 (wr.heap.size) 29 [.int .i64 3, .int .u32 (vl fa), .int .u32 (vl fb), .string FB] by rw [hw21]; exact (Var.new wr 29 [.int .i64 3, .int .u32 (vl fa), .int .u32 (vl fb), .string FB]))
      rw [← hw21]
      clear hw21 c0 c1 c2 c3 d1 d2 q1 q2
      go_loopw [7, 8] (fun s i wq => ∃ j : Nat, i = .int .i64 (j : Int) ∧ j ≤ m ∧ s = .string (bs (textsF (l.take j))) ∧ partsOk fa 0 (l.take j) = true ∧ ∃ q, wq = w21.drewN q) (fun _ i _ => m - (intOf i).toNat)
      case atStart => exact ⟨0, rfl, Nat.zero_le _, rfl, rfl, 0, rfl⟩
      case round =>
        obtain ⟨j, rfl, hj, rfl, hpk, q0, rfl⟩ := hrel
        have HPK := Lib.hid hpk
        have hTL : (textsF (l.take j)).length ≤ 1048576000 := by
          have h := texts_len (mem_take_of HZ.out j)
          rw [List.length_take] at h; omega
        have hTs := bs_size (textsF (l.take j))
        clear hpk
        by_cases hlt2 : j < m
        case pos =>
          have d1 : decide ((j : Int) < (m : Int)) = true := by simp; omega
          have d2 : decide (j < m) = true := by simp; omega
          have hjk : j < k := by omega
          have hj32 : (j : Int) % 4294967296 = (j : Int) := by omega
          have hlt' : j < l.length := by rw [← HL.out]; omega
          obtain ⟨b', off', ha, hblt, c0, c1, c2, c3⟩ := FAt.get (HR.out.below (show Below w.heap.size w w21 from bw21.out)) (List.getElem?_eq_getElem hlt')
          simp only [Option.some.injEq, Addr.mk.injEq, and_true] at ha
          obtain ⟨rfl, rfl⟩ := ha
          have hzk := HZ.out _ (List.getElem_mem hlt')
          have hjh : j < (headF l).length := by rw [HHD.out, List.length_take]; omega
          have hge : (headF l)[j] = l[j] := List.getElem_take (h := hjh)
          have HBAD : Hid (okAt fa j l[j] = false → joinG l = (zeroGp, 2)) := fun h => joinG_2 HN2.out (by rw [HSEAL.out]; exact partsOk_bad _ hjh (by rw [hge]; exact h))
          have HNX := Lib.hid (fun h => partsOk_next fa hlt' HPK.out h)
          have HTX := Lib.hid (texts_next hlt')
          have HPJ := Lib.hid (HAL.out _ (List.getElem_mem hlt'))
          generalize l[j] = x at *
          clear hlt' hjh hge hblt
          have z0 := vw21z.out.cell (j := 0) rfl
          have z1 := vw21z.out.cell (j := 1) rfl
          have z2 := vw21z.out.cell (j := 2) rfl
          have z3 := vw21z.out.cell (j := 3) rfl
          obtain ⟨xk, xa, xb, body⟩ := x
          simp only at c0 c1 c2 c3
          have HOKA := Lib.hid (show okAt fa j ⟨xk, xa, xb, body⟩ = (decide (xk = 2) && decide (xa = fa) && decide (vl xb = (j : Int))) by unfold okAt; rw [HPJ.out]; simp)
          have hsum : (bs (textsF (l.take j))).size + (bs body).size ≤ maxLen := by
            rw [bs_size, bs_size]; unfold maxLen; have h : body.length ≤ 1048576 := hzk; omega
          unfold maxLen at hsum
          have HAPP := Lib.hid (show bs (textsF (l.take j)) ++ bs body = bs (textsF (l.take j) ++ body) by
            apply ByteArray.ext; simp [bs])
          have HTX2 := Lib.hid (show textsF (l.take (j + 1)) = textsF (l.take j) ++ body from HTX.out)
          clear hTs hTL
          generalize bs (textsF (l.take j)) = T at *
          generalize bs body = XB at *
          clear hzk
          by_cases e0 : xk = 2
          case neg =>
            have q1 : (xk == 2) = false := by rw [beq_eq_false_iff_ne]; exact e0
            have q2 : (xk != 2) = true := by rw [bne, q1]; rfl
            have HJ := Lib.hid (HBAD.out (by rw [HOKA.out, decide_eq_false e0]; rfl))
            clear e0
            go_wp2
            go_quiet (fail)
            obtain ⟨w5, hw5⟩ : ∃ w5, w5 = w21.drewN (q0 + nq) := ⟨_, rfl⟩
            have vr5 := Lib.hid (show Var w5 w.heap.size 27 [.int .u32 0, .int .u32 0, .int .u32 0, .slice none 0 0] by rw [hw5]; exact vw21r.out)
            have bw5 := Lib.hid (show Below w.heap.size w w5 by rw [hw5]; exact below_draw bw21.out ⟨_, rfl⟩)
            first | rw [← hw5] | rw [World.drewN_drewN, ← hw5]
            clear hw5
            have vf901 := (show Var w5 (w.heap.size) 27 [.int .u32 0, .int .u32 0, .int .u32 0, .slice none 0 0] from vr5.out)
            have c902 := vf901.cell (j := 0) rfl
            have c903 := vf901.cell (j := 1) rfl
            have c904 := vf901.cell (j := 2) rfl
            have c905 := vf901.cell (j := 3) rfl
            clear vf901
            have vf906 := (show Var w5 (w.heap.size) 27 [.int .u32 0, .int .u32 0, .int .u32 0, .slice none 0 0] from vr5.out)
            have f907 := vf906.frozen 0
            have f908 := vf906.frozen 1
            have f909 := vf906.frozen 2
            have f910 := vf906.frozen 3
            clear vf906
            go_wp2
            have vf911 := (show Var ((((w5.setCell ⟨w.heap.size, 0, none⟩ (.int .u32 0)).setCell ⟨w.heap.size, 1, none⟩ (.int .u32 0)).setCell ⟨w.heap.size, 2, none⟩ (.int .u32 0)).setCell ⟨w.heap.size, 3, none⟩ (.slice none 0 0)) (w.heap.size) 27 [.int .u32 0, .int .u32 0, .int .u32 0, .slice none 0 0] from ((((vr5.out.set 0 (.int .u32 0)).set 1 (.int .u32 0)).set 2 (.int .u32 0)).set 3 (.slice none 0 0)))
            have c912 := vf911.cell (j := 0) rfl
            have c913 := vf911.cell (j := 1) rfl
            have c914 := vf911.cell (j := 2) rfl
            have c915 := vf911.cell (j := 3) rfl
            clear vf911
            refine bodyPost_ret (v := .tuple #[.agg #[.int .u32 0, .int .u32 0, .int .u32 0, .slice none 0 0], .int .i64 2]) (by rw [results_cell_tmp rfl]; simp [go_sem, c912, c913, c914, c915]) rfl ?_
            rw [HJ.out]
            exact ⟨_, rfl, Batch.WMine.nil _ _, ((((bw5.out.setCell (p := ⟨w.heap.size, 0, none⟩) (by simp only; omega) _).setCell (p := ⟨w.heap.size, 1, none⟩) (by simp only; omega) _).setCell (p := ⟨w.heap.size, 2, none⟩) (by simp only; omega) _).setCell (p := ⟨w.heap.size, 3, none⟩) (by simp only; omega) _)⟩
          have q1 : (xk == 2) = true := by rw [e0]; rfl
          have q2 : (xk != 2) = false := by rw [bne, q1]; rfl
          by_cases e1 : xa = fa
          case neg =>
            have q3 : (vl xa == vl fa) = false := by rw [beq_eq_false_iff_ne]; exact fun e => e1 (Crc.vl_inj e)
            have q4 : (vl xa != vl fa) = true := by rw [bne, q3]; rfl
            have HJ := Lib.hid (HBAD.out (by rw [HOKA.out, decide_eq_false e1, Bool.and_false]; rfl))
            clear e0 e1
            go_wp2
            go_quiet (fail)
            obtain ⟨w5, hw5⟩ : ∃ w5, w5 = w21.drewN (q0 + nq) := ⟨_, rfl⟩
            have vr5 := Lib.hid (show Var w5 w.heap.size 27 [.int .u32 0, .int .u32 0, .int .u32 0, .slice none 0 0] by rw [hw5]; exact vw21r.out)
            have bw5 := Lib.hid (show Below w.heap.size w w5 by rw [hw5]; exact below_draw bw21.out ⟨_, rfl⟩)
            first | rw [← hw5] | rw [World.drewN_drewN, ← hw5]
            clear hw5
            have vf901 := (show Var w5 (w.heap.size) 27 [.int .u32 0, .int .u32 0, .int .u32 0, .slice none 0 0] from vr5.out)
            have c902 := vf901.cell (j := 0) rfl
            have c903 := vf901.cell (j := 1) rfl
            have c904 := vf901.cell (j := 2) rfl
            have c905 := vf901.cell (j := 3) rfl
            clear vf901
            have vf906 := (show Var w5 (w.heap.size) 27 [.int .u32 0, .int .u32 0, .int .u32 0, .slice none 0 0] from vr5.out)
            have f907 := vf906.frozen 0
            have f908 := vf906.frozen 1
            have f909 := vf906.frozen 2
            have f910 := vf906.frozen 3
            clear vf906
            go_wp2
            have vf911 := (show Var ((((w5.setCell ⟨w.heap.size, 0, none⟩ (.int .u32 0)).setCell ⟨w.heap.size, 1, none⟩ (.int .u32 0)).setCell ⟨w.heap.size, 2, none⟩ (.int .u32 0)).setCell ⟨w.heap.size, 3, none⟩ (.slice none 0 0)) (w.heap.size) 27 [.int .u32 0, .int .u32 0, .int .u32 0, .slice none 0 0] from ((((vr5.out.set 0 (.int .u32 0)).set 1 (.int .u32 0)).set 2 (.int .u32 0)).set 3 (.slice none 0 0)))
            have c912 := vf911.cell (j := 0) rfl
            have c913 := vf911.cell (j := 1) rfl
            have c914 := vf911.cell (j := 2) rfl
            have c915 := vf911.cell (j := 3) rfl
            clear vf911
            refine bodyPost_ret (v := .tuple #[.agg #[.int .u32 0, .int .u32 0, .int .u32 0, .slice none 0 0], .int .i64 2]) (by rw [results_cell_tmp rfl]; simp [go_sem, c912, c913, c914, c915]) rfl ?_
            rw [HJ.out]
            exact ⟨_, rfl, Batch.WMine.nil _ _, ((((bw5.out.setCell (p := ⟨w.heap.size, 0, none⟩) (by simp only; omega) _).setCell (p := ⟨w.heap.size, 1, none⟩) (by simp only; omega) _).setCell (p := ⟨w.heap.size, 2, none⟩) (by simp only; omega) _).setCell (p := ⟨w.heap.size, 3, none⟩) (by simp only; omega) _)⟩
          have q3 : (vl xa == vl fa) = true := by rw [e1]; exact beq_self_eq_true _
          have q4 : (vl xa != vl fa) = false := by rw [bne, q3]; rfl
          by_cases e2 : vl xb = (j : Int)
          case neg =>
            have q5 : (vl xb == (j : Int)) = false := by rw [beq_eq_false_iff_ne]; exact e2
            have q6 : (vl xb != (j : Int)) = true := by rw [bne, q5]; rfl
            have HJ := Lib.hid (HBAD.out (by rw [HOKA.out, decide_eq_false e2, Bool.and_false]))
            clear e0 e1 e2
            go_wp2
            go_quiet (fail)
            obtain ⟨w5, hw5⟩ : ∃ w5, w5 = w21.drewN (q0 + nq) := ⟨_, rfl⟩
            have vr5 := Lib.hid (show Var w5 w.heap.size 27 [.int .u32 0, .int .u32 0, .int .u32 0, .slice none 0 0] by rw [hw5]; exact vw21r.out)
            have bw5 := Lib.hid (show Below w.heap.size w w5 by rw [hw5]; exact below_draw bw21.out ⟨_, rfl⟩)
            first | rw [← hw5] | rw [World.drewN_drewN, ← hw5]
            clear hw5
            have vf901 := (show Var w5 (w.heap.size) 27 [.int .u32 0, .int .u32 0, .int .u32 0, .slice none 0 0] from vr5.out)
            have c902 := vf901.cell (j := 0) rfl
            have c903 := vf901.cell (j := 1) rfl
            have c904 := vf901.cell (j := 2) rfl
            have c905 := vf901.cell (j := 3) rfl
            clear vf901
            have vf906 := (show Var w5 (w.heap.size) 27 [.int .u32 0, .int .u32 0, .int .u32 0, .slice none 0 0] from vr5.out)
            have f907 := vf906.frozen 0
            have f908 := vf906.frozen 1
            have f909 := vf906.frozen 2
            have f910 := vf906.frozen 3
            clear vf906
            go_wp2
            have vf911 := (show Var ((((w5.setCell ⟨w.heap.size, 0, none⟩ (.int .u32 0)).setCell ⟨w.heap.size, 1, none⟩ (.int .u32 0)).setCell ⟨w.heap.size, 2, none⟩ (.int .u32 0)).setCell ⟨w.heap.size, 3, none⟩ (.slice none 0 0)) (w.heap.size) 27 [.int .u32 0, .int .u32 0, .int .u32 0, .slice none 0 0] from ((((vr5.out.set 0 (.int .u32 0)).set 1 (.int .u32 0)).set 2 (.int .u32 0)).set 3 (.slice none 0 0)))
            have c912 := vf911.cell (j := 0) rfl
            have c913 := vf911.cell (j := 1) rfl
            have c914 := vf911.cell (j := 2) rfl
            have c915 := vf911.cell (j := 3) rfl
            clear vf911
            refine bodyPost_ret (v := .tuple #[.agg #[.int .u32 0, .int .u32 0, .int .u32 0, .slice none 0 0], .int .i64 2]) (by rw [results_cell_tmp rfl]; simp [go_sem, c912, c913, c914, c915]) rfl ?_
            rw [HJ.out]
            exact ⟨_, rfl, Batch.WMine.nil _ _, ((((bw5.out.setCell (p := ⟨w.heap.size, 0, none⟩) (by simp only; omega) _).setCell (p := ⟨w.heap.size, 1, none⟩) (by simp only; omega) _).setCell (p := ⟨w.heap.size, 2, none⟩) (by simp only; omega) _).setCell (p := ⟨w.heap.size, 3, none⟩) (by simp only; omega) _)⟩
          have q5 : (vl xb == (j : Int)) = true := by rw [e2]; exact beq_self_eq_true _
          have q6 : (vl xb != (j : Int)) = false := by rw [bne, q5]; rfl
          have HOK := Lib.hid (show okAt fa j ⟨xk, xa, xb, body⟩ = true by rw [HOKA.out, decide_eq_true e0, decide_eq_true e1, decide_eq_true e2]; rfl)
          clear e0 e1 e2
          go_wp2
          go_quiet (fail)
          go_wp2
          go_roundw
          case rel => exact ⟨j + 1, by go_num, by omega, by rw [HTX2.out, ← HAPP.out], HNX.out HOK.out, q0 + nq, rfl⟩
          case measure => simp [intOf]; omega
        case neg =>
          obtain rfl : j = m := by omega
          have d1 : decide ((j : Int) < (j : Int)) = false := by simp
          have d2 : decide (j < j) = false := by simp
          have HSO := Lib.hid (show sealOk l = true by rw [HSEAL.out, HHD.out]; exact HPK.out)
          have HSU := Lib.hid (show sumsOk l = (decide (le4 zb 12 = ((textsF (l.take j)).length : Int)) && decide (le4 zb 8 = sumOf (textsF (l.take j)))) by unfold sumsOk; rw [← HZL.out, HHD.out])
          have HG : Hid (∀ (i : Nat), i + 4 ≤ 16 → ∀ w, Calls Tryz.prog 20 #[.string FB, .int .i64 (i : Int)] w fun e w' => e = .returned (.int .u32 (le4 zb i)) ∧ Below w.heap.size w w') := fun i hi w => by
            have := Crc.refGet_any FB (by rw [HFB.out, bs_size]; unfold maxLen; omega) i (by rw [HFB.out, bs_size]; omega) w
            rw [HFB.out, list_bs] at this
            rw [HFB.out]
            exact this.mono fun _ _ ⟨h, hq⟩ => ⟨h, Crc.belD hq⟩
          have HG0 : Hid (∀ w, Calls Tryz.prog 20 #[.string FB, .int .i64 0] w fun e w' => e = .returned (.int .u32 (le4 zb 0)) ∧ Below w.heap.size w w') := HG.out 0 (by omega)
          have HG4 : Hid (∀ w, Calls Tryz.prog 20 #[.string FB, .int .i64 4] w fun e w' => e = .returned (.int .u32 (le4 zb 4)) ∧ Below w.heap.size w w') := HG.out 4 (by omega)
          have HG8 : Hid (∀ w, Calls Tryz.prog 20 #[.string FB, .int .i64 8] w fun e w' => e = .returned (.int .u32 (le4 zb 8)) ∧ Below w.heap.size w w') := HG.out 8 (by omega)
          have HG12 : Hid (∀ w, Calls Tryz.prog 20 #[.string FB, .int .i64 12] w fun e w' => e = .returned (.int .u32 (le4 zb 12)) ∧ Below w.heap.size w w') := HG.out 12 (by omega)
          have HCR := Lib.hid (fun w => Crc.refCrc_any (bs (textsF (l.take j))) (by rw [bs_size]; unfold maxLen; omega) w)
          have HRD := Lib.hid (fun w => Batch.refRead_any (bs (textsF (l.take j))) (by rw [bs_size]; omega) w)
          have HRD := Lib.hid (fun w => read_slice (HRD.out w))
          rw [list_bs] at HCR
          have hT32 : ((bs (textsF (l.take j))).size : Int) % 4294967296 = ((bs (textsF (l.take j))).size : Int) := by rw [bs_size]; omega
          have HTZ := Lib.hid (bs_size (textsF (l.take j)))
          have HRW9 := Lib.hid (show readW (bs (textsF (headF l))) = readW (bs (textsF (l.take j))) by rw [HHD.out])
          clear hTs hTL
          obtain ⟨w5, hw5⟩ : ∃ w5, w5 = w21.drewN q0 := ⟨_, rfl⟩
          have vr5 := Lib.hid (show Var w5 w.heap.size 27 [.int .u32 0, .int .u32 0, .int .u32 0, .slice none 0 0] by rw [hw5]; exact vw21r.out)
          have vz5 := Lib.hid (show Var w5 (wr.heap.size) 29 [.int .i64 3, .int .u32 (vl fa), .int .u32 (vl fb), .string FB] by rw [hw5]; exact vw21z.out)
          have bw5 := Lib.hid (show Below w.heap.size w w5 by rw [hw5]; exact below_draw bw21.out ⟨_, rfl⟩)
          rw [← hw5]
          clear hw5
          have hg12 : ∃ x, x = le4 zb 12 := ⟨_, rfl⟩
          obtain ⟨g12, hg12⟩ := hg12
          have hg8 : ∃ x, x = le4 zb 8 := ⟨_, rfl⟩
          obtain ⟨g8, hg8⟩ := hg8
          rw [← hg12] at HG12 HSU
          rw [← hg8] at HG8 HSU
          clear hg12 hg8
          generalize sumOf (textsF (l.take j)) = cs at *
          generalize readW (bs (textsF (l.take j))) = RD at *
          rw [← HTZ.out] at HSU
          generalize bs (textsF (l.take j)) = T at *
          by_cases e12 : g12 = (T.size : Int)
          case neg =>
            have q1 : (g12 == (T.size : Int)) = false := by rw [beq_eq_false_iff_ne]; exact e12
            have q2 : (g12 != (T.size : Int)) = true := by rw [bne, q1]; rfl
            have HJ := Lib.hid (joinG_5 HN2.out HSO.out (by rw [HSU.out, decide_eq_false e12]; rfl))
            clear e12
            have vf901 := (show Var w5 (wr.heap.size) 29 [.int .i64 3, .int .u32 (vl fa), .int .u32 (vl fb), .string FB] from vz5.out)
            have c902 := vf901.cell (j := 0) rfl
            have c903 := vf901.cell (j := 1) rfl
            have c904 := vf901.cell (j := 2) rfl
            have c905 := vf901.cell (j := 3) rfl
            clear vf901
            go_wp2_with (first
    | (go_at_call 20; ((with_reducible refine (HG12.out _).mono ?_); rintro e w31 ⟨rfl, bz⟩; have hbel : Below w5.heap.size w5 w31 := (by exact bz); clear bz; have bw31 := Lib.hid (bel2 bw5.out hbel); have zw31 := Lib.hid hbel.size; have vw31r := Lib.hid (vr5.out.below hbel vr5.out.lt); have vw31z := Lib.hid (vz5.out.below hbel vz5.out.lt); clear hbel; clear c902 c903 c904 c905; have vf906 := (show Var w31 (wr.heap.size) 29 [.int .i64 3, .int .u32 (vl fa), .int .u32 (vl fb), .string FB] from vw31z.out); have c907 := vf906.cell (j := 0) rfl; have c908 := vf906.cell (j := 1) rfl; have c909 := vf906.cell (j := 2) rfl; have c910 := vf906.cell (j := 3) rfl; clear vf906; have vf911 := (show Var w31 (w.heap.size) 27 [.int .u32 0, .int .u32 0, .int .u32 0, .slice none 0 0] from vw31r.out); have c912 := vf911.cell (j := 0) rfl; have c913 := vf911.cell (j := 1) rfl; have c914 := vf911.cell (j := 2) rfl; have c915 := vf911.cell (j := 3) rfl; clear vf911; have vf916 := (show Var w31 (w.heap.size) 27 [.int .u32 0, .int .u32 0, .int .u32 0, .slice none 0 0] from vw31r.out); have f917 := vf916.frozen 0; have f918 := vf916.frozen 1; have f919 := vf916.frozen 2; have f920 := vf916.frozen 3; clear vf916)))
            have vf921 := (show Var ((((w31.setCell ⟨w.heap.size, 0, none⟩ (.int .u32 0)).setCell ⟨w.heap.size, 1, none⟩ (.int .u32 0)).setCell ⟨w.heap.size, 2, none⟩ (.int .u32 0)).setCell ⟨w.heap.size, 3, none⟩ (.slice none 0 0)) (w.heap.size) 27 [.int .u32 0, .int .u32 0, .int .u32 0, .slice none 0 0] from ((((vw31r.out.set 0 (.int .u32 0)).set 1 (.int .u32 0)).set 2 (.int .u32 0)).set 3 (.slice none 0 0)))
            have c922 := vf921.cell (j := 0) rfl
            have c923 := vf921.cell (j := 1) rfl
            have c924 := vf921.cell (j := 2) rfl
            have c925 := vf921.cell (j := 3) rfl
            clear vf921
            refine bodyPost_ret (v := .tuple #[.agg #[.int .u32 0, .int .u32 0, .int .u32 0, .slice none 0 0], .int .i64 5]) (by rw [results_cell_tmp rfl]; simp [go_sem, c922, c923, c924, c925]) rfl ?_
            rw [HJ.out]
            exact ⟨_, rfl, Batch.WMine.nil _ _, ((((bw31.out.setCell (p := ⟨w.heap.size, 0, none⟩) (by have := zw31.out; simp only; omega) _).setCell (p := ⟨w.heap.size, 1, none⟩) (by have := zw31.out; simp only; omega) _).setCell (p := ⟨w.heap.size, 2, none⟩) (by have := zw31.out; simp only; omega) _).setCell (p := ⟨w.heap.size, 3, none⟩) (by have := zw31.out; simp only; omega) _)⟩
          have q1 : (g12 == (T.size : Int)) = true := by rw [e12]; exact beq_self_eq_true _
          have q2 : (g12 != (T.size : Int)) = false := by rw [bne, q1]; rfl
          by_cases e8 : g8 = cs
          case neg =>
            have q3 : (g8 == cs) = false := by rw [beq_eq_false_iff_ne]; exact e8
            have q4 : (g8 != cs) = true := by rw [bne, q3]; rfl
            have HJ := Lib.hid (joinG_5 HN2.out HSO.out (by rw [HSU.out, decide_eq_false e8, Bool.and_false]))
            clear e12 e8
            have vf901 := (show Var w5 (wr.heap.size) 29 [.int .i64 3, .int .u32 (vl fa), .int .u32 (vl fb), .string FB] from vz5.out)
            have c902 := vf901.cell (j := 0) rfl
            have c903 := vf901.cell (j := 1) rfl
            have c904 := vf901.cell (j := 2) rfl
            have c905 := vf901.cell (j := 3) rfl
            clear vf901
            go_wp2_with (first
    | (go_at_call 20; ((with_reducible refine (HG12.out _).mono ?_); rintro e w31 ⟨rfl, bz⟩; have hbel : Below w5.heap.size w5 w31 := (by exact bz); clear bz; have bw31 := Lib.hid (bel2 bw5.out hbel); have zw31 := Lib.hid hbel.size; have vw31r := Lib.hid (vr5.out.below hbel vr5.out.lt); have vw31z := Lib.hid (vz5.out.below hbel vz5.out.lt); clear hbel; clear c902 c903 c904 c905; have vf906 := (show Var w31 (wr.heap.size) 29 [.int .i64 3, .int .u32 (vl fa), .int .u32 (vl fb), .string FB] from vw31z.out); have c907 := vf906.cell (j := 0) rfl; have c908 := vf906.cell (j := 1) rfl; have c909 := vf906.cell (j := 2) rfl; have c910 := vf906.cell (j := 3) rfl; clear vf906; have vf911 := (show Var w31 (w.heap.size) 27 [.int .u32 0, .int .u32 0, .int .u32 0, .slice none 0 0] from vw31r.out); have c912 := vf911.cell (j := 0) rfl; have c913 := vf911.cell (j := 1) rfl; have c914 := vf911.cell (j := 2) rfl; have c915 := vf911.cell (j := 3) rfl; clear vf911; have vf916 := (show Var w31 (w.heap.size) 27 [.int .u32 0, .int .u32 0, .int .u32 0, .slice none 0 0] from vw31r.out); have f917 := vf916.frozen 0; have f918 := vf916.frozen 1; have f919 := vf916.frozen 2; have f920 := vf916.frozen 3; clear vf916))
    | (go_at_call 20; ((with_reducible refine (HG8.out _).mono ?_); rintro e w32 ⟨rfl, bz⟩; have hbel : Below w31.heap.size w31 w32 := (by exact bz); clear bz; have bw32 := Lib.hid (bel2 bw31.out hbel); have zw32 := Lib.hid hbel.size; have vw32r := Lib.hid (vw31r.out.below hbel vw31r.out.lt); have vw32z := Lib.hid (vw31z.out.below hbel vw31z.out.lt); clear hbel; clear c907 c908 c909 c910 c912 c913 c914 c915 f917 f918 f919 f920; have vf921 := (show Var w32 (wr.heap.size) 29 [.int .i64 3, .int .u32 (vl fa), .int .u32 (vl fb), .string FB] from vw32z.out); have c922 := vf921.cell (j := 0) rfl; have c923 := vf921.cell (j := 1) rfl; have c924 := vf921.cell (j := 2) rfl; have c925 := vf921.cell (j := 3) rfl; clear vf921; have vf926 := (show Var w32 (w.heap.size) 27 [.int .u32 0, .int .u32 0, .int .u32 0, .slice none 0 0] from vw32r.out); have c927 := vf926.cell (j := 0) rfl; have c928 := vf926.cell (j := 1) rfl; have c929 := vf926.cell (j := 2) rfl; have c930 := vf926.cell (j := 3) rfl; clear vf926; have vf931 := (show Var w32 (w.heap.size) 27 [.int .u32 0, .int .u32 0, .int .u32 0, .slice none 0 0] from vw32r.out); have f932 := vf931.frozen 0; have f933 := vf931.frozen 1; have f934 := vf931.frozen 2; have f935 := vf931.frozen 3; clear vf931))
    | (go_at_call 21; ((with_reducible refine (HCR.out _).mono ?_); rintro e wsame ⟨rfl, rfl⟩)))
            have vf936 := (show Var ((((w32.setCell ⟨w.heap.size, 0, none⟩ (.int .u32 0)).setCell ⟨w.heap.size, 1, none⟩ (.int .u32 0)).setCell ⟨w.heap.size, 2, none⟩ (.int .u32 0)).setCell ⟨w.heap.size, 3, none⟩ (.slice none 0 0)) (w.heap.size) 27 [.int .u32 0, .int .u32 0, .int .u32 0, .slice none 0 0] from ((((vw32r.out.set 0 (.int .u32 0)).set 1 (.int .u32 0)).set 2 (.int .u32 0)).set 3 (.slice none 0 0)))
            have c937 := vf936.cell (j := 0) rfl
            have c938 := vf936.cell (j := 1) rfl
            have c939 := vf936.cell (j := 2) rfl
            have c940 := vf936.cell (j := 3) rfl
            clear vf936
            refine bodyPost_ret (v := .tuple #[.agg #[.int .u32 0, .int .u32 0, .int .u32 0, .slice none 0 0], .int .i64 5]) (by rw [results_cell_tmp rfl]; simp [go_sem, c937, c938, c939, c940]) rfl ?_
            rw [HJ.out]
            exact ⟨_, rfl, Batch.WMine.nil _ _, ((((bw32.out.setCell (p := ⟨w.heap.size, 0, none⟩) (by have := zw31.out; have := zw32.out; simp only; omega) _).setCell (p := ⟨w.heap.size, 1, none⟩) (by have := zw31.out; have := zw32.out; simp only; omega) _).setCell (p := ⟨w.heap.size, 2, none⟩) (by have := zw31.out; have := zw32.out; simp only; omega) _).setCell (p := ⟨w.heap.size, 3, none⟩) (by have := zw31.out; have := zw32.out; simp only; omega) _)⟩
          have q3 : (g8 == cs) = true := by rw [e8]; exact beq_self_eq_true _
          have q4 : (g8 != cs) = false := by rw [bne, q3]; rfl
          have HSM := Lib.hid (show sumsOk l = true by rw [HSU.out, decide_eq_true e12, decide_eq_true e8]; rfl)
          clear e12 e8
          obtain ⟨WR, rc⟩ := RD
          simp only at HRD HRW9
          by_cases hrc : rc = 0
          case neg =>
            have q5 : ((rc : Int) == 0) = false := by rw [beq_eq_false_iff_ne]; omega
            have q6 : ((rc : Int) != 0) = true := by rw [bne, q5]; rfl
            have HJ := Lib.hid (show joinG l = (zeroGp, rc) by rw [joinG_c HN2.out HSO.out HSM.out (by rw [HRW9.out]; exact hrc), HRW9.out])
            clear hrc
            have vf901 := (show Var w5 (wr.heap.size) 29 [.int .i64 3, .int .u32 (vl fa), .int .u32 (vl fb), .string FB] from vz5.out)
            have c902 := vf901.cell (j := 0) rfl
            have c903 := vf901.cell (j := 1) rfl
            have c904 := vf901.cell (j := 2) rfl
            have c905 := vf901.cell (j := 3) rfl
            clear vf901
            go_wp2_with (first
    | (go_at_call 20; ((with_reducible refine (HG12.out _).mono ?_); rintro e w31 ⟨rfl, bz⟩; have hbel : Below w5.heap.size w5 w31 := (by exact bz); clear bz; have bw31 := Lib.hid (bel2 bw5.out hbel); have zw31 := Lib.hid hbel.size; have vw31r := Lib.hid (vr5.out.below hbel vr5.out.lt); have vw31z := Lib.hid (vz5.out.below hbel vz5.out.lt); clear hbel; clear c902 c903 c904 c905; have vf906 := (show Var w31 (wr.heap.size) 29 [.int .i64 3, .int .u32 (vl fa), .int .u32 (vl fb), .string FB] from vw31z.out); have c907 := vf906.cell (j := 0) rfl; have c908 := vf906.cell (j := 1) rfl; have c909 := vf906.cell (j := 2) rfl; have c910 := vf906.cell (j := 3) rfl; clear vf906; have vf911 := (show Var w31 (w.heap.size) 27 [.int .u32 0, .int .u32 0, .int .u32 0, .slice none 0 0] from vw31r.out); have c912 := vf911.cell (j := 0) rfl; have c913 := vf911.cell (j := 1) rfl; have c914 := vf911.cell (j := 2) rfl; have c915 := vf911.cell (j := 3) rfl; clear vf911; have vf916 := (show Var w31 (w.heap.size) 27 [.int .u32 0, .int .u32 0, .int .u32 0, .slice none 0 0] from vw31r.out); have f917 := vf916.frozen 0; have f918 := vf916.frozen 1; have f919 := vf916.frozen 2; have f920 := vf916.frozen 3; clear vf916))
    | (go_at_call 20; ((with_reducible refine (HG8.out _).mono ?_); rintro e w32 ⟨rfl, bz⟩; have hbel : Below w31.heap.size w31 w32 := (by exact bz); clear bz; have bw32 := Lib.hid (bel2 bw31.out hbel); have zw32 := Lib.hid hbel.size; have vw32r := Lib.hid (vw31r.out.below hbel vw31r.out.lt); have vw32z := Lib.hid (vw31z.out.below hbel vw31z.out.lt); clear hbel; clear c907 c908 c909 c910 c912 c913 c914 c915 f917 f918 f919 f920; have vf921 := (show Var w32 (wr.heap.size) 29 [.int .i64 3, .int .u32 (vl fa), .int .u32 (vl fb), .string FB] from vw32z.out); have c922 := vf921.cell (j := 0) rfl; have c923 := vf921.cell (j := 1) rfl; have c924 := vf921.cell (j := 2) rfl; have c925 := vf921.cell (j := 3) rfl; clear vf921; have vf926 := (show Var w32 (w.heap.size) 27 [.int .u32 0, .int .u32 0, .int .u32 0, .slice none 0 0] from vw32r.out); have c927 := vf926.cell (j := 0) rfl; have c928 := vf926.cell (j := 1) rfl; have c929 := vf926.cell (j := 2) rfl; have c930 := vf926.cell (j := 3) rfl; clear vf926; have vf931 := (show Var w32 (w.heap.size) 27 [.int .u32 0, .int .u32 0, .int .u32 0, .slice none 0 0] from vw32r.out); have f932 := vf931.frozen 0; have f933 := vf931.frozen 1; have f934 := vf931.frozen 2; have f935 := vf931.frozen 3; clear vf931))
    | (go_at_call 21; ((with_reducible refine (HCR.out _).mono ?_); rintro e wsame ⟨rfl, rfl⟩))
    | (go_at_call 22; ((with_reducible refine (HRD.out _).mono ?_); rintro e w33 ⟨va, vc, rfl, hown, bz⟩; have hbel : Below w32.heap.size w32 w33 := (by exact bz); clear bz; have bw33 := Lib.hid (bel2 bw32.out hbel); have zw33 := Lib.hid hbel.size; have vw33r := Lib.hid (vw32r.out.below hbel vw32r.out.lt); have vw33z := Lib.hid (vw32z.out.below hbel vw32z.out.lt); clear hbel; clear c922 c923 c924 c925 c927 c928 c929 c930 f932 f933 f934 f935; clear hown; have vf936 := (show Var w33 (wr.heap.size) 29 [.int .i64 3, .int .u32 (vl fa), .int .u32 (vl fb), .string FB] from vw33z.out); have c937 := vf936.cell (j := 0) rfl; have c938 := vf936.cell (j := 1) rfl; have c939 := vf936.cell (j := 2) rfl; have c940 := vf936.cell (j := 3) rfl; clear vf936; have vf941 := (show Var w33 (w.heap.size) 27 [.int .u32 0, .int .u32 0, .int .u32 0, .slice none 0 0] from vw33r.out); have c942 := vf941.cell (j := 0) rfl; have c943 := vf941.cell (j := 1) rfl; have c944 := vf941.cell (j := 2) rfl; have c945 := vf941.cell (j := 3) rfl; clear vf941; have vf946 := (show Var w33 (w.heap.size) 27 [.int .u32 0, .int .u32 0, .int .u32 0, .slice none 0 0] from vw33r.out); have f947 := vf946.frozen 0; have f948 := vf946.frozen 1; have f949 := vf946.frozen 2; have f950 := vf946.frozen 3; clear vf946)))
            have vf951 := (show Var ((((w33.setCell ⟨w.heap.size, 0, none⟩ (.int .u32 0)).setCell ⟨w.heap.size, 1, none⟩ (.int .u32 0)).setCell ⟨w.heap.size, 2, none⟩ (.int .u32 0)).setCell ⟨w.heap.size, 3, none⟩ (.slice none 0 0)) (w.heap.size) 27 [.int .u32 0, .int .u32 0, .int .u32 0, .slice none 0 0] from ((((vw33r.out.set 0 (.int .u32 0)).set 1 (.int .u32 0)).set 2 (.int .u32 0)).set 3 (.slice none 0 0)))
            have c952 := vf951.cell (j := 0) rfl
            have c953 := vf951.cell (j := 1) rfl
            have c954 := vf951.cell (j := 2) rfl
            have c955 := vf951.cell (j := 3) rfl
            clear vf951
            refine bodyPost_ret (v := .tuple #[.agg #[.int .u32 0, .int .u32 0, .int .u32 0, .slice none 0 0], .int .i64 (rc : Int)]) (by rw [results_cell_tmp rfl]; simp [go_sem, c952, c953, c954, c955]) rfl ?_
            rw [HJ.out]
            exact ⟨_, rfl, Batch.WMine.nil _ _, ((((bw33.out.setCell (p := ⟨w.heap.size, 0, none⟩) (by have := zw31.out; have := zw32.out; have := zw33.out; simp only; omega) _).setCell (p := ⟨w.heap.size, 1, none⟩) (by have := zw31.out; have := zw32.out; have := zw33.out; simp only; omega) _).setCell (p := ⟨w.heap.size, 2, none⟩) (by have := zw31.out; have := zw32.out; have := zw33.out; simp only; omega) _).setCell (p := ⟨w.heap.size, 3, none⟩) (by have := zw31.out; have := zw32.out; have := zw33.out; simp only; omega) _)⟩
          subst hrc
          have HJ := Lib.hid (show joinG l = (⟨fa, wd (le4 zb 0), wd (le4 zb 4), WR⟩, 0) by rw [joinG_0 HN2.out HSO.out HSM.out (by rw [HRW9.out]), HRW9.out, ← HZL.out])
          have vf901 := (show Var w5 (wr.heap.size) 29 [.int .i64 3, .int .u32 (vl fa), .int .u32 (vl fb), .string FB] from vz5.out)
          have c902 := vf901.cell (j := 0) rfl
          have c903 := vf901.cell (j := 1) rfl
          have c904 := vf901.cell (j := 2) rfl
          have c905 := vf901.cell (j := 3) rfl
          clear vf901
          go_wp2_with (first
    | (go_at_call 20; ((with_reducible refine (HG12.out _).mono ?_); rintro e w31 ⟨rfl, bz⟩; have hbel : Below w5.heap.size w5 w31 := (by exact bz); clear bz; have bw31 := Lib.hid (bel2 bw5.out hbel); have zw31 := Lib.hid hbel.size; have vw31r := Lib.hid (vr5.out.below hbel vr5.out.lt); have vw31z := Lib.hid (vz5.out.below hbel vz5.out.lt); clear hbel; clear c902 c903 c904 c905; have vf906 := (show Var w31 (wr.heap.size) 29 [.int .i64 3, .int .u32 (vl fa), .int .u32 (vl fb), .string FB] from vw31z.out); have c907 := vf906.cell (j := 0) rfl; have c908 := vf906.cell (j := 1) rfl; have c909 := vf906.cell (j := 2) rfl; have c910 := vf906.cell (j := 3) rfl; clear vf906; have vf911 := (show Var w31 (w.heap.size) 27 [.int .u32 0, .int .u32 0, .int .u32 0, .slice none 0 0] from vw31r.out); have c912 := vf911.cell (j := 0) rfl; have c913 := vf911.cell (j := 1) rfl; have c914 := vf911.cell (j := 2) rfl; have c915 := vf911.cell (j := 3) rfl; clear vf911; have vf916 := (show Var w31 (w.heap.size) 27 [.int .u32 0, .int .u32 0, .int .u32 0, .slice none 0 0] from vw31r.out); have f917 := vf916.frozen 0; have f918 := vf916.frozen 1; have f919 := vf916.frozen 2; have f920 := vf916.frozen 3; clear vf916))
    | (go_at_call 20; ((with_reducible refine (HG8.out _).mono ?_); rintro e w32 ⟨rfl, bz⟩; have hbel : Below w31.heap.size w31 w32 := (by exact bz); clear bz; have bw32 := Lib.hid (bel2 bw31.out hbel); have zw32 := Lib.hid hbel.size; have vw32r := Lib.hid (vw31r.out.below hbel vw31r.out.lt); have vw32z := Lib.hid (vw31z.out.below hbel vw31z.out.lt); clear hbel; clear c907 c908 c909 c910 c912 c913 c914 c915 f917 f918 f919 f920; have vf921 := (show Var w32 (wr.heap.size) 29 [.int .i64 3, .int .u32 (vl fa), .int .u32 (vl fb), .string FB] from vw32z.out); have c922 := vf921.cell (j := 0) rfl; have c923 := vf921.cell (j := 1) rfl; have c924 := vf921.cell (j := 2) rfl; have c925 := vf921.cell (j := 3) rfl; clear vf921; have vf926 := (show Var w32 (w.heap.size) 27 [.int .u32 0, .int .u32 0, .int .u32 0, .slice none 0 0] from vw32r.out); have c927 := vf926.cell (j := 0) rfl; have c928 := vf926.cell (j := 1) rfl; have c929 := vf926.cell (j := 2) rfl; have c930 := vf926.cell (j := 3) rfl; clear vf926; have vf931 := (show Var w32 (w.heap.size) 27 [.int .u32 0, .int .u32 0, .int .u32 0, .slice none 0 0] from vw32r.out); have f932 := vf931.frozen 0; have f933 := vf931.frozen 1; have f934 := vf931.frozen 2; have f935 := vf931.frozen 3; clear vf931))
    | (go_at_call 21; ((with_reducible refine (HCR.out _).mono ?_); rintro e wsame ⟨rfl, rfl⟩))
    | (go_at_call 22; ((with_reducible refine (HRD.out _).mono ?_); rintro e w33 ⟨va, vc, rfl, hown, bz⟩; have hbel : Below w32.heap.size w32 w33 := (by exact bz); clear bz; have bw33 := Lib.hid (bel2 bw32.out hbel); have zw33 := Lib.hid hbel.size; have vw33r := Lib.hid (vw32r.out.below hbel vw32r.out.lt); have vw33z := Lib.hid (vw32z.out.below hbel vw32z.out.lt); clear hbel; clear c922 c923 c924 c925 c927 c928 c929 c930 f932 f933 f934 f935; have HOW := Lib.hid (wmine_base hown (b' := w.heap.size + 1) (by have := vz5.out.lt; have := zw1.out; have := vrr.out.lt; have := zw31.out; have := zw32.out;  omega)); clear hown; have vf936 := (show Var w33 (wr.heap.size) 29 [.int .i64 3, .int .u32 (vl fa), .int .u32 (vl fb), .string FB] from vw33z.out); have c937 := vf936.cell (j := 0) rfl; have c938 := vf936.cell (j := 1) rfl; have c939 := vf936.cell (j := 2) rfl; have c940 := vf936.cell (j := 3) rfl; clear vf936)))
          clear c937 c938 c939 c940
          refine wp_region_is_tail 10 [110, 111, 112, 113, 114, 115, 116, 117, 118, 119] (fun w' => Below w33.heap.size w33 w')
            [.pointer (some ⟨wr.heap.size, 1, none⟩), .int .u32 (vl fa), .pointer (some ⟨wr.heap.size, 3, none⟩), .string FB, .int .u32 (le4 zb 0), .pointer (some ⟨wr.heap.size, 3, none⟩), .string FB, .int .u32 (le4 zb 4), .slice va WR.length vc, .agg #[.int .u32 (vl fa), .int .u32 (le4 zb 0), .int .u32 (le4 zb 4), .slice va WR.length vc]] (by kernel_rfl) (by kernel_rfl) (by kernel_rfl) (by decide) rfl (by decide) (by simp) (Below.refl _ _).drew ?each ?done
          case each =>
            simp only [List.take_succ_cons, List.take_zero, Each]
            repeat' (first | exact trivial | refine And.intro ?_ ?_)
            all_goals
              intro ys wx hBx hdeps
              simp only [Deps, Region.binds, List.getD_cons_zero, List.getD_cons_succ, forall_const, and_true] at hdeps
              have q941 := (vw33z.out.below hBx vw33z.out.lt).cell (j := 1) rfl
              have q942 := (vw33z.out.below hBx vw33z.out.lt).cell (j := 3) rfl
              simp only [hdeps, fill, List.foldl_cons, List.foldl_nil, Act.put, List.setIfInBounds_toArray, List.set_cons_succ, List.set_cons_zero]
              first
                | (go_wp2_with fail; exact ⟨_, rfl, rfl, hBx, Below.refl _ _⟩)
                | (go_wp2_with (go_at_call 20; (with_reducible refine (HG0.out _).mono ?_); rintro e w3 ⟨rfl, hbm⟩); exact ⟨_, rfl, rfl, hBx.trans (hbm.mono hBx.size), hbm⟩)
                | (go_wp2_with (go_at_call 20; (with_reducible refine (HG4.out _).mono ?_); rintro e w3 ⟨rfl, hbm⟩); exact ⟨_, rfl, rfl, hBx.trans (hbm.mono hBx.size), hbm⟩)
          case done =>
            intro ys wx hBx hV
            obtain ⟨w34, hw34⟩ : ∃ wy, wy = wx := ⟨_, rfl⟩
            rw [← hw34] at hBx ⊢
            have bw34 := Lib.hid (bel2 bw33.out hBx)
            have zw34 := Lib.hid hBx.size
            have vw34r := Lib.hid (vw33r.out.below hBx vw33r.out.lt)
            have vw34z := Lib.hid (vw33z.out.below hBx vw33z.out.lt)
            have h119 : ys 119 = .agg #[.int .u32 (vl fa), .int .u32 (le4 zb 0), .int .u32 (le4 zb 4), .slice va WR.length vc] := hV 9 (by decide)
            have hKEEP := Lib.hid hBx
            clear hBx hV hw34
            have HOW2 := Lib.hid (owns_below HOW.out hKEEP.out)
            simp only [h119, fill, List.drop_succ_cons, List.drop_zero, List.foldl_cons, List.foldl_nil, Act.put, List.setIfInBounds_toArray, List.set_cons_succ, List.set_cons_zero]
            have vf943 := (show Var w34 (w.heap.size) 27 [.int .u32 0, .int .u32 0, .int .u32 0, .slice none 0 0] from vw34r.out)
            have c944 := vf943.cell (j := 0) rfl
            have c945 := vf943.cell (j := 1) rfl
            have c946 := vf943.cell (j := 2) rfl
            have c947 := vf943.cell (j := 3) rfl
            clear vf943
            have vf948 := (show Var w34 (w.heap.size) 27 [.int .u32 0, .int .u32 0, .int .u32 0, .slice none 0 0] from vw34r.out)
            have f949 := vf948.frozen 0
            have f950 := vf948.frozen 1
            have f951 := vf948.frozen 2
            have f952 := vf948.frozen 3
            clear vf948
            go_wp2
            have vf953 := (show Var ((((w34.setCell ⟨w.heap.size, 0, none⟩ (.int .u32 (vl fa))).setCell ⟨w.heap.size, 1, none⟩ (.int .u32 (le4 zb 0))).setCell ⟨w.heap.size, 2, none⟩ (.int .u32 (le4 zb 4))).setCell ⟨w.heap.size, 3, none⟩ (.slice va WR.length vc)) (w.heap.size) 27 [.int .u32 (vl fa), .int .u32 (le4 zb 0), .int .u32 (le4 zb 4), .slice va WR.length vc] from ((((vw34r.out.set 0 (.int .u32 (vl fa))).set 1 (.int .u32 (le4 zb 0))).set 2 (.int .u32 (le4 zb 4))).set 3 (.slice va WR.length vc)))
            have c954 := vf953.cell (j := 0) rfl
            have c955 := vf953.cell (j := 1) rfl
            have c956 := vf953.cell (j := 2) rfl
            have c957 := vf953.cell (j := 3) rfl
            clear vf953
            refine bodyPost_ret (v := .tuple #[.agg #[.int .u32 (vl fa), .int .u32 (le4 zb 0), .int .u32 (le4 zb 4), .slice va WR.length vc], .int .i64 0]) (by rw [results_cell_tmp rfl]; simp [go_sem, c954, c955, c956, c957]) rfl ?_
            rw [HJ.out]
            exact ⟨_, (by unfold gpV; simp only; rw [Piece.wd_le4, Piece.wd_le4]; rfl), wmine_base (owns_set_far (owns_set_far (owns_set_far (owns_set_far HOW2.out _ _ (by simp)) _ _ (by simp)) _ _ (by simp)) _ _ (by simp)) (Nat.le_succ _), ((((bw34.out.setCell (p := ⟨w.heap.size, 0, none⟩) (by have := zw31.out; have := zw32.out; have := zw33.out; have := zw34.out; simp only; omega) _).setCell (p := ⟨w.heap.size, 1, none⟩) (by have := zw31.out; have := zw32.out; have := zw33.out; have := zw34.out; simp only; omega) _).setCell (p := ⟨w.heap.size, 2, none⟩) (by have := zw31.out; have := zw32.out; have := zw33.out; have := zw34.out; simp only; omega) _).setCell (p := ⟨w.heap.size, 3, none⟩) (by have := zw31.out; have := zw32.out; have := zw33.out; have := zw34.out; simp only; omega) _)⟩
theorem refJoin_any (a : Option Addr) (l : List Fr) (cap : Nat) (hl : l.length ≤ 1000) (hz : ∀ f ∈ l, f.body.length ≤ 1048576) (w : World) (hr : FAt w a l) :
    Calls Tryz.prog 8 #[.slice a l.length cap] w (JoinSays (joinG l) w) := by
  by_cases h : l.length < 2
  · exact rjoin_few a l cap h w
  · obtain ⟨b, off, rfl, _⟩ := hr.get (last_get (show 2 ≤ l.length by omega))
    exact rjoin_long b off l l.length cap rfl h hl hz w hr
end Go.Proofs.YtligapgjdpdihaaGreatDoor.Group
