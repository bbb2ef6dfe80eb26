/-
  TapeFull's walk.
-/
import Derived.Test.YtcmjambbdfangaaRunTapeL
import Derived.Test.YtcmjambbdfangaaRunTapeR
import Derived.Test.YtcmjambbdfangaaTapeFr
set_option linter.unusedVariables false
set_option linter.unusedSimpArgs false
namespace Go.Proofs.Ytcmjambbdfangaa.Tape
open Go.RowKit
open Go.Proofs.Ytcmjambbdfangaa.Own
open CrcM (W)
open Crc (vl wd)
open Flash (newD readD Dev FHas RHas programD eraseD flushD bs list_bs)
open Chart (newC pgC Ch CHas DHas openC takeC eraseC setC)
open Go.Proofs.Ytcmjambbdfangaa.Frame (Fr fV page bytesG)
open Tup Foot Bytes
open Go.Proofs.Ytcmjambbdfangaa.Region (fill Then Deps Each wp_region_is wp_region_is_tail wp_region_each wp_region_tail slots TJ TJ2 Each2 Deps2 wp_region_each3 upd put)

set_option maxRecDepth 100000 in
set_option maxHeartbeats 32000000 in
theorem full_any (gp gs gr : Int) (s : ByteArray) (hs : s.size ≤ maxLen) (w : World) :
    Calls Try.prog 4 #[Geom.gV ⟨gp, gs, gr⟩, .string s] w fun e w' => e = .returned (.bool true) ∧ Below w.heap.size w w' := by
  unfold Geom.gV
  obtain ⟨pg, hpg⟩ : ∃ n : Nat, (n : Int) = 32 + gp % 33 := ⟨(32 + gp % 33).toNat, by omega⟩
  obtain ⟨pgs, hpgs⟩ : ∃ n : Nat, (n : Int) = 3 + gs % 4 := ⟨(3 + gs % 4).toNat, by omega⟩
  obtain ⟨rgs, hrgs⟩ : ∃ n : Nat, (n : Int) = 4 + gr % 4 := ⟨(4 + gr % 4).toNat, by omega⟩
  have p0 : 32 ≤ pg := by omega
  have p1 : pg ≤ 64 := by omega
  have s0 : 3 ≤ pgs := by omega
  have s1 : pgs ≤ 6 := by omega
  have r0 : 4 ≤ rgs := by omega
  have r1 : rgs ≤ 7 := by omega
  have HG : Hid (∀ w, Calls Try.prog 8 #[.agg #[.int .i64 gp, .int .i64 gs, .int .i64 gr]] w fun e w' => e = .returned (.agg #[.int .i64 (pg : Int), .int .i64 (pgs : Int), .int .i64 (rgs : Int)]) ∧ Below w.heap.size w w') := fun w => by
    rw [hpg, hpgs, hrgs]; exact Geom.geom_any ⟨gp, gs, gr⟩ w
  have HAL := Lib.hid (fun w => alive_any w)
  have SZ := Lib.hid (show Sz pg pgs rgs from ⟨p0, by omega, s0, by omega, r0, by omega⟩)
  have HM := Lib.hid (fun w => made_any SZ.out w)
  have OK0 := Lib.hid (new_ok (pg := pg) (pgs := pgs) (rgs := rgs) p0 (by omega) s0 (by omega) r0 (by omega))
  clear hpg hpgs hrgs
  obtain ⟨sl, hsl⟩ : ∃ sl, sl = pgs - 1 := ⟨_, rfl⟩
  have HSL : Hid (∀ w, Calls Try.prog 12 #[.agg #[.int .i64 (pg : Int), .int .i64 (pgs : Int), .int .i64 (rgs : Int)]] w fun e w' => e = .returned (.int .i64 (sl : Int)) ∧ Below w.heap.size w w') := fun w => by
    have := Geom.refSlots_any ⟨pg, pgs, rgs⟩ ⟨by simp only; omega, by simp only; omega, by simp only; omega, by simp only; omega, by simp only; omega, by simp only; omega⟩ w
    rw [show Geom.slotsG ⟨pg, pgs, rgs⟩ = (sl : Int) by unfold Geom.slotsG; simp only; omega] at this
    exact this
  have HRM : Hid (∀ w, Calls Try.prog 19 #[.agg #[.int .i64 (pg : Int), .int .i64 (pgs : Int), .int .i64 (rgs : Int)]] w fun e w' => e = .returned (.int .i64 ((pg - 15 : Nat) : Int)) ∧ Below w.heap.size w w') := fun w => by
    have := Geom.refRoom_any ⟨pg, pgs, rgs⟩ ⟨by simp only; omega, by simp only; omega, by simp only; omega, by simp only; omega, by simp only; omega, by simp only; omega⟩ w
    rw [show Geom.roomG ⟨pg, pgs, rgs⟩ = ((pg - 15 : Nat) : Int) by unfold Geom.roomG; simp only; omega] at this
    exact this
  have HSH := Lib.hid (fun w => shortT s hs (pg - 15) (by omega) w)
  obtain ⟨X, hX⟩ : ∃ X : Fr, X = ⟨2, 1#32, 0#32, s.data.toList.take (pg - 15)⟩ := ⟨_, rfl⟩
  have OKX := Lib.hid (show X.Ok pg by rw [hX]; exact ⟨by show (1 : Int) ≤ 2; omega, by show (2 : Int) ≤ 4; omega, by show (s.data.toList.take (pg - 15)).length + 15 ≤ pg; rw [List.length_take]; omega, p0, by omega⟩)
  have HXL := Lib.hid (show X.body.length ≤ maxLen by have := OKX.out.fits; unfold maxLen; omega)
  obtain ⟨B, hB⟩ : ∃ B, B = bs (s.data.toList.take (pg - 15)) := ⟨_, rfl⟩
  rw [← hB] at HSH
  have HFV := Lib.hid (show fV X = .agg #[.int .i64 2, .int .u32 1, .int .u32 0, .string B] by rw [hX, hB]; rfl)
  obtain ⟨NF, hNF⟩ : ∃ NF, NF = rgs * sl := ⟨_, rfl⟩
  have hNF3 : NF ≤ 35 := by rw [hNF]; exact Nat.mul_le_mul r1 (show sl ≤ 5 by omega)
  have hmul : (rgs : Int) * (sl : Int) = (NF : Int) := by rw [hNF, Int.natCast_mul]
  have HNF := Lib.hid (show NF = rgs * (pgs - 1) by rw [hNF, hsl])
  have z1 : (NF : Int) == (NF : Int) := by simp
  clear hX hB hs hsl hNF
  have vf1 := (show Var (w.alloc (.cells #[.int .i64 gp, .int .i64 gs, .int .i64 gr] 23)) (w.heap.size) 23 [.int .i64 gp, .int .i64 gs, .int .i64 gr] from (Var.new w 23 [.int .i64 gp, .int .i64 gs, .int .i64 gr]))
  have c2 := vf1.cell (j := 0) rfl
  have c3 := vf1.cell (j := 1) rfl
  have c4 := vf1.cell (j := 2) rfl
  clear vf1
  go_enter Try.func4, Try.ntmps4
  go_wp2_with (first
    | (go_at_call 8; go_loud ((with_reducible refine (HG.out _).mono ?_); rintro e w2 ⟨rfl, bz⟩; obtain ⟨w1, hw1⟩ : ∃ wx, wx = (w.alloc (.cells #[.int .i64 gp, .int .i64 gs, .int .i64 gr] 23)) := ⟨_, rfl⟩; have bw1 := Lib.hid (show Below w.heap.size w w1 by rw [hw1]; exact (Geom.bel_alloc _ _)); have zw1 := Lib.hid (show w.heap.size + 1 ≤ w1.heap.size by rw [hw1]; simp); have vw1g := Lib.hid (show Var w1 (w.heap.size) 23 [.int .i64 gp, .int .i64 gs, .int .i64 gr] by rw [hw1]; exact (Var.new w 23 [.int .i64 gp, .int .i64 gs, .int .i64 gr])); have hbel : Below w1.heap.size w1 w2 := (by rw [hw1]; exact bz); clear bz; have bw2 := Lib.hid (bel2 bw1.out hbel); have zw2 := Lib.hid hbel.size; have vw2g := Lib.hid (vw1g.out.below hbel vw1g.out.lt); clear hbel; clear c2 c3 c4; have vf5 := (show Var w2 (w.heap.size) 23 [.int .i64 gp, .int .i64 gs, .int .i64 gr] from vw2g.out); have c6 := vf5.cell (j := 0) rfl; have c7 := vf5.cell (j := 1) rfl; have c8 := vf5.cell (j := 2) rfl; clear vf5; have vf9 := (show Var w2 (w.heap.size) 23 [.int .i64 gp, .int .i64 gs, .int .i64 gr] from vw2g.out); have f10 := vf9.frozen 0; have f11 := vf9.frozen 1; have f12 := vf9.frozen 2; clear vf9; have vf13 := (show Var (((w2.setCell ⟨w.heap.size, 0, none⟩ (.int .i64 (pg : Int))).setCell ⟨w.heap.size, 1, none⟩ (.int .i64 (pgs : Int))).setCell ⟨w.heap.size, 2, none⟩ (.int .i64 (rgs : Int))) (w.heap.size) 23 [.int .i64 (pg : Int), .int .i64 (pgs : Int), .int .i64 (rgs : Int)] from (((vw2g.out.set 0 (.int .i64 (pg : Int))).set 1 (.int .i64 (pgs : Int))).set 2 (.int .i64 (rgs : Int)))); have c14 := vf13.cell (j := 0) rfl; have c15 := vf13.cell (j := 1) rfl; have c16 := vf13.cell (j := 2) rfl; clear vf13))
    | (go_at_call 9; go_loud ((with_reducible refine (HM.out _).mono ?_); rintro e w4 ⟨P, p, q, t, r, p', q', F, G, rfl, hpair, bz, hfoot⟩; obtain ⟨w3, hw3⟩ : ∃ wx, wx = (((w2.setCell ⟨w.heap.size, 0, none⟩ (.int .i64 (pg : Int))).setCell ⟨w.heap.size, 1, none⟩ (.int .i64 (pgs : Int))).setCell ⟨w.heap.size, 2, none⟩ (.int .i64 (rgs : Int))) := ⟨_, rfl⟩; have bw3 := Lib.hid (show Below w.heap.size w w3 by rw [hw3]; exact (((bw2.out.setCell (p := ⟨w.heap.size, 0, none⟩) (by have := zw1.out; have := zw2.out; simp only; omega) _).setCell (p := ⟨w.heap.size, 1, none⟩) (by have := zw1.out; have := zw2.out; simp only; omega) _).setCell (p := ⟨w.heap.size, 2, none⟩) (by have := zw1.out; have := zw2.out; simp only; omega) _)); have zw3 := Lib.hid (show w2.heap.size + 0 ≤ w3.heap.size by rw [hw3]; simp); have vw3g := Lib.hid (show Var w3 (w.heap.size) 23 [.int .i64 (pg : Int), .int .i64 (pgs : Int), .int .i64 (rgs : Int)] by rw [hw3]; exact (((vw2g.out.set 0 (.int .i64 (pg : Int))).set 1 (.int .i64 (pgs : Int))).set 2 (.int .i64 (rgs : Int)))); have hbel : Below w3.heap.size w3 w4 := (by rw [hw3]; exact bz); clear bz; have bw4 := Lib.hid (bel2 bw3.out hbel); have zw4 := Lib.hid hbel.size; have vw4g := Lib.hid (vw3g.out.below hbel vw3g.out.lt); clear hbel; clear c6 c7 c8 f10 f11 f12 c14 c15 c16; rw [← hw3] at hfoot; have kH := Lib.hid hpair; have HFT := Lib.hid hfoot; clear hpair hfoot))
    | (go_at_call 10; go_loud ((with_reducible refine (HAL.out _).mono ?_); rintro e w5 ⟨rfl, bz⟩; have hbel : Below w4.heap.size w4 w5 := (by exact bz); clear bz; have bw5 := Lib.hid (bel2 bw4.out hbel); have zw5 := Lib.hid hbel.size; have vw5g := Lib.hid (vw4g.out.below hbel vw4g.out.lt); have kw5H := Lib.hid (kH.out.below hbel); clear hbel; have vf17 := (show Var w5 (w.heap.size) 23 [.int .i64 (pg : Int), .int .i64 (pgs : Int), .int .i64 (rgs : Int)] from vw5g.out); have c18 := vf17.cell (j := 0) rfl; have c19 := vf17.cell (j := 1) rfl; have c20 := vf17.cell (j := 2) rfl; clear vf17))
    | (go_at_call 19; go_loud ((with_reducible refine (HRM.out _).mono ?_); rintro e w6 ⟨rfl, bz⟩; have hbel : Below w5.heap.size w5 w6 := (by exact bz); clear bz; have bw6 := Lib.hid (bel2 bw5.out hbel); have zw6 := Lib.hid hbel.size; have vw6g := Lib.hid (vw5g.out.below hbel vw5g.out.lt); have kw6H := Lib.hid (kw5H.out.below hbel); clear hbel; clear c18 c19 c20))
    | (go_at_call 18; ((with_reducible refine (HSH.out _).mono ?_); rintro e wsame ⟨rfl, rfl⟩)))
  obtain ⟨w7, hw7⟩ : ∃ wx, wx = (w6.alloc (.cells #[.int .i64 2, .int .u32 1, .int .u32 0, .string B] 43)) := ⟨_, rfl⟩
  have bw7 := Lib.hid (show Below w.heap.size w w7 by rw [hw7]; exact (bel2 bw6.out (Geom.bel_alloc _ _)))
  have zw7 := Lib.hid (show w6.heap.size + 1 ≤ w7.heap.size by rw [hw7]; simp)
  have vw7g := Lib.hid (show Var w7 (w.heap.size) 23 [.int .i64 (pg : Int), .int .i64 (pgs : Int), .int .i64 (rgs : Int)] by rw [hw7]; exact (vw6g.out.alloc _))
  have vw7x := Lib.hid (show Var w7 (w6.heap.size) 43 [.int .i64 2, .int .u32 1, .int .u32 0, .string B] by rw [hw7]; exact (Var.new w6 43 [.int .i64 2, .int .u32 1, .int .u32 0, .string B]))
  have hnm : Below w6.heap.size w6 w7 := (by rw [hw7]; exact (Geom.bel_alloc _ _))
  have kw7H := Lib.hid (kw6H.out.below hnm)
  clear hnm
  rw [← hw7]
  clear hw7
  have FT0 := Lib.hid (show ∀ k, both F G k → w.heap.size ≤ k from fun k hk => by have := HFT.out k hk; have := zw1.out; have := zw2.out; have := zw3.out; have := zw4.out; have := zw5.out; have := zw6.out; have := zw7.out; omega)
  have NNg := Lib.hid (show ¬ both F G (w.heap.size) from fun hk => by have := HFT.out _ hk; have := zw1.out; have := zw2.out; have := zw3.out; have := zw4.out; have := zw5.out; have := zw6.out; have := zw7.out; omega)
  have NNx := Lib.hid (show ¬ both F G (w6.heap.size) from fun hk => by have := kw6H.out.lt _ hk; omega)
  have KG := Lib.hid (show Kept w7 w.heap.size 23 [.int .i64 (pg : Int), .int .i64 (pgs : Int), .int .i64 (rgs : Int)] (both F G) from ⟨vw7g.out, NNg.out⟩)
  have KX := Lib.hid (show Kept w7 w6.heap.size 43 [.int .i64 2, .int .u32 1, .int .u32 0, .string B] (both F G) from ⟨vw7x.out, NNx.out⟩)
  have KB := Lib.hid bw7.out
  go_loopw [7] (fun v wr => ∃ (i : Nat) (tp : Tp) (F' : Nat → Prop), v = .int .i64 (i : Int) ∧ i ≤ NF ∧ At pg pgs rgs tp i none ∧ tp.Ok ∧ Pair wr P p q t r p' q' tp (newT pg pgs rgs) F' G ∧ Kept wr w.heap.size 23 [.int .i64 (pg : Int), .int .i64 (pgs : Int), .int .i64 (rgs : Int)] (both F' G) ∧ Kept wr (w6.heap.size) 43 [.int .i64 2, .int .u32 1, .int .u32 0, .string B] (both F' G) ∧ Below w.heap.size w wr ∧ ∀ k, both F' G k → w.heap.size ≤ k) (fun v _ => NF - (intOf v).toNat)
  case atStart => exact ⟨0, _, F, rfl, Nat.zero_le _, at_new none, OK0.out, kw7H.out, KG.out, KX.out, KB.out, FT0.out⟩
  case round =>
    obtain ⟨i, tp, FL, rfl, hi, hat, hok, hpair, hkg, hkx, hbel, hft⟩ := hrel
    have HAT := Lib.hid hat
    have HOK := Lib.hid hok
    have HP := Lib.hid hpair
    have VG := Lib.hid hkg.var
    have NG := Lib.hid hkg.no
    have VX := Lib.hid hkx.var
    have NX := Lib.hid hkx.no
    have BL := Lib.hid hbel
    have FTL := Lib.hid hft
    clear hat hok hpair hkg hkx hbel hft
    by_cases hlt : i < NF
    · have d1 : decide ((i : Int) < (NF : Int)) = true := by simp; omega
      have d2 : decide (i < NF) = true := by simp; omega
      have hil : i < rgs * (pgs - 1) := by rw [← HNF.out]; exact hlt
      obtain ⟨t2, ea, hat2, _, _, _⟩ := append_goes SZ.out HAT.out hil OKX.out (fun n hn => by cases hn)
      have OK2 := Lib.hid (show t2.Ok by have := append_ok HOK.out X; rw [ea] at this; exact this)
      have HAT2 := Lib.hid hat2
      have hap := fun w F' (h : Pair w P p q t r p' q' tp (newT pg pgs rgs) F' G) => pAppend h HOK.out X HXL.out
      rw [ea] at hap
      rw [HFV.out] at hap
      generalize i / (pgs - 1) * pgs + 1 + i % (pgs - 1) = AT at hap
      have HAP := Lib.hid hap
      clear hap ea hat2 hil
      go_wp2
      refine wp_region_is [32, 33, 34, 35, 36, 37, 38] (fun w' => Below wr.heap.size wr w')
        [.int .i64 (i : Int), .pointer (some ⟨w.heap.size, 2, none⟩), .int .i64 (rgs : Int), .agg #[.int .i64 (pg : Int), .int .i64 (pgs : Int), .int .i64 (rgs : Int)], .int .i64 (sl : Int), .int .i64 (NF : Int), .bool true] (by kernel_rfl) (by kernel_rfl) rfl (by decide) (by simp) (Below.refl _ _).drew ?eachrtrue ?donertrue
      case eachrtrue =>
        simp only [Each]
        repeat' (first | exact trivial | refine And.intro ?_ ?_)
        all_goals
          intro ys wx hBx hdeps
          simp only [Deps, Region.binds, List.getD_cons_zero, List.getD_cons_succ, forall_const, and_true] at hdeps
          have qA1 := (VG.out.below hBx VG.out.lt).cell (j := 0) rfl
          have qA2 := (VG.out.below hBx VG.out.lt).cell (j := 1) rfl
          have qA3 := (VG.out.below hBx VG.out.lt).cell (j := 2) rfl
          simp only [hdeps, fill, List.foldl_cons, List.foldl_nil, Act.put, List.setIfInBounds_toArray, List.set_cons_succ, List.set_cons_zero]
          first
            | (go_wp2_with fail; exact ⟨_, rfl, rfl, hBx, Below.refl _ _⟩)
            | (go_wp2_with (go_at_call 12; (with_reducible refine (HSL.out _).mono ?_); rintro e w3 ⟨rfl, hm⟩); exact ⟨_, rfl, rfl, hBx.trans (hm.mono hBx.size), hm⟩)
      case donertrue =>
        intro ys wx hBx hV
        obtain ⟨wA1, hwA1⟩ : ∃ wy, wy = wx := ⟨_, rfl⟩
        rw [← hwA1] at hBx ⊢
        have bwA1 := Lib.hid (bel2 BL.out hBx)
        have zwA1 := Lib.hid hBx.size
        have vwA1g := Lib.hid (VG.out.below hBx VG.out.lt)
        have vwA1x := Lib.hid (VX.out.below hBx VX.out.lt)
        have kwA1H := Lib.hid (HP.out.below hBx)
        have h38 : ys 38 = .bool true := hV 6 (by decide)
        clear hBx hV hwA1
        simp only [h38, fill, List.drop_succ_cons, List.drop_zero, List.foldl_cons, List.foldl_nil, Act.put, List.setIfInBounds_toArray, List.set_cons_succ, List.set_cons_zero]
        go_wp2
        refine wp_region_each3 [some 42, some 43, some 44, some 45, some 46, some 47, some 41, some 48, some 49, some 8, some 9] (TJ [42, 43, 44, 45, 46, 47, 41, 48, 49, 8, 9] [.pointer (some ⟨P, 0, none⟩), .pointer (some ⟨P, 0, none⟩), .pointer (some ⟨P, 2, none⟩), .pointer (some ⟨t, 0, none⟩), .agg #[.int .i64 2, .int .u32 1, .int .u32 0, .string B], .tuple #[.int .i64 (AT : Int), .int .i64 0], .tuple #[.int .i64 (AT : Int), .int .i64 0], .int .i64 (AT : Int), .int .i64 0, .int .i64 (AT : Int), .int .i64 0] 5 (fun wx => Grows (both FL G) wA1 wx) (fun wx => Below wA1.heap.size wA1 wx) (fun wx => ∃ F2, Pair wx P p q t r p' q' t2 (newT pg pgs rgs) F2 G ∧ After (both FL G) wA1 wx (both F2 G))) (by kernel_rfl) (by kernel_rfl) (by simp [slots]) ?starta ?eacha ?donea
        case starta => exact ⟨by simp, Grows.of_below ((Below.refl _ _).drew), fun _ => (Below.refl _ _).drew, by simp⟩
        case eacha =>
          simp only [Each2]
          refine ⟨?o0, ?o1, ?o2, ?o3, ?o4, ?o5, ?o6, ?o7, ?o8, ?o9, ?o10, trivial⟩
          case o0 =>
            intro d0 ys wx hJ hdi hw hdeps
            clear hdeps
            have HJ := Lib.hid hJ
            clear hJ hw
            simp only [List.getD_cons_succ, List.getD_cons_zero, fill, slots, List.filterMap_cons, List.filterMap_nil, id, List.foldl_cons, List.foldl_nil, Act.put, List.setIfInBounds_toArray, List.set_cons_succ, List.set_cons_zero]
            go_wp2_with fail
            exact ⟨_, rfl, HJ.out.plain (i := 0) (by decide) (by decide) (by decide) rfl (HJ.out.com.trans (S' := fun _ => False) (Grows.of_below (Below.refl _ _)) (fun _ h => h.elim)) (fun h => h.trans (Below.mono (Below.refl _ _) h.size)) (fun h => h.elim fun F2 hh => ⟨F2, hh.1.below (Below.refl _ _), hh.2.trans ⟨Grows.of_below (Below.refl _ _), fun _ h => .inl h⟩⟩)⟩
          case o1 =>
            intro d0 ys wx hJ hdi hw hdeps
            have q0 : d0 0 = true := by simp [Region.Deps2, Go.Region.binds] at hdeps; simp [hdeps]
            have y0 : ys 42 = .pointer (some ⟨P, 0, none⟩) := hJ.val 0 (by decide) q0
            clear hdeps
            have HJ := Lib.hid hJ
            clear hJ hw
            simp only [y0, List.getD_cons_succ, List.getD_cons_zero, fill, slots, List.filterMap_cons, List.filterMap_nil, id, List.foldl_cons, List.foldl_nil, Act.put, List.setIfInBounds_toArray, List.set_cons_succ, List.set_cons_zero]
            go_wp2_with fail
            exact ⟨_, rfl, HJ.out.plain (i := 1) (by decide) (by decide) (by decide) rfl (HJ.out.com.trans (S' := fun _ => False) (Grows.of_below (Below.refl _ _)) (fun _ h => h.elim)) (fun h => h.trans (Below.mono (Below.refl _ _) h.size)) (fun h => h.elim fun F2 hh => ⟨F2, hh.1.below (Below.refl _ _), hh.2.trans ⟨Grows.of_below (Below.refl _ _), fun _ h => .inl h⟩⟩)⟩
          case o2 =>
            intro d0 ys wx hJ hdi hw hdeps
            have q1 : d0 1 = true := by simp [Region.Deps2, Go.Region.binds] at hdeps; simp [hdeps]
            have y1 : ys 43 = .pointer (some ⟨P, 0, none⟩) := hJ.val 1 (by decide) q1
            clear hdeps
            have HJ := Lib.hid hJ
            clear hJ hw
            simp only [y1, List.getD_cons_succ, List.getD_cons_zero, fill, slots, List.filterMap_cons, List.filterMap_nil, id, List.foldl_cons, List.foldl_nil, Act.put, List.setIfInBounds_toArray, List.set_cons_succ, List.set_cons_zero]
            go_wp2_with fail
            exact ⟨_, rfl, HJ.out.plain (i := 2) (by decide) (by decide) (by decide) rfl (HJ.out.com.trans (S' := fun _ => False) (Grows.of_below (Below.refl _ _)) (fun _ h => h.elim)) (fun h => h.trans (Below.mono (Below.refl _ _) h.size)) (fun h => h.elim fun F2 hh => ⟨F2, hh.1.below (Below.refl _ _), hh.2.trans ⟨Grows.of_below (Below.refl _ _), fun _ h => .inl h⟩⟩)⟩
          case o3 =>
            intro d0 ys wx hJ hdi hw hdeps
            have q2 : d0 2 = true := by simp [Region.Deps2, Go.Region.binds] at hdeps; simp [hdeps]
            have y2 : ys 44 = .pointer (some ⟨P, 2, none⟩) := hJ.val 2 (by decide) q2
            clear hdeps
            have hC := Lib.hid hJ.com
            have vP := hC.out.var kwA1H.out.var (fun h => h.elim kwA1H.out.nF kwA1H.out.nG)
            have p0 := vP.cell (j := 0) rfl
            have p1 := vP.cell (j := 1) rfl
            have p2 := vP.cell (j := 2) rfl
            have p3 := vP.cell (j := 3) rfl
            unfold ptr at p0 p1 p2 p3
            clear vP
            have vX := hC.out.var vwA1g.out NG.out
            have g0 := vX.cell (j := 0) rfl
            have g1 := vX.cell (j := 1) rfl
            have g2 := vX.cell (j := 2) rfl
            clear vX
            have vX := hC.out.var vwA1x.out NX.out
            have x0 := vX.cell (j := 0) rfl
            have x1 := vX.cell (j := 1) rfl
            have x2 := vX.cell (j := 2) rfl
            have x3 := vX.cell (j := 3) rfl
            clear vX
            have HJ := Lib.hid hJ
            clear hJ hw
            simp only [y2, List.getD_cons_succ, List.getD_cons_zero, fill, slots, List.filterMap_cons, List.filterMap_nil, id, List.foldl_cons, List.foldl_nil, Act.put, List.setIfInBounds_toArray, List.set_cons_succ, List.set_cons_zero]
            go_wp2_with fail
            exact ⟨_, rfl, HJ.out.plain (i := 3) (by decide) (by decide) (by decide) rfl (HJ.out.com.trans (S' := fun _ => False) (Grows.of_below (Below.refl _ _)) (fun _ h => h.elim)) (fun h => h.trans (Below.mono (Below.refl _ _) h.size)) (fun h => h.elim fun F2 hh => ⟨F2, hh.1.below (Below.refl _ _), hh.2.trans ⟨Grows.of_below (Below.refl _ _), fun _ h => .inl h⟩⟩)⟩
          case o4 =>
            intro d0 ys wx hJ hdi hw hdeps
            clear hdeps
            have hC := Lib.hid hJ.com
            have vP := hC.out.var kwA1H.out.var (fun h => h.elim kwA1H.out.nF kwA1H.out.nG)
            have p0 := vP.cell (j := 0) rfl
            have p1 := vP.cell (j := 1) rfl
            have p2 := vP.cell (j := 2) rfl
            have p3 := vP.cell (j := 3) rfl
            unfold ptr at p0 p1 p2 p3
            clear vP
            have vX := hC.out.var vwA1g.out NG.out
            have g0 := vX.cell (j := 0) rfl
            have g1 := vX.cell (j := 1) rfl
            have g2 := vX.cell (j := 2) rfl
            clear vX
            have vX := hC.out.var vwA1x.out NX.out
            have x0 := vX.cell (j := 0) rfl
            have x1 := vX.cell (j := 1) rfl
            have x2 := vX.cell (j := 2) rfl
            have x3 := vX.cell (j := 3) rfl
            clear vX
            have HJ := Lib.hid hJ
            clear hJ hw
            simp only [List.getD_cons_succ, List.getD_cons_zero, fill, slots, List.filterMap_cons, List.filterMap_nil, id, List.foldl_cons, List.foldl_nil, Act.put, List.setIfInBounds_toArray, List.set_cons_succ, List.set_cons_zero]
            go_wp2_with fail
            exact ⟨_, rfl, HJ.out.plain (i := 4) (by decide) (by decide) (by decide) rfl (HJ.out.com.trans (S' := fun _ => False) (Grows.of_below (Below.refl _ _)) (fun _ h => h.elim)) (fun h => h.trans (Below.mono (Below.refl _ _) h.size)) (fun h => h.elim fun F2 hh => ⟨F2, hh.1.below (Below.refl _ _), hh.2.trans ⟨Grows.of_below (Below.refl _ _), fun _ h => .inl h⟩⟩)⟩
          case o5 =>
            intro d0 ys wx hJ hdi hw hdeps
            have q3 : d0 3 = true := by simp [Region.Deps2, Go.Region.binds] at hdeps; simp [hdeps]
            have y3 : ys 45 = .pointer (some ⟨t, 0, none⟩) := hJ.val 3 (by decide) q3
            have q4 : d0 4 = true := by simp [Region.Deps2, Go.Region.binds] at hdeps; simp [hdeps]
            have y4 : ys 46 = .agg #[.int .i64 2, .int .u32 1, .int .u32 0, .string B] := hJ.val 4 (by decide) q4
            clear hdeps
            have hC := Lib.hid hJ.com
            have hB := Lib.hid (hJ.m0 hdi)
            have HJ := Lib.hid hJ
            clear hJ hw
            simp only [y3, y4, List.getD_cons_succ, List.getD_cons_zero, fill, slots, List.filterMap_cons, List.filterMap_nil, id, List.foldl_cons, List.foldl_nil, Act.put, List.setIfInBounds_toArray, List.set_cons_succ, List.set_cons_zero]
            go_wp2_with (go_at_call 13; (with_reducible refine (HAP.out _ _ (kwA1H.out.below hB.out)).mono ?_); rintro e wy ⟨rfl, Fy, hy, ay⟩)
            exact ⟨_, rfl, HJ.out.turn (by decide) (by decide) rfl (hC.out.trans (S' := both FL G) ay.grows (fun _ h => .inl h)) ⟨Fy, hy, After.trans (S1 := both FL G) ⟨Grows.of_below hB.out, fun _ h => .inl h⟩ ay⟩⟩
          case o6 =>
            intro d0 ys wx hJ hdi hw hdeps
            have q5 : d0 5 = true := by simp [Region.Deps2, Go.Region.binds] at hdeps; simp [hdeps]
            have y5 : ys 47 = .tuple #[.int .i64 (AT : Int), .int .i64 0] := hJ.val 5 (by decide) q5
            clear hdeps
            have HJ := Lib.hid hJ
            clear hJ hw
            simp only [y5, List.getD_cons_succ, List.getD_cons_zero, fill, slots, List.filterMap_cons, List.filterMap_nil, id, List.foldl_cons, List.foldl_nil, Act.put, List.setIfInBounds_toArray, List.set_cons_succ, List.set_cons_zero]
            go_wp2_with fail
            exact ⟨_, rfl, HJ.out.plain (i := 6) (by decide) (by decide) (by decide) rfl (HJ.out.com.trans (S' := fun _ => False) (Grows.of_below (Below.refl _ _)) (fun _ h => h.elim)) (fun h => h.trans (Below.mono (Below.refl _ _) h.size)) (fun h => h.elim fun F2 hh => ⟨F2, hh.1.below (Below.refl _ _), hh.2.trans ⟨Grows.of_below (Below.refl _ _), fun _ h => .inl h⟩⟩)⟩
          case o7 =>
            intro d0 ys wx hJ hdi hw hdeps
            have q6 : d0 6 = true := by simp [Region.Deps2, Go.Region.binds] at hdeps; simp [hdeps]
            have y6 : ys 41 = .tuple #[.int .i64 (AT : Int), .int .i64 0] := hJ.val 6 (by decide) q6
            clear hdeps
            have HJ := Lib.hid hJ
            clear hJ hw
            simp only [y6, List.getD_cons_succ, List.getD_cons_zero, fill, slots, List.filterMap_cons, List.filterMap_nil, id, List.foldl_cons, List.foldl_nil, Act.put, List.setIfInBounds_toArray, List.set_cons_succ, List.set_cons_zero]
            go_wp2_with fail
            exact ⟨_, rfl, HJ.out.plain (i := 7) (by decide) (by decide) (by decide) rfl (HJ.out.com.trans (S' := fun _ => False) (Grows.of_below (Below.refl _ _)) (fun _ h => h.elim)) (fun h => h.trans (Below.mono (Below.refl _ _) h.size)) (fun h => h.elim fun F2 hh => ⟨F2, hh.1.below (Below.refl _ _), hh.2.trans ⟨Grows.of_below (Below.refl _ _), fun _ h => .inl h⟩⟩)⟩
          case o8 =>
            intro d0 ys wx hJ hdi hw hdeps
            have q6 : d0 6 = true := by simp [Region.Deps2, Go.Region.binds] at hdeps; simp [hdeps]
            have y6 : ys 41 = .tuple #[.int .i64 (AT : Int), .int .i64 0] := hJ.val 6 (by decide) q6
            clear hdeps
            have HJ := Lib.hid hJ
            clear hJ hw
            simp only [y6, List.getD_cons_succ, List.getD_cons_zero, fill, slots, List.filterMap_cons, List.filterMap_nil, id, List.foldl_cons, List.foldl_nil, Act.put, List.setIfInBounds_toArray, List.set_cons_succ, List.set_cons_zero]
            go_wp2_with fail
            exact ⟨_, rfl, HJ.out.plain (i := 8) (by decide) (by decide) (by decide) rfl (HJ.out.com.trans (S' := fun _ => False) (Grows.of_below (Below.refl _ _)) (fun _ h => h.elim)) (fun h => h.trans (Below.mono (Below.refl _ _) h.size)) (fun h => h.elim fun F2 hh => ⟨F2, hh.1.below (Below.refl _ _), hh.2.trans ⟨Grows.of_below (Below.refl _ _), fun _ h => .inl h⟩⟩)⟩
          case o9 =>
            intro d0 ys wx hJ hdi hw hdeps
            have q7 : d0 7 = true := by simp [Region.Deps2, Go.Region.binds] at hdeps; simp [hdeps]
            have y7 : ys 48 = .int .i64 (AT : Int) := hJ.val 7 (by decide) q7
            clear hdeps
            have HJ := Lib.hid hJ
            clear hJ hw
            simp only [y7, List.getD_cons_succ, List.getD_cons_zero, fill, slots, List.filterMap_cons, List.filterMap_nil, id, List.foldl_cons, List.foldl_nil, Act.put, List.setIfInBounds_toArray, List.set_cons_succ, List.set_cons_zero]
            go_wp2_with fail
            exact ⟨_, rfl, HJ.out.plain (i := 9) (by decide) (by decide) (by decide) rfl (HJ.out.com.trans (S' := fun _ => False) (Grows.of_below (Below.refl _ _)) (fun _ h => h.elim)) (fun h => h.trans (Below.mono (Below.refl _ _) h.size)) (fun h => h.elim fun F2 hh => ⟨F2, hh.1.below (Below.refl _ _), hh.2.trans ⟨Grows.of_below (Below.refl _ _), fun _ h => .inl h⟩⟩)⟩
          case o10 =>
            intro d0 ys wx hJ hdi hw hdeps
            have q8 : d0 8 = true := by simp [Region.Deps2, Go.Region.binds] at hdeps; simp [hdeps]
            have y8 : ys 49 = .int .i64 0 := hJ.val 8 (by decide) q8
            clear hdeps
            have HJ := Lib.hid hJ
            clear hJ hw
            simp only [y8, List.getD_cons_succ, List.getD_cons_zero, fill, slots, List.filterMap_cons, List.filterMap_nil, id, List.foldl_cons, List.foldl_nil, Act.put, List.setIfInBounds_toArray, List.set_cons_succ, List.set_cons_zero]
            go_wp2_with fail
            exact ⟨_, rfl, HJ.out.plain (i := 10) (by decide) (by decide) (by decide) rfl (HJ.out.com.trans (S' := fun _ => False) (Grows.of_below (Below.refl _ _)) (fun _ h => h.elim)) (fun h => h.trans (Below.mono (Below.refl _ _) h.size)) (fun h => h.elim fun F2 hh => ⟨F2, hh.1.below (Below.refl _ _), hh.2.trans ⟨Grows.of_below (Below.refl _ _), fun _ h => .inl h⟩⟩)⟩
        case donea =>
          intro d0 ys wx hJ hall
          have hM : ∃ F2, Pair wx P p q t r p' q' t2 (newT pg pgs rgs) F2 G ∧ After (both FL G) wA1 wx (both F2 G) := hJ.m1 (hall 5 (by decide))
          have h8 : ys 8 = .int .i64 (AT : Int) := hJ.val 9 (by decide) (hall 9 (by decide))
          have h9 : ys 9 = .int .i64 0 := hJ.val 10 (by decide) (hall 10 (by decide))
          clear hJ hall
          simp only [h8, h9, List.getD_cons_succ, List.getD_cons_zero, fill, slots, List.filterMap_cons, List.filterMap_nil, id, List.foldl_cons, List.foldl_nil, Act.put, List.setIfInBounds_toArray, List.set_cons_succ, List.set_cons_zero]
          with_reducible refine Exists.elim hM ?_
          intro F2 hMM
          have ht1 := Lib.hid hMM.1
          have at1 := Lib.hid hMM.2
          clear hM hMM
          obtain ⟨wt1, hwt1⟩ : ∃ wy, wy = wx := ⟨_, rfl⟩
          rw [← hwt1] at ht1 at1 ⊢
          clear hwt1
          have vwAt2g := Lib.hid (at1.out.grows.var vwA1g.out NG.out)
          have nnAt2g := Lib.hid (not_after at1.out NG.out vwA1g.out.lt)
          have vwAt2x := Lib.hid (at1.out.grows.var vwA1x.out NX.out)
          have nnAt2x := Lib.hid (not_after at1.out NX.out vwA1x.out.lt)
          have bwAt2 := Lib.hid (bwA1.out.trans (at1.out.grows.below bwA1.out.size FTL.out))
          have ftAt2 := Lib.hid (at1.out.beyond bwA1.out.size FTL.out)
          have zwAt2 := Lib.hid at1.out.grows.size
          go_wp2
          go_roundw
          case rel => exact ⟨i + 1, t2, F2, by go_num, by omega, HAT2.out, OK2.out, ht1.out, ⟨vwAt2g.out, nnAt2g.out⟩, ⟨vwAt2x.out, nnAt2x.out⟩, bwAt2.out, ftAt2.out⟩
          case measure => simp [intOf]; omega
    · obtain rfl : i = NF := by omega
      have d1 : decide ((i : Int) < (i : Int)) = false := by simp
      have d2 : decide (i < i) = false := by simp
      have hful := full_at SZ.out (t := tp) (fz := none) (by rw [← HNF.out]; exact HAT.out)
      have e1 := append_full SZ.out hful OKX.out
      have e2 : (flushT tp).1 = 0 := by rw [flush_full hful]
      have OKF := Lib.hid (flush_ok HOK.out)
      have e3 := erase_last SZ.out hful
      have e4 := erase_first SZ.out hful
      have OKE := Lib.hid (show (goneT tp).Ok by have := erase_ok OKF.out 0; rw [e4] at this; exact this)
      obtain ⟨t5, e5⟩ := append_again SZ.out hful OKX.out
      have h1 := fun w F' (h : Pair w P p q t r p' q' tp (newT pg pgs rgs) F' G) => pAppend h HOK.out X HXL.out
      rw [e1, HFV.out] at h1
      have HC1 := Lib.hid h1
      have h2 := fun w F' (h : Pair w P p q t r p' q' tp (newT pg pgs rgs) F' G) => pFlush h HOK.out
      rw [e2] at h2
      have HC2 := Lib.hid h2
      have h3 := fun w F' (h : Pair w P p q t r p' q' (flushT tp).2 (newT pg pgs rgs) F' G) => pErase h OKF.out ((rgs : Int) - 1)
      rw [e3] at h3
      have HC3 := Lib.hid h3
      have h4 := fun w F' (h : Pair w P p q t r p' q' (flushT tp).2 (newT pg pgs rgs) F' G) => pErase h OKF.out 0
      rw [e4] at h4
      have HC4 := Lib.hid h4
      have h5 := fun w F' (h : Pair w P p q t r p' q' (goneT tp) (newT pg pgs rgs) F' G) => pAppend h OKE.out X HXL.out
      rw [e5, HFV.out] at h5
      have HC5 := Lib.hid h5
      clear h1 h2 h3 h4 h5 e1 e2 e3 e4 e5 hful
      go_wp2
      refine wp_region_is [32, 33, 34, 35, 36, 37, 38] (fun w' => Below wr.heap.size wr w')
        [.int .i64 (i : Int), .pointer (some ⟨w.heap.size, 2, none⟩), .int .i64 (rgs : Int), .agg #[.int .i64 (pg : Int), .int .i64 (pgs : Int), .int .i64 (rgs : Int)], .int .i64 (sl : Int), .int .i64 (i : Int), .bool false] (by kernel_rfl) (by kernel_rfl) rfl (by decide) (by simp) (Below.refl _ _).drew ?eachrfalse ?donerfalse
      case eachrfalse =>
        simp only [Each]
        repeat' (first | exact trivial | refine And.intro ?_ ?_)
        all_goals
          intro ys wx hBx hdeps
          simp only [Deps, Region.binds, List.getD_cons_zero, List.getD_cons_succ, forall_const, and_true] at hdeps
          have qB1 := (VG.out.below hBx VG.out.lt).cell (j := 0) rfl
          have qB2 := (VG.out.below hBx VG.out.lt).cell (j := 1) rfl
          have qB3 := (VG.out.below hBx VG.out.lt).cell (j := 2) rfl
          simp only [hdeps, fill, List.foldl_cons, List.foldl_nil, Act.put, List.setIfInBounds_toArray, List.set_cons_succ, List.set_cons_zero]
          first
            | (go_wp2_with fail; exact ⟨_, rfl, rfl, hBx, Below.refl _ _⟩)
            | (go_wp2_with (go_at_call 12; (with_reducible refine (HSL.out _).mono ?_); rintro e w3 ⟨rfl, hm⟩); exact ⟨_, rfl, rfl, hBx.trans (hm.mono hBx.size), hm⟩)
      case donerfalse =>
        intro ys wx hBx hV
        obtain ⟨wB1, hwB1⟩ : ∃ wy, wy = wx := ⟨_, rfl⟩
        rw [← hwB1] at hBx ⊢
        have bwB1 := Lib.hid (bel2 BL.out hBx)
        have zwB1 := Lib.hid hBx.size
        have vwB1g := Lib.hid (VG.out.below hBx VG.out.lt)
        have vwB1x := Lib.hid (VX.out.below hBx VX.out.lt)
        have kwB1H := Lib.hid (HP.out.below hBx)
        have h38 : ys 38 = .bool false := hV 6 (by decide)
        clear hBx hV hwB1
        simp only [h38, fill, List.drop_succ_cons, List.drop_zero, List.foldl_cons, List.foldl_nil, Act.put, List.setIfInBounds_toArray, List.set_cons_succ, List.set_cons_zero]
        go_wp2
        refine wp_region_each3 [some 53, some 54, some 55, some 56, some 57, some 58, some 52, some 59, some 60, some 10, some 11] (TJ [53, 54, 55, 56, 57, 58, 52, 59, 60, 10, 11] [.pointer (some ⟨P, 0, none⟩), .pointer (some ⟨P, 0, none⟩), .pointer (some ⟨P, 2, none⟩), .pointer (some ⟨t, 0, none⟩), .agg #[.int .i64 2, .int .u32 1, .int .u32 0, .string B], .tuple #[.int .i64 0, .int .i64 8], .tuple #[.int .i64 0, .int .i64 8], .int .i64 0, .int .i64 8, .int .i64 0, .int .i64 8] 5 (fun wx => Grows (both FL G) wB1 wx) (fun wx => Below wB1.heap.size wB1 wx) (fun wx => ∃ F2, Pair wx P p q t r p' q' tp (newT pg pgs rgs) F2 G ∧ After (both FL G) wB1 wx (both F2 G))) (by kernel_rfl) (by kernel_rfl) (by simp [slots]) ?startb ?eachb ?doneb
        case startb => exact ⟨by simp, Grows.of_below ((Below.refl _ _).drew), fun _ => (Below.refl _ _).drew, by simp⟩
        case eachb =>
          simp only [Each2]
          refine ⟨?o0, ?o1, ?o2, ?o3, ?o4, ?o5, ?o6, ?o7, ?o8, ?o9, ?o10, trivial⟩
          case o0 =>
            intro d0 ys wx hJ hdi hw hdeps
            clear hdeps
            have HJ := Lib.hid hJ
            clear hJ hw
            simp only [List.getD_cons_succ, List.getD_cons_zero, fill, slots, List.filterMap_cons, List.filterMap_nil, id, List.foldl_cons, List.foldl_nil, Act.put, List.setIfInBounds_toArray, List.set_cons_succ, List.set_cons_zero]
            go_wp2_with fail
            exact ⟨_, rfl, HJ.out.plain (i := 0) (by decide) (by decide) (by decide) rfl (HJ.out.com.trans (S' := fun _ => False) (Grows.of_below (Below.refl _ _)) (fun _ h => h.elim)) (fun h => h.trans (Below.mono (Below.refl _ _) h.size)) (fun h => h.elim fun F2 hh => ⟨F2, hh.1.below (Below.refl _ _), hh.2.trans ⟨Grows.of_below (Below.refl _ _), fun _ h => .inl h⟩⟩)⟩
          case o1 =>
            intro d0 ys wx hJ hdi hw hdeps
            have q0 : d0 0 = true := by simp [Region.Deps2, Go.Region.binds] at hdeps; simp [hdeps]
            have y0 : ys 53 = .pointer (some ⟨P, 0, none⟩) := hJ.val 0 (by decide) q0
            clear hdeps
            have HJ := Lib.hid hJ
            clear hJ hw
            simp only [y0, List.getD_cons_succ, List.getD_cons_zero, fill, slots, List.filterMap_cons, List.filterMap_nil, id, List.foldl_cons, List.foldl_nil, Act.put, List.setIfInBounds_toArray, List.set_cons_succ, List.set_cons_zero]
            go_wp2_with fail
            exact ⟨_, rfl, HJ.out.plain (i := 1) (by decide) (by decide) (by decide) rfl (HJ.out.com.trans (S' := fun _ => False) (Grows.of_below (Below.refl _ _)) (fun _ h => h.elim)) (fun h => h.trans (Below.mono (Below.refl _ _) h.size)) (fun h => h.elim fun F2 hh => ⟨F2, hh.1.below (Below.refl _ _), hh.2.trans ⟨Grows.of_below (Below.refl _ _), fun _ h => .inl h⟩⟩)⟩
          case o2 =>
            intro d0 ys wx hJ hdi hw hdeps
            have q1 : d0 1 = true := by simp [Region.Deps2, Go.Region.binds] at hdeps; simp [hdeps]
            have y1 : ys 54 = .pointer (some ⟨P, 0, none⟩) := hJ.val 1 (by decide) q1
            clear hdeps
            have HJ := Lib.hid hJ
            clear hJ hw
            simp only [y1, List.getD_cons_succ, List.getD_cons_zero, fill, slots, List.filterMap_cons, List.filterMap_nil, id, List.foldl_cons, List.foldl_nil, Act.put, List.setIfInBounds_toArray, List.set_cons_succ, List.set_cons_zero]
            go_wp2_with fail
            exact ⟨_, rfl, HJ.out.plain (i := 2) (by decide) (by decide) (by decide) rfl (HJ.out.com.trans (S' := fun _ => False) (Grows.of_below (Below.refl _ _)) (fun _ h => h.elim)) (fun h => h.trans (Below.mono (Below.refl _ _) h.size)) (fun h => h.elim fun F2 hh => ⟨F2, hh.1.below (Below.refl _ _), hh.2.trans ⟨Grows.of_below (Below.refl _ _), fun _ h => .inl h⟩⟩)⟩
          case o3 =>
            intro d0 ys wx hJ hdi hw hdeps
            have q2 : d0 2 = true := by simp [Region.Deps2, Go.Region.binds] at hdeps; simp [hdeps]
            have y2 : ys 55 = .pointer (some ⟨P, 2, none⟩) := hJ.val 2 (by decide) q2
            clear hdeps
            have hC := Lib.hid hJ.com
            have vP := hC.out.var kwB1H.out.var (fun h => h.elim kwB1H.out.nF kwB1H.out.nG)
            have p0 := vP.cell (j := 0) rfl
            have p1 := vP.cell (j := 1) rfl
            have p2 := vP.cell (j := 2) rfl
            have p3 := vP.cell (j := 3) rfl
            unfold ptr at p0 p1 p2 p3
            clear vP
            have vX := hC.out.var vwB1g.out NG.out
            have g0 := vX.cell (j := 0) rfl
            have g1 := vX.cell (j := 1) rfl
            have g2 := vX.cell (j := 2) rfl
            clear vX
            have vX := hC.out.var vwB1x.out NX.out
            have x0 := vX.cell (j := 0) rfl
            have x1 := vX.cell (j := 1) rfl
            have x2 := vX.cell (j := 2) rfl
            have x3 := vX.cell (j := 3) rfl
            clear vX
            have HJ := Lib.hid hJ
            clear hJ hw
            simp only [y2, List.getD_cons_succ, List.getD_cons_zero, fill, slots, List.filterMap_cons, List.filterMap_nil, id, List.foldl_cons, List.foldl_nil, Act.put, List.setIfInBounds_toArray, List.set_cons_succ, List.set_cons_zero]
            go_wp2_with fail
            exact ⟨_, rfl, HJ.out.plain (i := 3) (by decide) (by decide) (by decide) rfl (HJ.out.com.trans (S' := fun _ => False) (Grows.of_below (Below.refl _ _)) (fun _ h => h.elim)) (fun h => h.trans (Below.mono (Below.refl _ _) h.size)) (fun h => h.elim fun F2 hh => ⟨F2, hh.1.below (Below.refl _ _), hh.2.trans ⟨Grows.of_below (Below.refl _ _), fun _ h => .inl h⟩⟩)⟩
          case o4 =>
            intro d0 ys wx hJ hdi hw hdeps
            clear hdeps
            have hC := Lib.hid hJ.com
            have vP := hC.out.var kwB1H.out.var (fun h => h.elim kwB1H.out.nF kwB1H.out.nG)
            have p0 := vP.cell (j := 0) rfl
            have p1 := vP.cell (j := 1) rfl
            have p2 := vP.cell (j := 2) rfl
            have p3 := vP.cell (j := 3) rfl
            unfold ptr at p0 p1 p2 p3
            clear vP
            have vX := hC.out.var vwB1g.out NG.out
            have g0 := vX.cell (j := 0) rfl
            have g1 := vX.cell (j := 1) rfl
            have g2 := vX.cell (j := 2) rfl
            clear vX
            have vX := hC.out.var vwB1x.out NX.out
            have x0 := vX.cell (j := 0) rfl
            have x1 := vX.cell (j := 1) rfl
            have x2 := vX.cell (j := 2) rfl
            have x3 := vX.cell (j := 3) rfl
            clear vX
            have HJ := Lib.hid hJ
            clear hJ hw
            simp only [List.getD_cons_succ, List.getD_cons_zero, fill, slots, List.filterMap_cons, List.filterMap_nil, id, List.foldl_cons, List.foldl_nil, Act.put, List.setIfInBounds_toArray, List.set_cons_succ, List.set_cons_zero]
            go_wp2_with fail
            exact ⟨_, rfl, HJ.out.plain (i := 4) (by decide) (by decide) (by decide) rfl (HJ.out.com.trans (S' := fun _ => False) (Grows.of_below (Below.refl _ _)) (fun _ h => h.elim)) (fun h => h.trans (Below.mono (Below.refl _ _) h.size)) (fun h => h.elim fun F2 hh => ⟨F2, hh.1.below (Below.refl _ _), hh.2.trans ⟨Grows.of_below (Below.refl _ _), fun _ h => .inl h⟩⟩)⟩
          case o5 =>
            intro d0 ys wx hJ hdi hw hdeps
            have q3 : d0 3 = true := by simp [Region.Deps2, Go.Region.binds] at hdeps; simp [hdeps]
            have y3 : ys 56 = .pointer (some ⟨t, 0, none⟩) := hJ.val 3 (by decide) q3
            have q4 : d0 4 = true := by simp [Region.Deps2, Go.Region.binds] at hdeps; simp [hdeps]
            have y4 : ys 57 = .agg #[.int .i64 2, .int .u32 1, .int .u32 0, .string B] := hJ.val 4 (by decide) q4
            clear hdeps
            have hC := Lib.hid hJ.com
            have hB := Lib.hid (hJ.m0 hdi)
            have HJ := Lib.hid hJ
            clear hJ hw
            simp only [y3, y4, List.getD_cons_succ, List.getD_cons_zero, fill, slots, List.filterMap_cons, List.filterMap_nil, id, List.foldl_cons, List.foldl_nil, Act.put, List.setIfInBounds_toArray, List.set_cons_succ, List.set_cons_zero]
            go_wp2_with (go_at_call 13; (with_reducible refine (HC1.out _ _ (kwB1H.out.below hB.out)).mono ?_); rintro e wy ⟨rfl, Fy, hy, ay⟩)
            exact ⟨_, rfl, HJ.out.turn (by decide) (by decide) rfl (hC.out.trans (S' := both FL G) ay.grows (fun _ h => .inl h)) ⟨Fy, hy, After.trans (S1 := both FL G) ⟨Grows.of_below hB.out, fun _ h => .inl h⟩ ay⟩⟩
          case o6 =>
            intro d0 ys wx hJ hdi hw hdeps
            have q5 : d0 5 = true := by simp [Region.Deps2, Go.Region.binds] at hdeps; simp [hdeps]
            have y5 : ys 58 = .tuple #[.int .i64 0, .int .i64 8] := hJ.val 5 (by decide) q5
            clear hdeps
            have HJ := Lib.hid hJ
            clear hJ hw
            simp only [y5, List.getD_cons_succ, List.getD_cons_zero, fill, slots, List.filterMap_cons, List.filterMap_nil, id, List.foldl_cons, List.foldl_nil, Act.put, List.setIfInBounds_toArray, List.set_cons_succ, List.set_cons_zero]
            go_wp2_with fail
            exact ⟨_, rfl, HJ.out.plain (i := 6) (by decide) (by decide) (by decide) rfl (HJ.out.com.trans (S' := fun _ => False) (Grows.of_below (Below.refl _ _)) (fun _ h => h.elim)) (fun h => h.trans (Below.mono (Below.refl _ _) h.size)) (fun h => h.elim fun F2 hh => ⟨F2, hh.1.below (Below.refl _ _), hh.2.trans ⟨Grows.of_below (Below.refl _ _), fun _ h => .inl h⟩⟩)⟩
          case o7 =>
            intro d0 ys wx hJ hdi hw hdeps
            have q6 : d0 6 = true := by simp [Region.Deps2, Go.Region.binds] at hdeps; simp [hdeps]
            have y6 : ys 52 = .tuple #[.int .i64 0, .int .i64 8] := hJ.val 6 (by decide) q6
            clear hdeps
            have HJ := Lib.hid hJ
            clear hJ hw
            simp only [y6, List.getD_cons_succ, List.getD_cons_zero, fill, slots, List.filterMap_cons, List.filterMap_nil, id, List.foldl_cons, List.foldl_nil, Act.put, List.setIfInBounds_toArray, List.set_cons_succ, List.set_cons_zero]
            go_wp2_with fail
            exact ⟨_, rfl, HJ.out.plain (i := 7) (by decide) (by decide) (by decide) rfl (HJ.out.com.trans (S' := fun _ => False) (Grows.of_below (Below.refl _ _)) (fun _ h => h.elim)) (fun h => h.trans (Below.mono (Below.refl _ _) h.size)) (fun h => h.elim fun F2 hh => ⟨F2, hh.1.below (Below.refl _ _), hh.2.trans ⟨Grows.of_below (Below.refl _ _), fun _ h => .inl h⟩⟩)⟩
          case o8 =>
            intro d0 ys wx hJ hdi hw hdeps
            have q6 : d0 6 = true := by simp [Region.Deps2, Go.Region.binds] at hdeps; simp [hdeps]
            have y6 : ys 52 = .tuple #[.int .i64 0, .int .i64 8] := hJ.val 6 (by decide) q6
            clear hdeps
            have HJ := Lib.hid hJ
            clear hJ hw
            simp only [y6, List.getD_cons_succ, List.getD_cons_zero, fill, slots, List.filterMap_cons, List.filterMap_nil, id, List.foldl_cons, List.foldl_nil, Act.put, List.setIfInBounds_toArray, List.set_cons_succ, List.set_cons_zero]
            go_wp2_with fail
            exact ⟨_, rfl, HJ.out.plain (i := 8) (by decide) (by decide) (by decide) rfl (HJ.out.com.trans (S' := fun _ => False) (Grows.of_below (Below.refl _ _)) (fun _ h => h.elim)) (fun h => h.trans (Below.mono (Below.refl _ _) h.size)) (fun h => h.elim fun F2 hh => ⟨F2, hh.1.below (Below.refl _ _), hh.2.trans ⟨Grows.of_below (Below.refl _ _), fun _ h => .inl h⟩⟩)⟩
          case o9 =>
            intro d0 ys wx hJ hdi hw hdeps
            have q7 : d0 7 = true := by simp [Region.Deps2, Go.Region.binds] at hdeps; simp [hdeps]
            have y7 : ys 59 = .int .i64 0 := hJ.val 7 (by decide) q7
            clear hdeps
            have HJ := Lib.hid hJ
            clear hJ hw
            simp only [y7, List.getD_cons_succ, List.getD_cons_zero, fill, slots, List.filterMap_cons, List.filterMap_nil, id, List.foldl_cons, List.foldl_nil, Act.put, List.setIfInBounds_toArray, List.set_cons_succ, List.set_cons_zero]
            go_wp2_with fail
            exact ⟨_, rfl, HJ.out.plain (i := 9) (by decide) (by decide) (by decide) rfl (HJ.out.com.trans (S' := fun _ => False) (Grows.of_below (Below.refl _ _)) (fun _ h => h.elim)) (fun h => h.trans (Below.mono (Below.refl _ _) h.size)) (fun h => h.elim fun F2 hh => ⟨F2, hh.1.below (Below.refl _ _), hh.2.trans ⟨Grows.of_below (Below.refl _ _), fun _ h => .inl h⟩⟩)⟩
          case o10 =>
            intro d0 ys wx hJ hdi hw hdeps
            have q8 : d0 8 = true := by simp [Region.Deps2, Go.Region.binds] at hdeps; simp [hdeps]
            have y8 : ys 60 = .int .i64 8 := hJ.val 8 (by decide) q8
            clear hdeps
            have HJ := Lib.hid hJ
            clear hJ hw
            simp only [y8, List.getD_cons_succ, List.getD_cons_zero, fill, slots, List.filterMap_cons, List.filterMap_nil, id, List.foldl_cons, List.foldl_nil, Act.put, List.setIfInBounds_toArray, List.set_cons_succ, List.set_cons_zero]
            go_wp2_with fail
            exact ⟨_, rfl, HJ.out.plain (i := 10) (by decide) (by decide) (by decide) rfl (HJ.out.com.trans (S' := fun _ => False) (Grows.of_below (Below.refl _ _)) (fun _ h => h.elim)) (fun h => h.trans (Below.mono (Below.refl _ _) h.size)) (fun h => h.elim fun F2 hh => ⟨F2, hh.1.below (Below.refl _ _), hh.2.trans ⟨Grows.of_below (Below.refl _ _), fun _ h => .inl h⟩⟩)⟩
        case doneb =>
          intro d0 ys wx hJ hall
          have hM : ∃ F2, Pair wx P p q t r p' q' tp (newT pg pgs rgs) F2 G ∧ After (both FL G) wB1 wx (both F2 G) := hJ.m1 (hall 5 (by decide))
          have h10 : ys 10 = .int .i64 0 := hJ.val 9 (by decide) (hall 9 (by decide))
          have h11 : ys 11 = .int .i64 8 := hJ.val 10 (by decide) (hall 10 (by decide))
          clear hJ hall
          simp only [h10, h11, List.getD_cons_succ, List.getD_cons_zero, fill, slots, List.filterMap_cons, List.filterMap_nil, id, List.foldl_cons, List.foldl_nil, Act.put, List.setIfInBounds_toArray, List.set_cons_succ, List.set_cons_zero]
          with_reducible refine Exists.elim hM ?_
          intro F2 hMM
          have ht1 := Lib.hid hMM.1
          have at1 := Lib.hid hMM.2
          clear hM hMM
          obtain ⟨wt1, hwt1⟩ : ∃ wy, wy = wx := ⟨_, rfl⟩
          rw [← hwt1] at ht1 at1 ⊢
          clear hwt1
          have vwBt2g := Lib.hid (at1.out.grows.var vwB1g.out NG.out)
          have nnBt2g := Lib.hid (not_after at1.out NG.out vwB1g.out.lt)
          have vwBt2x := Lib.hid (at1.out.grows.var vwB1x.out NX.out)
          have nnBt2x := Lib.hid (not_after at1.out NX.out vwB1x.out.lt)
          have bwBt2 := Lib.hid (bwB1.out.trans (at1.out.grows.below bwB1.out.size FTL.out))
          have ftBt2 := Lib.hid (at1.out.beyond bwB1.out.size FTL.out)
          have zwBt2 := Lib.hid at1.out.grows.size
          have pp2 := ht1.out.var.cell (j := 2) rfl
          unfold ptr at pp2
          go_wp2_with (go_at_call 16; go_loud ((with_reducible refine (HC2.out _ _ ht1.out).mono ?_); rintro e wtB2 ⟨rfl, F3, hpx, hax⟩; have htB2 := Lib.hid hpx; have atB2 := Lib.hid hax; clear hpx hax; have vwBt3g := Lib.hid (atB2.out.grows.var vwBt2g.out nnBt2g.out); have nnBt3g := Lib.hid (not_after atB2.out nnBt2g.out vwBt2g.out.lt); have vwBt3x := Lib.hid (atB2.out.grows.var vwBt2x.out nnBt2x.out); have nnBt3x := Lib.hid (not_after atB2.out nnBt2x.out vwBt2x.out.lt); have bwBt3 := Lib.hid (bwBt2.out.trans (atB2.out.grows.below bwBt2.out.size ftBt2.out)); have ftBt3 := Lib.hid (atB2.out.beyond bwBt2.out.size ftBt2.out); have zwBt3 := Lib.hid atB2.out.grows.size; clear pp2))
          refine wp_region_each3 [some 66, some 67, some 68, some 69, some 70, some 71, some 72, some 73, some 13] (TJ [66, 67, 68, 69, 70, 71, 72, 73, 13] [.pointer (some ⟨P, 0, none⟩), .pointer (some ⟨P, 0, none⟩), .pointer (some ⟨P, 2, none⟩), .pointer (some ⟨t, 0, none⟩), .pointer (some ⟨w.heap.size, 2, none⟩), .int .i64 (rgs : Int), .int .i64 ((rgs : Int) - 1), .int .i64 7, .int .i64 7] 7 (fun wx => Grows (both F3 G) wtB2 wx) (fun wx => Below wtB2.heap.size wtB2 wx) (fun wx => ∃ F2, Pair wx P p q t r p' q' (flushT tp).2 (newT pg pgs rgs) F2 G ∧ After (both F3 G) wtB2 wx (both F2 G))) (by kernel_rfl) (by kernel_rfl) (by simp [slots]) ?startc ?eachc ?donec
          case startc => exact ⟨by simp, Grows.of_below ((Below.refl _ _).drew), fun _ => (Below.refl _ _).drew, by simp⟩
          case eachc =>
            simp only [Each2]
            refine ⟨?o0, ?o1, ?o2, ?o3, ?o4, ?o5, ?o6, ?o7, ?o8, trivial⟩
            case o0 =>
              intro d0 ys wx hJ hdi hw hdeps
              clear hdeps
              have HJ := Lib.hid hJ
              clear hJ hw
              simp only [List.getD_cons_succ, List.getD_cons_zero, fill, slots, List.filterMap_cons, List.filterMap_nil, id, List.foldl_cons, List.foldl_nil, Act.put, List.setIfInBounds_toArray, List.set_cons_succ, List.set_cons_zero]
              go_wp2_with fail
              exact ⟨_, rfl, HJ.out.plain (i := 0) (by decide) (by decide) (by decide) rfl (HJ.out.com.trans (S' := fun _ => False) (Grows.of_below (Below.refl _ _)) (fun _ h => h.elim)) (fun h => h.trans (Below.mono (Below.refl _ _) h.size)) (fun h => h.elim fun F2 hh => ⟨F2, hh.1.below (Below.refl _ _), hh.2.trans ⟨Grows.of_below (Below.refl _ _), fun _ h => .inl h⟩⟩)⟩
            case o1 =>
              intro d0 ys wx hJ hdi hw hdeps
              have q0 : d0 0 = true := by simp [Region.Deps2, Go.Region.binds] at hdeps; simp [hdeps]
              have y0 : ys 66 = .pointer (some ⟨P, 0, none⟩) := hJ.val 0 (by decide) q0
              clear hdeps
              have HJ := Lib.hid hJ
              clear hJ hw
              simp only [y0, List.getD_cons_succ, List.getD_cons_zero, fill, slots, List.filterMap_cons, List.filterMap_nil, id, List.foldl_cons, List.foldl_nil, Act.put, List.setIfInBounds_toArray, List.set_cons_succ, List.set_cons_zero]
              go_wp2_with fail
              exact ⟨_, rfl, HJ.out.plain (i := 1) (by decide) (by decide) (by decide) rfl (HJ.out.com.trans (S' := fun _ => False) (Grows.of_below (Below.refl _ _)) (fun _ h => h.elim)) (fun h => h.trans (Below.mono (Below.refl _ _) h.size)) (fun h => h.elim fun F2 hh => ⟨F2, hh.1.below (Below.refl _ _), hh.2.trans ⟨Grows.of_below (Below.refl _ _), fun _ h => .inl h⟩⟩)⟩
            case o2 =>
              intro d0 ys wx hJ hdi hw hdeps
              have q1 : d0 1 = true := by simp [Region.Deps2, Go.Region.binds] at hdeps; simp [hdeps]
              have y1 : ys 67 = .pointer (some ⟨P, 0, none⟩) := hJ.val 1 (by decide) q1
              clear hdeps
              have HJ := Lib.hid hJ
              clear hJ hw
              simp only [y1, List.getD_cons_succ, List.getD_cons_zero, fill, slots, List.filterMap_cons, List.filterMap_nil, id, List.foldl_cons, List.foldl_nil, Act.put, List.setIfInBounds_toArray, List.set_cons_succ, List.set_cons_zero]
              go_wp2_with fail
              exact ⟨_, rfl, HJ.out.plain (i := 2) (by decide) (by decide) (by decide) rfl (HJ.out.com.trans (S' := fun _ => False) (Grows.of_below (Below.refl _ _)) (fun _ h => h.elim)) (fun h => h.trans (Below.mono (Below.refl _ _) h.size)) (fun h => h.elim fun F2 hh => ⟨F2, hh.1.below (Below.refl _ _), hh.2.trans ⟨Grows.of_below (Below.refl _ _), fun _ h => .inl h⟩⟩)⟩
            case o3 =>
              intro d0 ys wx hJ hdi hw hdeps
              have q2 : d0 2 = true := by simp [Region.Deps2, Go.Region.binds] at hdeps; simp [hdeps]
              have y2 : ys 68 = .pointer (some ⟨P, 2, none⟩) := hJ.val 2 (by decide) q2
              clear hdeps
              have hC := Lib.hid hJ.com
              have vP := hC.out.var htB2.out.var (fun h => h.elim htB2.out.nF htB2.out.nG)
              have p0 := vP.cell (j := 0) rfl
              have p1 := vP.cell (j := 1) rfl
              have p2 := vP.cell (j := 2) rfl
              have p3 := vP.cell (j := 3) rfl
              unfold ptr at p0 p1 p2 p3
              clear vP
              have vX := hC.out.var vwBt3g.out nnBt3g.out
              have g0 := vX.cell (j := 0) rfl
              have g1 := vX.cell (j := 1) rfl
              have g2 := vX.cell (j := 2) rfl
              clear vX
              have vX := hC.out.var vwBt3x.out nnBt3x.out
              have x0 := vX.cell (j := 0) rfl
              have x1 := vX.cell (j := 1) rfl
              have x2 := vX.cell (j := 2) rfl
              have x3 := vX.cell (j := 3) rfl
              clear vX
              have HJ := Lib.hid hJ
              clear hJ hw
              simp only [y2, List.getD_cons_succ, List.getD_cons_zero, fill, slots, List.filterMap_cons, List.filterMap_nil, id, List.foldl_cons, List.foldl_nil, Act.put, List.setIfInBounds_toArray, List.set_cons_succ, List.set_cons_zero]
              go_wp2_with fail
              exact ⟨_, rfl, HJ.out.plain (i := 3) (by decide) (by decide) (by decide) rfl (HJ.out.com.trans (S' := fun _ => False) (Grows.of_below (Below.refl _ _)) (fun _ h => h.elim)) (fun h => h.trans (Below.mono (Below.refl _ _) h.size)) (fun h => h.elim fun F2 hh => ⟨F2, hh.1.below (Below.refl _ _), hh.2.trans ⟨Grows.of_below (Below.refl _ _), fun _ h => .inl h⟩⟩)⟩
            case o4 =>
              intro d0 ys wx hJ hdi hw hdeps
              clear hdeps
              have HJ := Lib.hid hJ
              clear hJ hw
              simp only [List.getD_cons_succ, List.getD_cons_zero, fill, slots, List.filterMap_cons, List.filterMap_nil, id, List.foldl_cons, List.foldl_nil, Act.put, List.setIfInBounds_toArray, List.set_cons_succ, List.set_cons_zero]
              go_wp2_with fail
              exact ⟨_, rfl, HJ.out.plain (i := 4) (by decide) (by decide) (by decide) rfl (HJ.out.com.trans (S' := fun _ => False) (Grows.of_below (Below.refl _ _)) (fun _ h => h.elim)) (fun h => h.trans (Below.mono (Below.refl _ _) h.size)) (fun h => h.elim fun F2 hh => ⟨F2, hh.1.below (Below.refl _ _), hh.2.trans ⟨Grows.of_below (Below.refl _ _), fun _ h => .inl h⟩⟩)⟩
            case o5 =>
              intro d0 ys wx hJ hdi hw hdeps
              have q4 : d0 4 = true := by simp [Region.Deps2, Go.Region.binds] at hdeps; simp [hdeps]
              have y4 : ys 70 = .pointer (some ⟨w.heap.size, 2, none⟩) := hJ.val 4 (by decide) q4
              clear hdeps
              have hC := Lib.hid hJ.com
              have vP := hC.out.var htB2.out.var (fun h => h.elim htB2.out.nF htB2.out.nG)
              have p0 := vP.cell (j := 0) rfl
              have p1 := vP.cell (j := 1) rfl
              have p2 := vP.cell (j := 2) rfl
              have p3 := vP.cell (j := 3) rfl
              unfold ptr at p0 p1 p2 p3
              clear vP
              have vX := hC.out.var vwBt3g.out nnBt3g.out
              have g0 := vX.cell (j := 0) rfl
              have g1 := vX.cell (j := 1) rfl
              have g2 := vX.cell (j := 2) rfl
              clear vX
              have vX := hC.out.var vwBt3x.out nnBt3x.out
              have x0 := vX.cell (j := 0) rfl
              have x1 := vX.cell (j := 1) rfl
              have x2 := vX.cell (j := 2) rfl
              have x3 := vX.cell (j := 3) rfl
              clear vX
              have HJ := Lib.hid hJ
              clear hJ hw
              simp only [y4, List.getD_cons_succ, List.getD_cons_zero, fill, slots, List.filterMap_cons, List.filterMap_nil, id, List.foldl_cons, List.foldl_nil, Act.put, List.setIfInBounds_toArray, List.set_cons_succ, List.set_cons_zero]
              go_wp2_with fail
              exact ⟨_, rfl, HJ.out.plain (i := 5) (by decide) (by decide) (by decide) rfl (HJ.out.com.trans (S' := fun _ => False) (Grows.of_below (Below.refl _ _)) (fun _ h => h.elim)) (fun h => h.trans (Below.mono (Below.refl _ _) h.size)) (fun h => h.elim fun F2 hh => ⟨F2, hh.1.below (Below.refl _ _), hh.2.trans ⟨Grows.of_below (Below.refl _ _), fun _ h => .inl h⟩⟩)⟩
            case o6 =>
              intro d0 ys wx hJ hdi hw hdeps
              have q5 : d0 5 = true := by simp [Region.Deps2, Go.Region.binds] at hdeps; simp [hdeps]
              have y5 : ys 71 = .int .i64 (rgs : Int) := hJ.val 5 (by decide) q5
              clear hdeps
              have HJ := Lib.hid hJ
              clear hJ hw
              simp only [y5, List.getD_cons_succ, List.getD_cons_zero, fill, slots, List.filterMap_cons, List.filterMap_nil, id, List.foldl_cons, List.foldl_nil, Act.put, List.setIfInBounds_toArray, List.set_cons_succ, List.set_cons_zero]
              go_wp2_with fail
              exact ⟨_, rfl, HJ.out.plain (i := 6) (by decide) (by decide) (by decide) rfl (HJ.out.com.trans (S' := fun _ => False) (Grows.of_below (Below.refl _ _)) (fun _ h => h.elim)) (fun h => h.trans (Below.mono (Below.refl _ _) h.size)) (fun h => h.elim fun F2 hh => ⟨F2, hh.1.below (Below.refl _ _), hh.2.trans ⟨Grows.of_below (Below.refl _ _), fun _ h => .inl h⟩⟩)⟩
            case o7 =>
              intro d0 ys wx hJ hdi hw hdeps
              have q3 : d0 3 = true := by simp [Region.Deps2, Go.Region.binds] at hdeps; simp [hdeps]
              have y3 : ys 69 = .pointer (some ⟨t, 0, none⟩) := hJ.val 3 (by decide) q3
              have q6 : d0 6 = true := by simp [Region.Deps2, Go.Region.binds] at hdeps; simp [hdeps]
              have y6 : ys 72 = .int .i64 ((rgs : Int) - 1) := hJ.val 6 (by decide) q6
              clear hdeps
              have hC := Lib.hid hJ.com
              have hB := Lib.hid (hJ.m0 hdi)
              have HJ := Lib.hid hJ
              clear hJ hw
              simp only [y3, y6, List.getD_cons_succ, List.getD_cons_zero, fill, slots, List.filterMap_cons, List.filterMap_nil, id, List.foldl_cons, List.foldl_nil, Act.put, List.setIfInBounds_toArray, List.set_cons_succ, List.set_cons_zero]
              go_wp2_with (go_at_call 20; (with_reducible refine (HC3.out _ _ (htB2.out.below hB.out)).mono ?_); rintro e wy ⟨rfl, Fy, hy, ay⟩)
              exact ⟨_, rfl, HJ.out.turn (by decide) (by decide) rfl (hC.out.trans (S' := both F3 G) ay.grows (fun _ h => .inl h)) ⟨Fy, hy, After.trans (S1 := both F3 G) ⟨Grows.of_below hB.out, fun _ h => .inl h⟩ ay⟩⟩
            case o8 =>
              intro d0 ys wx hJ hdi hw hdeps
              have q7 : d0 7 = true := by simp [Region.Deps2, Go.Region.binds] at hdeps; simp [hdeps]
              have y7 : ys 73 = .int .i64 7 := hJ.val 7 (by decide) q7
              clear hdeps
              have HJ := Lib.hid hJ
              clear hJ hw
              simp only [y7, List.getD_cons_succ, List.getD_cons_zero, fill, slots, List.filterMap_cons, List.filterMap_nil, id, List.foldl_cons, List.foldl_nil, Act.put, List.setIfInBounds_toArray, List.set_cons_succ, List.set_cons_zero]
              go_wp2_with fail
              exact ⟨_, rfl, HJ.out.plain (i := 8) (by decide) (by decide) (by decide) rfl (HJ.out.com.trans (S' := fun _ => False) (Grows.of_below (Below.refl _ _)) (fun _ h => h.elim)) (fun h => h.trans (Below.mono (Below.refl _ _) h.size)) (fun h => h.elim fun F2 hh => ⟨F2, hh.1.below (Below.refl _ _), hh.2.trans ⟨Grows.of_below (Below.refl _ _), fun _ h => .inl h⟩⟩)⟩
          case donec =>
            intro d0 ys wx hJ hall
            have hM : ∃ F2, Pair wx P p q t r p' q' (flushT tp).2 (newT pg pgs rgs) F2 G ∧ After (both F3 G) wtB2 wx (both F2 G) := hJ.m1 (hall 7 (by decide))
            have h13 : ys 13 = .int .i64 7 := hJ.val 8 (by decide) (hall 8 (by decide))
            clear hJ hall
            simp only [h13, List.getD_cons_succ, List.getD_cons_zero, fill, slots, List.filterMap_cons, List.filterMap_nil, id, List.foldl_cons, List.foldl_nil, Act.put, List.setIfInBounds_toArray, List.set_cons_succ, List.set_cons_zero]
            with_reducible refine Exists.elim hM ?_
            intro F4 hMM
            have ht3 := Lib.hid hMM.1
            have at3 := Lib.hid hMM.2
            clear hM hMM
            obtain ⟨wt3, hwt3⟩ : ∃ wy, wy = wx := ⟨_, rfl⟩
            rw [← hwt3] at ht3 at3 ⊢
            clear hwt3
            have vwBt4g := Lib.hid (at3.out.grows.var vwBt3g.out nnBt3g.out)
            have nnBt4g := Lib.hid (not_after at3.out nnBt3g.out vwBt3g.out.lt)
            have vwBt4x := Lib.hid (at3.out.grows.var vwBt3x.out nnBt3x.out)
            have nnBt4x := Lib.hid (not_after at3.out nnBt3x.out vwBt3x.out.lt)
            have bwBt4 := Lib.hid (bwBt3.out.trans (at3.out.grows.below bwBt3.out.size ftBt3.out))
            have ftBt4 := Lib.hid (at3.out.beyond bwBt3.out.size ftBt3.out)
            have zwBt4 := Lib.hid at3.out.grows.size
            have pp2 := ht3.out.var.cell (j := 2) rfl
            unfold ptr at pp2
            go_wp2_with (go_at_call 20; go_loud ((with_reducible refine (HC4.out _ _ ht3.out).mono ?_); rintro e wtB4 ⟨rfl, F5, hpx, hax⟩; have htB4 := Lib.hid hpx; have atB4 := Lib.hid hax; clear hpx hax; have vwBt5g := Lib.hid (atB4.out.grows.var vwBt4g.out nnBt4g.out); have nnBt5g := Lib.hid (not_after atB4.out nnBt4g.out vwBt4g.out.lt); have vwBt5x := Lib.hid (atB4.out.grows.var vwBt4x.out nnBt4x.out); have nnBt5x := Lib.hid (not_after atB4.out nnBt4x.out vwBt4x.out.lt); have bwBt5 := Lib.hid (bwBt4.out.trans (atB4.out.grows.below bwBt4.out.size ftBt4.out)); have ftBt5 := Lib.hid (atB4.out.beyond bwBt4.out.size ftBt4.out); have zwBt5 := Lib.hid atB4.out.grows.size; clear pp2))
            refine wp_region_each3 [some 80, some 81, some 82, some 83, some 84, some 85, some 79, some 86, some 87, some 15, some 16] (TJ [80, 81, 82, 83, 84, 85, 79, 86, 87, 15, 16] [.pointer (some ⟨P, 0, none⟩), .pointer (some ⟨P, 0, none⟩), .pointer (some ⟨P, 2, none⟩), .pointer (some ⟨t, 0, none⟩), .agg #[.int .i64 2, .int .u32 1, .int .u32 0, .string B], .tuple #[.int .i64 1, .int .i64 0], .tuple #[.int .i64 1, .int .i64 0], .int .i64 1, .int .i64 0, .int .i64 1, .int .i64 0] 5 (fun wx => Grows (both F5 G) wtB4 wx) (fun wx => Below wtB4.heap.size wtB4 wx) (fun wx => ∃ F2, Pair wx P p q t r p' q' t5 (newT pg pgs rgs) F2 G ∧ After (both F5 G) wtB4 wx (both F2 G))) (by kernel_rfl) (by kernel_rfl) (by simp [slots]) ?startd ?eachd ?doned
            case startd => exact ⟨by simp, Grows.of_below ((Below.refl _ _).drew), fun _ => (Below.refl _ _).drew, by simp⟩
            case eachd =>
              simp only [Each2]
              refine ⟨?o0, ?o1, ?o2, ?o3, ?o4, ?o5, ?o6, ?o7, ?o8, ?o9, ?o10, trivial⟩
              case o0 =>
                intro d0 ys wx hJ hdi hw hdeps
                clear hdeps
                have HJ := Lib.hid hJ
                clear hJ hw
                simp only [List.getD_cons_succ, List.getD_cons_zero, fill, slots, List.filterMap_cons, List.filterMap_nil, id, List.foldl_cons, List.foldl_nil, Act.put, List.setIfInBounds_toArray, List.set_cons_succ, List.set_cons_zero]
                go_wp2_with fail
                exact ⟨_, rfl, HJ.out.plain (i := 0) (by decide) (by decide) (by decide) rfl (HJ.out.com.trans (S' := fun _ => False) (Grows.of_below (Below.refl _ _)) (fun _ h => h.elim)) (fun h => h.trans (Below.mono (Below.refl _ _) h.size)) (fun h => h.elim fun F2 hh => ⟨F2, hh.1.below (Below.refl _ _), hh.2.trans ⟨Grows.of_below (Below.refl _ _), fun _ h => .inl h⟩⟩)⟩
              case o1 =>
                intro d0 ys wx hJ hdi hw hdeps
                have q0 : d0 0 = true := by simp [Region.Deps2, Go.Region.binds] at hdeps; simp [hdeps]
                have y0 : ys 80 = .pointer (some ⟨P, 0, none⟩) := hJ.val 0 (by decide) q0
                clear hdeps
                have HJ := Lib.hid hJ
                clear hJ hw
                simp only [y0, List.getD_cons_succ, List.getD_cons_zero, fill, slots, List.filterMap_cons, List.filterMap_nil, id, List.foldl_cons, List.foldl_nil, Act.put, List.setIfInBounds_toArray, List.set_cons_succ, List.set_cons_zero]
                go_wp2_with fail
                exact ⟨_, rfl, HJ.out.plain (i := 1) (by decide) (by decide) (by decide) rfl (HJ.out.com.trans (S' := fun _ => False) (Grows.of_below (Below.refl _ _)) (fun _ h => h.elim)) (fun h => h.trans (Below.mono (Below.refl _ _) h.size)) (fun h => h.elim fun F2 hh => ⟨F2, hh.1.below (Below.refl _ _), hh.2.trans ⟨Grows.of_below (Below.refl _ _), fun _ h => .inl h⟩⟩)⟩
              case o2 =>
                intro d0 ys wx hJ hdi hw hdeps
                have q1 : d0 1 = true := by simp [Region.Deps2, Go.Region.binds] at hdeps; simp [hdeps]
                have y1 : ys 81 = .pointer (some ⟨P, 0, none⟩) := hJ.val 1 (by decide) q1
                clear hdeps
                have HJ := Lib.hid hJ
                clear hJ hw
                simp only [y1, List.getD_cons_succ, List.getD_cons_zero, fill, slots, List.filterMap_cons, List.filterMap_nil, id, List.foldl_cons, List.foldl_nil, Act.put, List.setIfInBounds_toArray, List.set_cons_succ, List.set_cons_zero]
                go_wp2_with fail
                exact ⟨_, rfl, HJ.out.plain (i := 2) (by decide) (by decide) (by decide) rfl (HJ.out.com.trans (S' := fun _ => False) (Grows.of_below (Below.refl _ _)) (fun _ h => h.elim)) (fun h => h.trans (Below.mono (Below.refl _ _) h.size)) (fun h => h.elim fun F2 hh => ⟨F2, hh.1.below (Below.refl _ _), hh.2.trans ⟨Grows.of_below (Below.refl _ _), fun _ h => .inl h⟩⟩)⟩
              case o3 =>
                intro d0 ys wx hJ hdi hw hdeps
                have q2 : d0 2 = true := by simp [Region.Deps2, Go.Region.binds] at hdeps; simp [hdeps]
                have y2 : ys 82 = .pointer (some ⟨P, 2, none⟩) := hJ.val 2 (by decide) q2
                clear hdeps
                have hC := Lib.hid hJ.com
                have vP := hC.out.var htB4.out.var (fun h => h.elim htB4.out.nF htB4.out.nG)
                have p0 := vP.cell (j := 0) rfl
                have p1 := vP.cell (j := 1) rfl
                have p2 := vP.cell (j := 2) rfl
                have p3 := vP.cell (j := 3) rfl
                unfold ptr at p0 p1 p2 p3
                clear vP
                have vX := hC.out.var vwBt5g.out nnBt5g.out
                have g0 := vX.cell (j := 0) rfl
                have g1 := vX.cell (j := 1) rfl
                have g2 := vX.cell (j := 2) rfl
                clear vX
                have vX := hC.out.var vwBt5x.out nnBt5x.out
                have x0 := vX.cell (j := 0) rfl
                have x1 := vX.cell (j := 1) rfl
                have x2 := vX.cell (j := 2) rfl
                have x3 := vX.cell (j := 3) rfl
                clear vX
                have HJ := Lib.hid hJ
                clear hJ hw
                simp only [y2, List.getD_cons_succ, List.getD_cons_zero, fill, slots, List.filterMap_cons, List.filterMap_nil, id, List.foldl_cons, List.foldl_nil, Act.put, List.setIfInBounds_toArray, List.set_cons_succ, List.set_cons_zero]
                go_wp2_with fail
                exact ⟨_, rfl, HJ.out.plain (i := 3) (by decide) (by decide) (by decide) rfl (HJ.out.com.trans (S' := fun _ => False) (Grows.of_below (Below.refl _ _)) (fun _ h => h.elim)) (fun h => h.trans (Below.mono (Below.refl _ _) h.size)) (fun h => h.elim fun F2 hh => ⟨F2, hh.1.below (Below.refl _ _), hh.2.trans ⟨Grows.of_below (Below.refl _ _), fun _ h => .inl h⟩⟩)⟩
              case o4 =>
                intro d0 ys wx hJ hdi hw hdeps
                clear hdeps
                have hC := Lib.hid hJ.com
                have vP := hC.out.var htB4.out.var (fun h => h.elim htB4.out.nF htB4.out.nG)
                have p0 := vP.cell (j := 0) rfl
                have p1 := vP.cell (j := 1) rfl
                have p2 := vP.cell (j := 2) rfl
                have p3 := vP.cell (j := 3) rfl
                unfold ptr at p0 p1 p2 p3
                clear vP
                have vX := hC.out.var vwBt5g.out nnBt5g.out
                have g0 := vX.cell (j := 0) rfl
                have g1 := vX.cell (j := 1) rfl
                have g2 := vX.cell (j := 2) rfl
                clear vX
                have vX := hC.out.var vwBt5x.out nnBt5x.out
                have x0 := vX.cell (j := 0) rfl
                have x1 := vX.cell (j := 1) rfl
                have x2 := vX.cell (j := 2) rfl
                have x3 := vX.cell (j := 3) rfl
                clear vX
                have HJ := Lib.hid hJ
                clear hJ hw
                simp only [List.getD_cons_succ, List.getD_cons_zero, fill, slots, List.filterMap_cons, List.filterMap_nil, id, List.foldl_cons, List.foldl_nil, Act.put, List.setIfInBounds_toArray, List.set_cons_succ, List.set_cons_zero]
                go_wp2_with fail
                exact ⟨_, rfl, HJ.out.plain (i := 4) (by decide) (by decide) (by decide) rfl (HJ.out.com.trans (S' := fun _ => False) (Grows.of_below (Below.refl _ _)) (fun _ h => h.elim)) (fun h => h.trans (Below.mono (Below.refl _ _) h.size)) (fun h => h.elim fun F2 hh => ⟨F2, hh.1.below (Below.refl _ _), hh.2.trans ⟨Grows.of_below (Below.refl _ _), fun _ h => .inl h⟩⟩)⟩
              case o5 =>
                intro d0 ys wx hJ hdi hw hdeps
                have q3 : d0 3 = true := by simp [Region.Deps2, Go.Region.binds] at hdeps; simp [hdeps]
                have y3 : ys 83 = .pointer (some ⟨t, 0, none⟩) := hJ.val 3 (by decide) q3
                have q4 : d0 4 = true := by simp [Region.Deps2, Go.Region.binds] at hdeps; simp [hdeps]
                have y4 : ys 84 = .agg #[.int .i64 2, .int .u32 1, .int .u32 0, .string B] := hJ.val 4 (by decide) q4
                clear hdeps
                have hC := Lib.hid hJ.com
                have hB := Lib.hid (hJ.m0 hdi)
                have HJ := Lib.hid hJ
                clear hJ hw
                simp only [y3, y4, List.getD_cons_succ, List.getD_cons_zero, fill, slots, List.filterMap_cons, List.filterMap_nil, id, List.foldl_cons, List.foldl_nil, Act.put, List.setIfInBounds_toArray, List.set_cons_succ, List.set_cons_zero]
                go_wp2_with (go_at_call 13; (with_reducible refine (HC5.out _ _ (htB4.out.below hB.out)).mono ?_); rintro e wy ⟨rfl, Fy, hy, ay⟩)
                exact ⟨_, rfl, HJ.out.turn (by decide) (by decide) rfl (hC.out.trans (S' := both F5 G) ay.grows (fun _ h => .inl h)) ⟨Fy, hy, After.trans (S1 := both F5 G) ⟨Grows.of_below hB.out, fun _ h => .inl h⟩ ay⟩⟩
              case o6 =>
                intro d0 ys wx hJ hdi hw hdeps
                have q5 : d0 5 = true := by simp [Region.Deps2, Go.Region.binds] at hdeps; simp [hdeps]
                have y5 : ys 85 = .tuple #[.int .i64 1, .int .i64 0] := hJ.val 5 (by decide) q5
                clear hdeps
                have HJ := Lib.hid hJ
                clear hJ hw
                simp only [y5, List.getD_cons_succ, List.getD_cons_zero, fill, slots, List.filterMap_cons, List.filterMap_nil, id, List.foldl_cons, List.foldl_nil, Act.put, List.setIfInBounds_toArray, List.set_cons_succ, List.set_cons_zero]
                go_wp2_with fail
                exact ⟨_, rfl, HJ.out.plain (i := 6) (by decide) (by decide) (by decide) rfl (HJ.out.com.trans (S' := fun _ => False) (Grows.of_below (Below.refl _ _)) (fun _ h => h.elim)) (fun h => h.trans (Below.mono (Below.refl _ _) h.size)) (fun h => h.elim fun F2 hh => ⟨F2, hh.1.below (Below.refl _ _), hh.2.trans ⟨Grows.of_below (Below.refl _ _), fun _ h => .inl h⟩⟩)⟩
              case o7 =>
                intro d0 ys wx hJ hdi hw hdeps
                have q6 : d0 6 = true := by simp [Region.Deps2, Go.Region.binds] at hdeps; simp [hdeps]
                have y6 : ys 79 = .tuple #[.int .i64 1, .int .i64 0] := hJ.val 6 (by decide) q6
                clear hdeps
                have HJ := Lib.hid hJ
                clear hJ hw
                simp only [y6, List.getD_cons_succ, List.getD_cons_zero, fill, slots, List.filterMap_cons, List.filterMap_nil, id, List.foldl_cons, List.foldl_nil, Act.put, List.setIfInBounds_toArray, List.set_cons_succ, List.set_cons_zero]
                go_wp2_with fail
                exact ⟨_, rfl, HJ.out.plain (i := 7) (by decide) (by decide) (by decide) rfl (HJ.out.com.trans (S' := fun _ => False) (Grows.of_below (Below.refl _ _)) (fun _ h => h.elim)) (fun h => h.trans (Below.mono (Below.refl _ _) h.size)) (fun h => h.elim fun F2 hh => ⟨F2, hh.1.below (Below.refl _ _), hh.2.trans ⟨Grows.of_below (Below.refl _ _), fun _ h => .inl h⟩⟩)⟩
              case o8 =>
                intro d0 ys wx hJ hdi hw hdeps
                have q6 : d0 6 = true := by simp [Region.Deps2, Go.Region.binds] at hdeps; simp [hdeps]
                have y6 : ys 79 = .tuple #[.int .i64 1, .int .i64 0] := hJ.val 6 (by decide) q6
                clear hdeps
                have HJ := Lib.hid hJ
                clear hJ hw
                simp only [y6, List.getD_cons_succ, List.getD_cons_zero, fill, slots, List.filterMap_cons, List.filterMap_nil, id, List.foldl_cons, List.foldl_nil, Act.put, List.setIfInBounds_toArray, List.set_cons_succ, List.set_cons_zero]
                go_wp2_with fail
                exact ⟨_, rfl, HJ.out.plain (i := 8) (by decide) (by decide) (by decide) rfl (HJ.out.com.trans (S' := fun _ => False) (Grows.of_below (Below.refl _ _)) (fun _ h => h.elim)) (fun h => h.trans (Below.mono (Below.refl _ _) h.size)) (fun h => h.elim fun F2 hh => ⟨F2, hh.1.below (Below.refl _ _), hh.2.trans ⟨Grows.of_below (Below.refl _ _), fun _ h => .inl h⟩⟩)⟩
              case o9 =>
                intro d0 ys wx hJ hdi hw hdeps
                have q7 : d0 7 = true := by simp [Region.Deps2, Go.Region.binds] at hdeps; simp [hdeps]
                have y7 : ys 86 = .int .i64 1 := hJ.val 7 (by decide) q7
                clear hdeps
                have HJ := Lib.hid hJ
                clear hJ hw
                simp only [y7, List.getD_cons_succ, List.getD_cons_zero, fill, slots, List.filterMap_cons, List.filterMap_nil, id, List.foldl_cons, List.foldl_nil, Act.put, List.setIfInBounds_toArray, List.set_cons_succ, List.set_cons_zero]
                go_wp2_with fail
                exact ⟨_, rfl, HJ.out.plain (i := 9) (by decide) (by decide) (by decide) rfl (HJ.out.com.trans (S' := fun _ => False) (Grows.of_below (Below.refl _ _)) (fun _ h => h.elim)) (fun h => h.trans (Below.mono (Below.refl _ _) h.size)) (fun h => h.elim fun F2 hh => ⟨F2, hh.1.below (Below.refl _ _), hh.2.trans ⟨Grows.of_below (Below.refl _ _), fun _ h => .inl h⟩⟩)⟩
              case o10 =>
                intro d0 ys wx hJ hdi hw hdeps
                have q8 : d0 8 = true := by simp [Region.Deps2, Go.Region.binds] at hdeps; simp [hdeps]
                have y8 : ys 87 = .int .i64 0 := hJ.val 8 (by decide) q8
                clear hdeps
                have HJ := Lib.hid hJ
                clear hJ hw
                simp only [y8, List.getD_cons_succ, List.getD_cons_zero, fill, slots, List.filterMap_cons, List.filterMap_nil, id, List.foldl_cons, List.foldl_nil, Act.put, List.setIfInBounds_toArray, List.set_cons_succ, List.set_cons_zero]
                go_wp2_with fail
                exact ⟨_, rfl, HJ.out.plain (i := 10) (by decide) (by decide) (by decide) rfl (HJ.out.com.trans (S' := fun _ => False) (Grows.of_below (Below.refl _ _)) (fun _ h => h.elim)) (fun h => h.trans (Below.mono (Below.refl _ _) h.size)) (fun h => h.elim fun F2 hh => ⟨F2, hh.1.below (Below.refl _ _), hh.2.trans ⟨Grows.of_below (Below.refl _ _), fun _ h => .inl h⟩⟩)⟩
            case doned =>
              intro d0 ys wx hJ hall
              have hM : ∃ F2, Pair wx P p q t r p' q' t5 (newT pg pgs rgs) F2 G ∧ After (both F5 G) wtB4 wx (both F2 G) := hJ.m1 (hall 5 (by decide))
              have h15 : ys 15 = .int .i64 1 := hJ.val 9 (by decide) (hall 9 (by decide))
              have h16 : ys 16 = .int .i64 0 := hJ.val 10 (by decide) (hall 10 (by decide))
              clear hJ hall
              simp only [h15, h16, List.getD_cons_succ, List.getD_cons_zero, fill, slots, List.filterMap_cons, List.filterMap_nil, id, List.foldl_cons, List.foldl_nil, Act.put, List.setIfInBounds_toArray, List.set_cons_succ, List.set_cons_zero]
              with_reducible refine Exists.elim hM ?_
              intro F6 hMM
              have ht5 := Lib.hid hMM.1
              have at5 := Lib.hid hMM.2
              clear hM hMM
              obtain ⟨wt5, hwt5⟩ : ∃ wy, wy = wx := ⟨_, rfl⟩
              rw [← hwt5] at ht5 at5 ⊢
              clear hwt5
              have vwBt6g := Lib.hid (at5.out.grows.var vwBt5g.out nnBt5g.out)
              have nnBt6g := Lib.hid (not_after at5.out nnBt5g.out vwBt5g.out.lt)
              have vwBt6x := Lib.hid (at5.out.grows.var vwBt5x.out nnBt5x.out)
              have nnBt6x := Lib.hid (not_after at5.out nnBt5x.out vwBt5x.out.lt)
              have bwBt6 := Lib.hid (bwBt5.out.trans (at5.out.grows.below bwBt5.out.size ftBt5.out))
              have ftBt6 := Lib.hid (at5.out.beyond bwBt5.out.size ftBt5.out)
              have zwBt6 := Lib.hid at5.out.grows.size
              go_wp2
              go_ret
              exact ⟨rfl, bwBt6.out⟩
end Go.Proofs.Ytcmjambbdfangaa.Tape
