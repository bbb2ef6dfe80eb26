/-
  What the document's own FrameRead answers of bytes that may be a frame.
-/
import Derived.Test.YtlpjgfafecpbgaaRefFrameC
set_option linter.unusedVariables false
set_option linter.unusedSimpArgs false
namespace Go.Proofs.Ytlpjgfafecpbgaa.Frame
open Go.RowKit
open CrcM (W)
open Crc (le4 sumOf vl wd putS)
open Flash (bs bs_size bs_list list_bs)
open Tup Bytes
open Go.Proofs.Ytlpjgfafecpbgaa.Region (fill Then Deps Each wp_region_is wp_region_is_tail wp_region_each wp_region_tail)

set_option maxRecDepth 100000 in
set_option maxHeartbeats 8000000 in
theorem read_case5 (b : ByteArray) (hs : b.size ≤ maxLen) (w : World) (ha : ¬ (b.data.toList.length < 32 ∨ 128 < b.data.toList.length)) (hb : Flash.blank b.data.toList = false) (hsm : le4 b.data.toList (b.data.toList.length - 4) = sumOf (b.data.toList.take (b.data.toList.length - 4))) (hx : (1 ≤ (b.data.toList.getD 0 0).toNat ∧ (b.data.toList.getD 0 0).toNat ≤ 4 ∧ sizeAt b.data.toList ≤ b.data.toList.length - 15)) :
    Calls Try.prog 17 #[.string b] w fun e w' => e = .returned (.tuple #[fV (readF b.data.toList).1, .int .i64 ((readF b.data.toList).2 : Int)]) ∧ Below w.heap.size w w' := by
  have hs0 := hs
  unfold maxLen at hs0
  have hll : b.data.toList.length = b.size := by simp
  have HE2 := Lib.hid (fun hf => read_form ha hb hsm hf)
  have HE0 := Lib.hid (fun hf => read_ok ha hb hsm hf)
  have hfi := formed_is b.data.toList (b.data.toList.length - 4) rfl
  rw [decide_eq_true hx.1, decide_eq_true hx.2.1, decide_eq_true hx.2.2, Bool.and_self, Bool.and_self, Bool.true_and] at hfi
  have ha1 : 32 ≤ b.size ∧ b.size ≤ 128 := by omega
  have d1 : decide ((b.size : Int) < 32) = false := decide_eq_false (by omega)
  have d2 : decide (128 < (b.size : Int)) = false := decide_eq_false (by omega)
  have HB := Lib.hid (fun w => Flash.refBlank_any b hs w)
  obtain ⟨n, hn⟩ : ∃ n, n = b.size - 4 := ⟨_, rfl⟩
  have hnI : (b.size : Int) - 4 = (n : Int) := by omega
  have hn1 : n + 4 = b.size := by omega
  obtain ⟨l, hl⟩ : ∃ l, l = b.data.toList := ⟨_, rfl⟩
  rw [← hl] at ha hll HB hb HE2 HE0 hsm hx hfi
  rw [← hl]
  have HL := Lib.hid hl
  have hln : l.length - 4 = n := by omega
  have HV1 := Lib.hid (Var.new w 26 [.int .i64 0, .int .u32 0, .int .u32 0, .string ⟨#[]⟩])
  have HGT := Lib.hid (fun w => Crc.refGet_any b hs n (by omega) w)
  have HTB := Lib.hid (Txt.cutS l n (n : Int) rfl (by omega))
  rw [hl, bs_list, ← hl] at HTB
  have HCR := Lib.hid (fun w => Crc.refCrc_any (bs (l.take n)) (by rw [bs_size, List.length_take]; unfold maxLen; omega) w)
  rw [list_bs] at HCR
  rw [← hl] at HGT
  obtain ⟨TB, hTB⟩ : ∃ TB, TB = bs (l.take n) := ⟨_, rfl⟩
  rw [← hTB] at HTB HCR
  have htb := HTB.out
  clear hTB
  rw [hb] at HB
  rw [hln] at hsm
  obtain ⟨L4, hL4⟩ : ∃ L4, L4 = le4 l n := ⟨_, rfl⟩
  obtain ⟨SB, hSB⟩ : ∃ SB, SB = sumOf (l.take n) := ⟨_, rfl⟩
  rw [← hL4] at HGT hsm
  rw [← hSB] at HCR hsm
  have e1 : (L4 != SB) = false := by simp [hsm]
  have e2 : (L4 == SB) = true := by simp [hsm]
  have h0 : 0 < b.size := by omega
  have h9 : 9 < b.size := by omega
  have h10 : 10 < b.size := by omega
  have i9 : (9 : Int) < (b.size : Int) := by omega
  have i10 : (10 : Int) < (b.size : Int) := by omega
  have i0 : (0 : Int) < (b.size : Int) := by omega
  obtain ⟨n0, q0⟩ : ∃ n0, (b[0]'h0).toNat = n0 := ⟨_, rfl⟩
  obtain ⟨n9, q9⟩ : ∃ n9, (b[9]'h9).toNat = n9 := ⟨_, rfl⟩
  obtain ⟨n10, q10⟩ : ∃ n10, (b[10]'h10).toNat = n10 := ⟨_, rfl⟩
  have m0 : n0 < 256 := by rw [← q0]; exact UInt8.toNat_lt _
  have m9 : n9 < 256 := by rw [← q9]; exact UInt8.toNat_lt _
  have m10 : n10 < 256 := by rw [← q10]; exact UInt8.toNat_lt _
  have g0 : (l.getD 0 0).toNat = n0 := by rw [hl, Crc.getD_byte b 0 h0, q0]
  have g9 : sizeAt l = n9 + n10 * 256 := by unfold sizeAt; rw [hl, Crc.getD_byte b 9 h9, Crc.getD_byte b 10 h10, q9, q10]
  rw [g0, g9, hll] at hx
  obtain ⟨sz, hsz⟩ : ∃ sz, sz = n9 + n10 * 256 := ⟨_, rfl⟩
  rw [g9, ← hsz, hln] at hfi
  have HFI := Lib.hid hfi
  have hszn : 11 + sz ≤ n := by omega
  have x1 : decide ((n0 : Int) < 1) = false := decide_eq_false (by omega)
  have x2 : decide (4 < (n0 : Int)) = false := decide_eq_false (by omega)
  have x3 : decide ((b.size : Int) - 15 < (n9 : Int) + (n10 : Int) * 256) = false := decide_eq_false (by omega)
  have HSZ := Lib.hid hsz
  have HG1 := Lib.hid (fun w => Crc.refGet_any b hs 1 (by omega) w)
  have HG5 := Lib.hid (fun w => Crc.refGet_any b hs 5 (by omega) w)
  rw [← hl, show ((1 : Nat) : Int) = 1 from rfl] at HG1
  rw [← hl, show ((5 : Nat) : Int) = 5 from rfl] at HG5
  have hcs := Txt.cutSS l 11 (11 + sz) 11 (11 + ((n9 : Int) + (n10 : Int) * 256)) rfl (by omega) (by omega) (by omega)
  rw [Nat.add_sub_cancel_left, hl, bs_list, ← hl] at hcs
  obtain ⟨BD, hBD⟩ : ∃ BD, BD = bs (Flash.cut l 11 sz) := ⟨_, rfl⟩
  rw [← hBD] at hcs
  have a1 := wd_le4 l 1
  have a5 := wd_le4 l 5
  obtain ⟨A1, hA1⟩ : ∃ A1, A1 = le4 l 1 := ⟨_, rfl⟩
  obtain ⟨A5, hA5⟩ : ∃ A5, A5 = le4 l 5 := ⟨_, rfl⟩
  rw [← hA1] at a1 HG1
  rw [← hA5] at a5 HG5
  have HFV := Lib.hid (show fV ⟨(l.getD 0 0).toNat, wd (le4 l 1), wd (le4 l 5), (l.drop 11).take (sizeAt l)⟩ = .agg #[.int .i64 (n0 : Int), .int .u32 A1, .int .u32 A5, .string BD] by
    unfold fV
    rw [g0, g9, ← hsz, ← hA1, ← hA5, a1, a5, hBD]; rfl)
  have HLL := Lib.hid hll
  clear ha hll hb hl hln hn hL4 hSB hsm hfi g0 g9 hx hsz hBD hA1 hA5 a1 a5
  go_enter Try.func17, Try.ntmps17
  go_wp2_with (go_at_call 19; (with_reducible refine (HB.out _).mono ?_); rintro e w5 ⟨rfl, rfl⟩)
  obtain ⟨w1, hw1⟩ : ∃ w1, w1 = w.alloc (.cells #[.int .i64 0, .int .u32 0, .int .u32 0, .string ⟨#[]⟩] 26) := ⟨_, rfl⟩
  have HB1 := Lib.hid (show Below w.heap.size w w1 by rw [hw1]; exact Geom.bel_alloc _ _)
  rw [show w.alloc (.cells [.int .i64 0, .int .u32 0, .int .u32 0, .string ⟨#[]⟩].toArray 26) = w1 from hw1.symm] at HV1
  rw [← hw1]
  clear hw1
  refine wp_region_is [22, 23, 24, 25, 26, 27, 28, 29] (fun w' => Below w1.heap.size w1 w')
    [.string b, .int .i64 (n : Int), .int .u32 L4, .string b, .int .i64 (n : Int), .string TB, .int .u32 SB, .bool false] (by kernel_rfl) (by kernel_rfl) rfl (by decide) (by simp) (Below.refl _ _).drew ?each ?done
  case each =>
    simp only [Each]
    repeat' (first | exact trivial | refine And.intro ?_ ?_)
    all_goals
      intro ys wx hBx hdeps
      simp only [Deps, Region.binds, List.getD_cons_zero, List.getD_cons_succ, forall_const, and_true] at hdeps
      simp only [hdeps, fill, List.foldl_cons, List.foldl_nil, Act.put, List.setIfInBounds_toArray, List.set_cons_succ, List.set_cons_zero]
      first
        | (go_wp2_with fail; exact ⟨_, rfl, rfl, hBx, Below.refl _ _⟩)
        | (go_wp2_with (go_at_call 37; (with_reducible refine (HGT.out _).mono ?_); rintro e w3 ⟨rfl, k3, rfl⟩); exact ⟨_, rfl, rfl, hBx.trans ((below_drewN _ k3).mono hBx.size), (below_drewN _ k3)⟩)
        | (go_wp2_with (go_at_call 22; (with_reducible refine (HCR.out _).mono ?_); rintro e w3 ⟨rfl, rfl⟩); exact ⟨_, rfl, rfl, hBx, Below.refl _ _⟩)
  case done =>
    intro ys wx hBx hV
    have h29 : ys 29 = .bool false := hV 7 (by decide)
    obtain ⟨w6, hw6⟩ : ∃ w6, w6 = wx := ⟨_, rfl⟩
    have HB6 := Lib.hid (bel2 HB1.out hBx)
    have HV6 := Lib.hid (HV1.out.below hBx HV1.out.lt)
    rw [← hw6] at HB6 HV6
    clear hBx hV
    simp only [h29, fill, List.drop_succ_cons, List.drop_zero, List.foldl_cons, List.foldl_nil, Act.put, List.setIfInBounds_toArray, List.set_cons_succ, List.set_cons_zero]
    rw [← hw6]
    clear hw6
    go_wp2
    refine wp_region_is [31, 32, 33, 34, 35, 36, 37, 38, 5] (fun w' => Below w6.heap.size w6 w')
      [.string b, .int .u8 (n9 : Int), .int .i64 (n9 : Int), .string b, .int .u8 (n10 : Int), .int .i64 (n10 : Int), .int .i64 ((n10 : Int) * 256), .int .i64 ((n9 : Int) + (n10 : Int) * 256), .int .i64 ((n9 : Int) + (n10 : Int) * 256)] (by kernel_rfl) (by kernel_rfl) rfl (by decide) (by simp) (Below.refl _ _).drew ?each ?done
    case each =>
      simp only [Each]
      repeat' (first | exact trivial | refine And.intro ?_ ?_)
      all_goals
        intro ys wx hBx hdeps
        simp only [Deps, Region.binds, List.getD_cons_zero, List.getD_cons_succ, forall_const, and_true] at hdeps
        simp only [hdeps, fill, List.foldl_cons, List.foldl_nil, Act.put, List.setIfInBounds_toArray, List.set_cons_succ, List.set_cons_zero]
        first
          | (go_wp2_with fail; exact ⟨_, rfl, rfl, hBx, Below.refl _ _⟩)
    case done =>
      intro ys wx hBx hV
      have h5 : ys 5 = .int .i64 ((n9 : Int) + (n10 : Int) * 256) := hV 8 (by decide)
      obtain ⟨w8, hw8⟩ : ∃ w8, w8 = wx := ⟨_, rfl⟩
      have HB8 := Lib.hid (bel2 HB6.out hBx)
      have HV8 := Lib.hid (HV6.out.below hBx HV6.out.lt)
      rw [← hw8] at HB8 HV8
      clear hBx hV
      simp only [h5, fill, List.drop_succ_cons, List.drop_zero, List.foldl_cons, List.foldl_nil, Act.put, List.setIfInBounds_toArray, List.set_cons_succ, List.set_cons_zero]
      rw [← hw8]
      clear hw8
      go_wp2
      go_loop [6] (fun v => ∃ k : Nat, v = .int .i64 (k : Int) ∧ 11 + sz ≤ k ∧ k ≤ n ∧ zeros l (11 + sz) k = true) (fun v => n - (intOf v).toNat)
      case atStart => exact ⟨11 + sz, by rw [HSZ.out]; simp only [Int.natCast_add, Int.natCast_mul]; rfl, Nat.le_refl _, hszn, zeros_start _ _⟩
      case round =>
        obtain ⟨k, rfl, hk1, hk2, hz⟩ := hrel
        by_cases hlt : k < n
        · have c1 : decide ((k : Int) < (n : Int)) = true := decide_eq_true (by omega)
          have c2 : decide (k < n) = true := decide_eq_true hlt
          have hkb : k < b.size := by omega
          have hki : (k : Int) < (b.size : Int) := by omega
          have HZS := Lib.hid (zeros_succ (l := l) (a := 11 + sz) hk1 (by rw [HLL.out]; exact hkb))
          rw [hz, HL.out, Crc.getD_byte b k hkb] at HZS
          obtain ⟨c, hc⟩ : ∃ c, b[k]'hkb = c := ⟨_, rfl⟩
          rw [hc] at HZS
          clear hz
          by_cases hz0 : c = 0
          · have t1 : ((c.toNat : Int) != 0) = false := by rw [hz0]; rfl
            have t2 : ((c.toNat : Int) == 0) = true := by rw [hz0]; rfl
            have HZ2 := Lib.hid (show zeros l (11 + sz) (k + 1) = true by rw [HL.out, HZS.out, hz0]; rfl)
            clear hz0 HZS
            go_wp2
            go_round
            case rel => exact ⟨k + 1, by go_num, by omega, by omega, HZ2.out⟩
            case measure => simp [intOf]; omega
          · have t0 : ¬ c.toNat = 0 := fun e => hz0 (UInt8.toNat_inj.1 (by rw [e]; rfl))
            have t1 : ((c.toNat : Int) != 0) = true := by simp; omega
            have t2 : ((c.toNat : Int) == 0) = false := by simp; omega
            have HZ2 := Lib.hid (show zeros l (11 + sz) (k + 1) = false by rw [HL.out, HZS.out]; simpa using hz0)
            have HE := Lib.hid (HE2.out (by rw [HFI.out]; exact zeros_not HZ2.out (by omega)))
            clear hz0 HZS t0
            have z0 := HV8.out.cell (j := 0) rfl
            have z1 := HV8.out.cell (j := 1) rfl
            have z2 := HV8.out.cell (j := 2) rfl
            have z3 := HV8.out.cell (j := 3) rfl
            have f0 := HV8.out.frozen 0
            have f1 := HV8.out.frozen 1
            have f2 := HV8.out.frozen 2
            have f3 := HV8.out.frozen 3
            have vz := (((HV8.out.set 0 (.int .i64 0)).set 1 (.int .u32 0)).set 2 (.int .u32 0)).set 3 (.string ⟨#[]⟩)
            go_wp2
            have k0 := vz.cell (j := 0) rfl
            have k1 := vz.cell (j := 1) rfl
            have k2 := vz.cell (j := 2) rfl
            have k3 := vz.cell (j := 3) rfl
            clear z0 z1 z2 z3 f0 f1 f2 f3 vz
            refine bodyPost_ret (v := .tuple #[fV zeroF, .int .i64 2]) (by rw [results_cell_tmp rfl]; simp [go_sem, k0, k1, k2, k3]; rfl) rfl ?_
            rw [HE.out]
            exact ⟨rfl, (((HB8.out.setCell (p := ⟨w.heap.size, 0, none⟩) (Nat.le_refl _) _).setCell (p := ⟨w.heap.size, 1, none⟩) (Nat.le_refl _) _).setCell (p := ⟨w.heap.size, 2, none⟩) (Nat.le_refl _) _).setCell (p := ⟨w.heap.size, 3, none⟩) (Nat.le_refl _) _⟩
        · obtain rfl : k = n := by omega
          have c1 : decide ((k : Int) < (k : Int)) = false := by simp
          have HE := Lib.hid (HE0.out (by rw [HFI.out]; exact hz))
          clear hz
          go_wp2
          refine wp_region_is_tail 11 [67, 68, 69, 70, 71, 72, 73, 74, 75, 76, 77] (fun w' => Below w8.heap.size w8 w')
            [.string b, .int .u8 (n0 : Int), .int .i64 (n0 : Int), .string b, .int .u32 A1, .string b, .int .u32 A5, .string b, .int .i64 ((n9 : Int) + (n10 : Int) * 256), .int .i64 (11 + ((n9 : Int) + (n10 : Int) * 256)), .string BD] (by kernel_rfl) (by kernel_rfl) (by kernel_rfl) (by decide) rfl (by decide) (by simp) (Below.refl _ _).drew ?each ?done
          case each =>
            simp only [List.take_succ_cons, List.take_zero, Each]
            repeat' (first | exact trivial | refine And.intro ?_ ?_)
            all_goals
              intro ys wx hBx hdeps
              simp only [Deps, Region.binds, List.getD_cons_zero, List.getD_cons_succ, forall_const, and_true] at hdeps
              simp only [hdeps, fill, List.foldl_cons, List.foldl_nil, Act.put, List.setIfInBounds_toArray, List.set_cons_succ, List.set_cons_zero]
              first
                | (go_wp2_with fail; exact ⟨_, rfl, rfl, hBx, Below.refl _ _⟩)
                | (go_wp2_with (go_at_call 37; (with_reducible refine (HG1.out _).mono ?_); rintro e w3 ⟨rfl, k3, rfl⟩); exact ⟨_, rfl, rfl, hBx.trans ((below_drewN _ k3).mono hBx.size), (below_drewN _ k3)⟩)
                | (go_wp2_with (go_at_call 37; (with_reducible refine (HG5.out _).mono ?_); rintro e w3 ⟨rfl, k3, rfl⟩); exact ⟨_, rfl, rfl, hBx.trans ((below_drewN _ k3).mono hBx.size), (below_drewN _ k3)⟩)
          case done =>
            intro ys wx hBx hV
            have h69 : ys 69 = .int .i64 (n0 : Int) := hV 2 (by decide)
            have h71 : ys 71 = .int .u32 A1 := hV 4 (by decide)
            have h73 : ys 73 = .int .u32 A5 := hV 6 (by decide)
            have h77 : ys 77 = .string BD := hV 10 (by decide)
            have HBx := Lib.hid (bel2 HB8.out hBx)
            have z0 := (HV8.out.below hBx HV8.out.lt).cell (j := 0) rfl
            have z1 := (HV8.out.below hBx HV8.out.lt).cell (j := 1) rfl
            have z2 := (HV8.out.below hBx HV8.out.lt).cell (j := 2) rfl
            have z3 := (HV8.out.below hBx HV8.out.lt).cell (j := 3) rfl
            have f0 := (HV8.out.below hBx HV8.out.lt).frozen 0
            have f1 := (HV8.out.below hBx HV8.out.lt).frozen 1
            have f2 := (HV8.out.below hBx HV8.out.lt).frozen 2
            have f3 := (HV8.out.below hBx HV8.out.lt).frozen 3
            have vz := ((((HV8.out.below hBx HV8.out.lt).set 0 (.int .i64 (n0 : Int))).set 1 (.int .u32 A1)).set 2 (.int .u32 A5)).set 3 (.string BD)
            clear hBx hV
            simp only [h69, h71, h73, h77, fill, List.drop_succ_cons, List.drop_zero, List.foldl_cons, List.foldl_nil, Act.put, List.setIfInBounds_toArray, List.set_cons_succ, List.set_cons_zero]
            go_wp2
            have k0 := vz.cell (j := 0) rfl
            have k1 := vz.cell (j := 1) rfl
            have k2 := vz.cell (j := 2) rfl
            have k3 := vz.cell (j := 3) rfl
            clear z0 z1 z2 z3 f0 f1 f2 f3 vz
            refine bodyPost_ret (v := .tuple #[.agg #[.int .i64 (n0 : Int), .int .u32 A1, .int .u32 A5, .string BD], .int .i64 0]) (by rw [results_cell_tmp rfl]; simp [go_sem, k0, k1, k2, k3]) rfl ?_
            rw [HE.out, HFV.out]
            exact ⟨rfl, (((HBx.out.setCell (p := ⟨w.heap.size, 0, none⟩) (Nat.le_refl _) _).setCell (p := ⟨w.heap.size, 1, none⟩) (Nat.le_refl _) _).setCell (p := ⟨w.heap.size, 2, none⟩) (Nat.le_refl _) _).setCell (p := ⟨w.heap.size, 3, none⟩) (Nat.le_refl _) _⟩
theorem refRead_any (b : ByteArray) (hs : b.size ≤ maxLen) (w : World) :
    Calls Try.prog 17 #[.string b] w fun e w' => e = .returned (.tuple #[fV (readF b.data.toList).1, .int .i64 ((readF b.data.toList).2 : Int)]) ∧ Below w.heap.size w w' := by
  by_cases ha : b.data.toList.length < 32 ∨ 128 < b.data.toList.length
  · exact read_case1 b hs w ha
  rcases hb : Flash.blank b.data.toList with _ | _
  · by_cases hsm : le4 b.data.toList (b.data.toList.length - 4) = sumOf (b.data.toList.take (b.data.toList.length - 4))
    · by_cases hx : 1 ≤ (b.data.toList.getD 0 0).toNat ∧ (b.data.toList.getD 0 0).toNat ≤ 4 ∧ sizeAt b.data.toList ≤ b.data.toList.length - 15
      · exact read_case5 b hs w ha hb hsm hx
      · refine read_case4 b hs w ha hb hsm ?_ (by omega)
        rw [formed_is _ _ rfl]
        rcases Decidable.not_and_iff_or_not.mp hx with h | h
        · rw [decide_eq_false h]; rfl
        · rcases Decidable.not_and_iff_or_not.mp h with h | h
          · rw [decide_eq_false h, Bool.and_false]; rfl
          · rw [decide_eq_false h, Bool.and_false]; rfl
    · exact read_case3 b hs w ha hb hsm
  · exact read_case2 b hs w ha hb
end Go.Proofs.Ytlpjgfafecpbgaa.Frame
