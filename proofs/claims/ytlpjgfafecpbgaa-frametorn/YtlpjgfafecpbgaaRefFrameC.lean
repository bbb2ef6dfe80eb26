/-
  What the document's own FrameRead answers.
-/
import Derived.Test.YtlpjgfafecpbgaaRefFrameB
set_option linter.unusedVariables false
set_option linter.unusedSimpArgs false
namespace Go.Proofs.Ytlpjgfafecpbgaa.Frame
open Go.RowKit
open CrcM (W)
open Crc (le4 sumOf vl wd putS)
open Flash (bs bs_size bs_list list_bs)
open Tup Bytes
open Go.Proofs.Ytlpjgfafecpbgaa.Region (fill Then Deps Each wp_region_is wp_region_is_tail wp_region_each wp_region_tail)

theorem read_arg {l : List UInt8} (h : l.length < 32 ∨ 128 < l.length) : readF l = (zeroF, 1) := by unfold readF; rw [if_pos h]
theorem read_none {l : List UInt8} (h : ¬ (l.length < 32 ∨ 128 < l.length)) (hb : Flash.blank l = true) : readF l = (zeroF, 9) := by unfold readF; rw [if_neg h, if_pos hb]
theorem read_sum {l : List UInt8} (h : ¬ (l.length < 32 ∨ 128 < l.length)) (hb : Flash.blank l = false) (hs : le4 l (l.length - 4) ≠ sumOf (l.take (l.length - 4))) : readF l = (zeroF, 5) := by
  unfold readF; rw [if_neg h, hb, if_neg (by simp), if_pos hs]
theorem read_form {l : List UInt8} (h : ¬ (l.length < 32 ∨ 128 < l.length)) (hb : Flash.blank l = false) (hs : le4 l (l.length - 4) = sumOf (l.take (l.length - 4))) (hf : formed l = false) : readF l = (zeroF, 2) := by
  unfold readF; rw [if_neg h, hb, if_neg (by simp), if_neg (by simp [hs]), if_pos hf]
theorem read_ok {l : List UInt8} (h : ¬ (l.length < 32 ∨ 128 < l.length)) (hb : Flash.blank l = false) (hs : le4 l (l.length - 4) = sumOf (l.take (l.length - 4))) (hf : formed l = true) :
    readF l = (⟨(l.getD 0 0).toNat, wd (le4 l 1), wd (le4 l 5), (l.drop 11).take (sizeAt l)⟩, 0) := by
  unfold readF; rw [if_neg h, hb, if_neg (by simp), if_neg (by simp [hs]), hf, if_neg (by simp)]
/-- are these bytes noughts? -/
def zeros (l : List UInt8) (a k : Nat) : Bool := ((l.drop a).take (k - a)).all (· == 0)
theorem zeros_start (l : List UInt8) (a : Nat) : zeros l a a = true := by unfold zeros; rw [Nat.sub_self]; rfl
theorem zeros_succ {l : List UInt8} {a k : Nat} (h : a ≤ k) (hk : k < l.length) : zeros l a (k + 1) = (zeros l a k && (l.getD k 0 == 0)) := by
  unfold zeros
  have hd : k - a < (l.drop a).length := by rw [List.length_drop]; omega
  rw [show k + 1 - a = (k - a) + 1 by omega, List.take_succ_eq_append_getElem hd, List.all_append, List.getElem_drop]
  have e : l.getD k 0 = l[k] := by rw [List.getD_eq_getElem?_getD, List.getElem?_eq_getElem hk]; rfl
  simp only [e, show a + (k - a) = k by omega, List.all_cons, List.all_nil, Bool.and_true]
theorem zeros_not {l : List UInt8} {a k n : Nat} (h : zeros l a k = false) (hk : k ≤ n) : zeros l a n = false := by
  unfold zeros at h ⊢
  rw [List.all_eq_false] at h ⊢
  obtain ⟨x, hx, h⟩ := h
  refine ⟨x, ?_, h⟩
  have : (l.drop a).take (k - a) = ((l.drop a).take (n - a)).take (k - a) := by rw [List.take_take, Nat.min_eq_left (by omega)]
  rw [this] at hx
  exact List.mem_of_mem_take hx
theorem formed_is (l : List UInt8) (n : Nat) (hn : n = l.length - 4) : formed l = (decide (1 ≤ (l.getD 0 0).toNat) && decide ((l.getD 0 0).toNat ≤ 4) && decide (sizeAt l ≤ l.length - 15) && zeros l (11 + sizeAt l) n) := by
  unfold formed zeros
  subst hn
  rw [List.drop_take]
theorem wd_le4 (l : List UInt8) (k : Nat) : vl (wd (le4 l k)) = le4 l k := by
  have h : ∀ j, (0 : Int) ≤ ((l.getD j 0).toNat : Int) ∧ ((l.getD j 0).toNat : Int) ≤ 255 := fun j => by have := (l.getD j 0).toNat_lt; omega
  have h0 := h k; have h1 := h (k + 1); have h2 := h (k + 2); have h3 := h (k + 3)
  refine Crc.vl_wd ?_ ?_ <;> unfold le4 <;> omega
set_option maxRecDepth 100000 in
set_option maxHeartbeats 8000000 in
theorem read_case1 (b : ByteArray) (hs : b.size ≤ maxLen) (w : World) (ha : b.data.toList.length < 32 ∨ 128 < b.data.toList.length) :
    Calls Try.prog 17 #[.string b] w fun e w' => e = .returned (.tuple #[fV (readF b.data.toList).1, .int .i64 ((readF b.data.toList).2 : Int)]) ∧ Below w.heap.size w w' := by
  have hs0 := hs
  unfold maxLen at hs0
  have hll : b.data.toList.length = b.size := by simp
  have HE := Lib.hid (read_arg ha)
  rw [hll] at ha
  have hc : (decide ((b.size : Int) < 32) = true) ∨ (decide ((b.size : Int) < 32) = false ∧ decide (128 < (b.size : Int)) = true) := by
    by_cases h1 : b.size < 32
    · exact .inl (decide_eq_true (by omega))
    · exact .inr ⟨decide_eq_false (by omega), decide_eq_true (by omega)⟩
  clear ha hll
  rcases hc with d1 | ⟨d1, d2⟩
  all_goals
    go_enter Try.func17, Try.ntmps17
    go_wp2
    have vz := Var.new w 26 [.int .i64 0, .int .u32 0, .int .u32 0, .string ⟨#[]⟩]
    have k0 := vz.cell (j := 0) rfl
    have k1 := vz.cell (j := 1) rfl
    have k2 := vz.cell (j := 2) rfl
    have k3 := vz.cell (j := 3) rfl
    refine bodyPost_ret (v := .tuple #[fV zeroF, .int .i64 1]) (by rw [results_cell_tmp rfl]; simp [go_sem]; rfl) rfl ?_
    rw [HE.out]
    exact ⟨rfl, Geom.bel_alloc _ _⟩
set_option maxRecDepth 100000 in
set_option maxHeartbeats 8000000 in
theorem read_case2 (b : ByteArray) (hs : b.size ≤ maxLen) (w : World) (ha : ¬ (b.data.toList.length < 32 ∨ 128 < b.data.toList.length)) (hb : Flash.blank b.data.toList = true) :
    Calls Try.prog 17 #[.string b] w fun e w' => e = .returned (.tuple #[fV (readF b.data.toList).1, .int .i64 ((readF b.data.toList).2 : Int)]) ∧ Below w.heap.size w w' := by
  have hs0 := hs
  unfold maxLen at hs0
  have hll : b.data.toList.length = b.size := by simp
  have HE := Lib.hid (read_none ha hb)
  have ha1 : 32 ≤ b.size ∧ b.size ≤ 128 := by omega
  have d1 : decide ((b.size : Int) < 32) = false := decide_eq_false (by omega)
  have d2 : decide (128 < (b.size : Int)) = false := decide_eq_false (by omega)
  have HB := Lib.hid (fun w => Flash.refBlank_any b hs w)
  obtain ⟨n, hn⟩ : ∃ n, n = b.size - 4 := ⟨_, rfl⟩
  have hnI : (b.size : Int) - 4 = (n : Int) := by omega
  have hn1 : n + 4 = b.size := by omega
  obtain ⟨l, hl⟩ : ∃ l, l = b.data.toList := ⟨_, rfl⟩
  rw [← hl] at ha hll HB hb HE
  rw [← hl]
  have HL := Lib.hid hl
  have hln : l.length - 4 = n := by omega
  have HV1 := Lib.hid (Var.new w 26 [.int .i64 0, .int .u32 0, .int .u32 0, .string ⟨#[]⟩])
  have HGT := Lib.hid (fun w => Crc.refGet_any b hs n (by omega) w)
  have HTB := Lib.hid (Txt.cutS l n (n : Int) rfl (by omega))
  rw [hl, bs_list, ← hl] at HTB
  have HCR := Lib.hid (fun w => Crc.refCrc_any (bs (l.take n)) (by rw [bs_size, List.length_take]; unfold maxLen; omega) w)
  rw [list_bs] at HCR
  rw [← hl] at HGT
  obtain ⟨TB, hTB⟩ : ∃ TB, TB = bs (l.take n) := ⟨_, rfl⟩
  rw [← hTB] at HTB HCR
  have htb := HTB.out
  clear hTB
  rw [hb] at HB
  clear ha hll hb hl hln hn
  go_enter Try.func17, Try.ntmps17
  go_wp2_with (go_at_call 19; (with_reducible refine (HB.out _).mono ?_); rintro e w5 ⟨rfl, rfl⟩)
  have vz := Var.new w 26 [.int .i64 0, .int .u32 0, .int .u32 0, .string ⟨#[]⟩]
  refine bodyPost_ret (v := .tuple #[fV zeroF, .int .i64 9]) (by rw [results_cell_tmp rfl]; simp [go_sem]; rfl) rfl ?_
  rw [HE.out]
  exact ⟨rfl, Geom.bel_alloc _ _⟩
set_option maxRecDepth 100000 in
set_option maxHeartbeats 8000000 in
theorem read_case3 (b : ByteArray) (hs : b.size ≤ maxLen) (w : World) (ha : ¬ (b.data.toList.length < 32 ∨ 128 < b.data.toList.length)) (hb : Flash.blank b.data.toList = false) (hsm : le4 b.data.toList (b.data.toList.length - 4) ≠ sumOf (b.data.toList.take (b.data.toList.length - 4))) :
    Calls Try.prog 17 #[.string b] w fun e w' => e = .returned (.tuple #[fV (readF b.data.toList).1, .int .i64 ((readF b.data.toList).2 : Int)]) ∧ Below w.heap.size w w' := by
  have hs0 := hs
  unfold maxLen at hs0
  have hll : b.data.toList.length = b.size := by simp
  have HE := Lib.hid (read_sum ha hb hsm)
  have ha1 : 32 ≤ b.size ∧ b.size ≤ 128 := by omega
  have d1 : decide ((b.size : Int) < 32) = false := decide_eq_false (by omega)
  have d2 : decide (128 < (b.size : Int)) = false := decide_eq_false (by omega)
  have HB := Lib.hid (fun w => Flash.refBlank_any b hs w)
  obtain ⟨n, hn⟩ : ∃ n, n = b.size - 4 := ⟨_, rfl⟩
  have hnI : (b.size : Int) - 4 = (n : Int) := by omega
  have hn1 : n + 4 = b.size := by omega
  obtain ⟨l, hl⟩ : ∃ l, l = b.data.toList := ⟨_, rfl⟩
  rw [← hl] at ha hll HB hb HE hsm
  rw [← hl]
  have HL := Lib.hid hl
  have hln : l.length - 4 = n := by omega
  have HV1 := Lib.hid (Var.new w 26 [.int .i64 0, .int .u32 0, .int .u32 0, .string ⟨#[]⟩])
  have HGT := Lib.hid (fun w => Crc.refGet_any b hs n (by omega) w)
  have HTB := Lib.hid (Txt.cutS l n (n : Int) rfl (by omega))
  rw [hl, bs_list, ← hl] at HTB
  have HCR := Lib.hid (fun w => Crc.refCrc_any (bs (l.take n)) (by rw [bs_size, List.length_take]; unfold maxLen; omega) w)
  rw [list_bs] at HCR
  rw [← hl] at HGT
  obtain ⟨TB, hTB⟩ : ∃ TB, TB = bs (l.take n) := ⟨_, rfl⟩
  rw [← hTB] at HTB HCR
  have htb := HTB.out
  clear hTB
  rw [hb] at HB
  rw [hln] at hsm
  obtain ⟨L4, hL4⟩ : ∃ L4, L4 = le4 l n := ⟨_, rfl⟩
  obtain ⟨SB, hSB⟩ : ∃ SB, SB = sumOf (l.take n) := ⟨_, rfl⟩
  rw [← hL4] at HGT hsm
  rw [← hSB] at HCR hsm
  have e1 : (L4 != SB) = true := by simpa using hsm
  have e2 : (L4 == SB) = false := by simpa using hsm
  clear ha hll hb hl hln hn hL4 hSB hsm
  go_enter Try.func17, Try.ntmps17
  go_wp2_with (go_at_call 19; (with_reducible refine (HB.out _).mono ?_); rintro e w5 ⟨rfl, rfl⟩)
  obtain ⟨w1, hw1⟩ : ∃ w1, w1 = w.alloc (.cells #[.int .i64 0, .int .u32 0, .int .u32 0, .string ⟨#[]⟩] 26) := ⟨_, rfl⟩
  have HB1 := Lib.hid (show Below w.heap.size w w1 by rw [hw1]; exact Geom.bel_alloc _ _)
  rw [show w.alloc (.cells [.int .i64 0, .int .u32 0, .int .u32 0, .string ⟨#[]⟩].toArray 26) = w1 from hw1.symm] at HV1
  rw [← hw1]
  clear hw1
  refine wp_region_is [22, 23, 24, 25, 26, 27, 28, 29] (fun w' => Below w1.heap.size w1 w')
    [.string b, .int .i64 (n : Int), .int .u32 L4, .string b, .int .i64 (n : Int), .string TB, .int .u32 SB, .bool true] (by kernel_rfl) (by kernel_rfl) rfl (by decide) (by simp) (Below.refl _ _).drew ?each ?done
  case each =>
    simp only [Each]
    repeat' (first | exact trivial | refine And.intro ?_ ?_)
    all_goals
      intro ys wx hBx hdeps
      simp only [Deps, Region.binds, List.getD_cons_zero, List.getD_cons_succ, forall_const, and_true] at hdeps
      simp only [hdeps, fill, List.foldl_cons, List.foldl_nil, Act.put, List.setIfInBounds_toArray, List.set_cons_succ, List.set_cons_zero]
      first
        | (go_wp2_with fail; exact ⟨_, rfl, rfl, hBx, Below.refl _ _⟩)
        | (go_wp2_with (go_at_call 37; (with_reducible refine (HGT.out _).mono ?_); rintro e w3 ⟨rfl, k3, rfl⟩); exact ⟨_, rfl, rfl, hBx.trans ((below_drewN _ k3).mono hBx.size), (below_drewN _ k3)⟩)
        | (go_wp2_with (go_at_call 22; (with_reducible refine (HCR.out _).mono ?_); rintro e w3 ⟨rfl, rfl⟩); exact ⟨_, rfl, rfl, hBx, Below.refl _ _⟩)
  case done =>
    intro ys wx hBx hV
    have h29 : ys 29 = .bool true := hV 7 (by decide)
    have HBx := Lib.hid (bel2 HB1.out hBx)
    have z0 := (HV1.out.below hBx HV1.out.lt).cell (j := 0) rfl
    have z1 := (HV1.out.below hBx HV1.out.lt).cell (j := 1) rfl
    have z2 := (HV1.out.below hBx HV1.out.lt).cell (j := 2) rfl
    have z3 := (HV1.out.below hBx HV1.out.lt).cell (j := 3) rfl
    have f0 := (HV1.out.below hBx HV1.out.lt).frozen 0
    have f1 := (HV1.out.below hBx HV1.out.lt).frozen 1
    have f2 := (HV1.out.below hBx HV1.out.lt).frozen 2
    have f3 := (HV1.out.below hBx HV1.out.lt).frozen 3
    have vz := ((((HV1.out.below hBx HV1.out.lt).set 0 (.int .i64 0)).set 1 (.int .u32 0)).set 2 (.int .u32 0)).set 3 (.string ⟨#[]⟩)
    clear hBx hV
    simp only [h29, fill, List.drop_succ_cons, List.drop_zero, List.foldl_cons, List.foldl_nil, Act.put, List.setIfInBounds_toArray, List.set_cons_succ, List.set_cons_zero]
    go_wp2
    have k0 := vz.cell (j := 0) rfl
    have k1 := vz.cell (j := 1) rfl
    have k2 := vz.cell (j := 2) rfl
    have k3 := vz.cell (j := 3) rfl
    clear z0 z1 z2 z3 f0 f1 f2 f3 vz
    refine bodyPost_ret (v := .tuple #[fV zeroF, .int .i64 5]) (by rw [results_cell_tmp rfl]; simp [go_sem, k0, k1, k2, k3]; rfl) rfl ?_
    rw [HE.out]
    exact ⟨rfl, (((HBx.out.setCell (p := ⟨w.heap.size, 0, none⟩) (Nat.le_refl _) _).setCell (p := ⟨w.heap.size, 1, none⟩) (Nat.le_refl _) _).setCell (p := ⟨w.heap.size, 2, none⟩) (Nat.le_refl _) _).setCell (p := ⟨w.heap.size, 3, none⟩) (Nat.le_refl _) _⟩
set_option maxRecDepth 100000 in
set_option maxHeartbeats 8000000 in
theorem read_case4 (b : ByteArray) (hs : b.size ≤ maxLen) (w : World) (ha : ¬ (b.data.toList.length < 32 ∨ 128 < b.data.toList.length)) (hb : Flash.blank b.data.toList = false) (hsm : le4 b.data.toList (b.data.toList.length - 4) = sumOf (b.data.toList.take (b.data.toList.length - 4))) (hf : formed b.data.toList = false) (hx : ((b.data.toList.getD 0 0).toNat < 1) ∨ (1 ≤ (b.data.toList.getD 0 0).toNat ∧ 4 < (b.data.toList.getD 0 0).toNat) ∨ (1 ≤ (b.data.toList.getD 0 0).toNat ∧ (b.data.toList.getD 0 0).toNat ≤ 4 ∧ b.data.toList.length - 15 < sizeAt b.data.toList)) :
    Calls Try.prog 17 #[.string b] w fun e w' => e = .returned (.tuple #[fV (readF b.data.toList).1, .int .i64 ((readF b.data.toList).2 : Int)]) ∧ Below w.heap.size w w' := by
  have hs0 := hs
  unfold maxLen at hs0
  have hll : b.data.toList.length = b.size := by simp
  have HE := Lib.hid (read_form ha hb hsm hf)
  have ha1 : 32 ≤ b.size ∧ b.size ≤ 128 := by omega
  have d1 : decide ((b.size : Int) < 32) = false := decide_eq_false (by omega)
  have d2 : decide (128 < (b.size : Int)) = false := decide_eq_false (by omega)
  have HB := Lib.hid (fun w => Flash.refBlank_any b hs w)
  obtain ⟨n, hn⟩ : ∃ n, n = b.size - 4 := ⟨_, rfl⟩
  have hnI : (b.size : Int) - 4 = (n : Int) := by omega
  have hn1 : n + 4 = b.size := by omega
  obtain ⟨l, hl⟩ : ∃ l, l = b.data.toList := ⟨_, rfl⟩
  rw [← hl] at ha hll HB hb HE hsm hf hx
  rw [← hl]
  have HL := Lib.hid hl
  have hln : l.length - 4 = n := by omega
  have HV1 := Lib.hid (Var.new w 26 [.int .i64 0, .int .u32 0, .int .u32 0, .string ⟨#[]⟩])
  have HGT := Lib.hid (fun w => Crc.refGet_any b hs n (by omega) w)
  have HTB := Lib.hid (Txt.cutS l n (n : Int) rfl (by omega))
  rw [hl, bs_list, ← hl] at HTB
  have HCR := Lib.hid (fun w => Crc.refCrc_any (bs (l.take n)) (by rw [bs_size, List.length_take]; unfold maxLen; omega) w)
  rw [list_bs] at HCR
  rw [← hl] at HGT
  obtain ⟨TB, hTB⟩ : ∃ TB, TB = bs (l.take n) := ⟨_, rfl⟩
  rw [← hTB] at HTB HCR
  have htb := HTB.out
  clear hTB
  rw [hb] at HB
  rw [hln] at hsm
  obtain ⟨L4, hL4⟩ : ∃ L4, L4 = le4 l n := ⟨_, rfl⟩
  obtain ⟨SB, hSB⟩ : ∃ SB, SB = sumOf (l.take n) := ⟨_, rfl⟩
  rw [← hL4] at HGT hsm
  rw [← hSB] at HCR hsm
  have e1 : (L4 != SB) = false := by simp [hsm]
  have e2 : (L4 == SB) = true := by simp [hsm]
  have h0 : 0 < b.size := by omega
  have h9 : 9 < b.size := by omega
  have h10 : 10 < b.size := by omega
  have i9 : (9 : Int) < (b.size : Int) := by omega
  have i10 : (10 : Int) < (b.size : Int) := by omega
  have i0 : (0 : Int) < (b.size : Int) := by omega
  obtain ⟨n0, q0⟩ : ∃ n0, (b[0]'h0).toNat = n0 := ⟨_, rfl⟩
  obtain ⟨n9, q9⟩ : ∃ n9, (b[9]'h9).toNat = n9 := ⟨_, rfl⟩
  obtain ⟨n10, q10⟩ : ∃ n10, (b[10]'h10).toNat = n10 := ⟨_, rfl⟩
  have m0 : n0 < 256 := by rw [← q0]; exact UInt8.toNat_lt _
  have m9 : n9 < 256 := by rw [← q9]; exact UInt8.toNat_lt _
  have m10 : n10 < 256 := by rw [← q10]; exact UInt8.toNat_lt _
  have g0 : (l.getD 0 0).toNat = n0 := by rw [hl, Crc.getD_byte b 0 h0, q0]
  have g9 : sizeAt l = n9 + n10 * 256 := by unfold sizeAt; rw [hl, Crc.getD_byte b 9 h9, Crc.getD_byte b 10 h10, q9, q10]
  rw [g0, g9, hll] at hx
  have hx2 : (decide ((n0 : Int) < 1) = true) ∨ (decide ((n0 : Int) < 1) = false ∧ decide (4 < (n0 : Int)) = true) ∨ (decide ((n0 : Int) < 1) = false ∧ decide (4 < (n0 : Int)) = false ∧ decide ((b.size : Int) - 15 < (n9 : Int) + (n10 : Int) * 256) = true) := by
    rcases hx with h | ⟨h1, h2⟩ | ⟨h1, h2, h3⟩
    · exact .inl (decide_eq_true (by omega))
    · exact .inr (.inl ⟨decide_eq_false (by omega), decide_eq_true (by omega)⟩)
    · exact .inr (.inr ⟨decide_eq_false (by omega), decide_eq_false (by omega), decide_eq_true (by omega)⟩)
  clear ha hll hb hl hln hn hL4 hSB hsm hf g0 g9 hx
  rcases hx2 with x1 | ⟨x1, x2⟩ | ⟨x1, x2, x3⟩
  all_goals
    go_enter Try.func17, Try.ntmps17
    go_wp2_with (go_at_call 19; (with_reducible refine (HB.out _).mono ?_); rintro e w5 ⟨rfl, rfl⟩)
    obtain ⟨w1, hw1⟩ : ∃ w1, w1 = w.alloc (.cells #[.int .i64 0, .int .u32 0, .int .u32 0, .string ⟨#[]⟩] 26) := ⟨_, rfl⟩
    have HB1 := Lib.hid (show Below w.heap.size w w1 by rw [hw1]; exact Geom.bel_alloc _ _)
    rw [show w.alloc (.cells [.int .i64 0, .int .u32 0, .int .u32 0, .string ⟨#[]⟩].toArray 26) = w1 from hw1.symm] at HV1
    rw [← hw1]
    clear hw1
    refine wp_region_is [22, 23, 24, 25, 26, 27, 28, 29] (fun w' => Below w1.heap.size w1 w')
      [.string b, .int .i64 (n : Int), .int .u32 L4, .string b, .int .i64 (n : Int), .string TB, .int .u32 SB, .bool false] (by kernel_rfl) (by kernel_rfl) rfl (by decide) (by simp) (Below.refl _ _).drew ?each ?done
    case each =>
      simp only [Each]
      repeat' (first | exact trivial | refine And.intro ?_ ?_)
      all_goals
        intro ys wx hBx hdeps
        simp only [Deps, Region.binds, List.getD_cons_zero, List.getD_cons_succ, forall_const, and_true] at hdeps
        simp only [hdeps, fill, List.foldl_cons, List.foldl_nil, Act.put, List.setIfInBounds_toArray, List.set_cons_succ, List.set_cons_zero]
        first
          | (go_wp2_with fail; exact ⟨_, rfl, rfl, hBx, Below.refl _ _⟩)
          | (go_wp2_with (go_at_call 37; (with_reducible refine (HGT.out _).mono ?_); rintro e w3 ⟨rfl, k3, rfl⟩); exact ⟨_, rfl, rfl, hBx.trans ((below_drewN _ k3).mono hBx.size), (below_drewN _ k3)⟩)
          | (go_wp2_with (go_at_call 22; (with_reducible refine (HCR.out _).mono ?_); rintro e w3 ⟨rfl, rfl⟩); exact ⟨_, rfl, rfl, hBx, Below.refl _ _⟩)
    case done =>
      intro ys wx hBx hV
      have h29 : ys 29 = .bool false := hV 7 (by decide)
      obtain ⟨w6, hw6⟩ : ∃ w6, w6 = wx := ⟨_, rfl⟩
      have HB6 := Lib.hid (bel2 HB1.out hBx)
      have HV6 := Lib.hid (HV1.out.below hBx HV1.out.lt)
      rw [← hw6] at HB6 HV6
      clear hBx hV
      simp only [h29, fill, List.drop_succ_cons, List.drop_zero, List.foldl_cons, List.foldl_nil, Act.put, List.setIfInBounds_toArray, List.set_cons_succ, List.set_cons_zero]
      rw [← hw6]
      clear hw6
      go_wp2
      refine wp_region_is [31, 32, 33, 34, 35, 36, 37, 38, 5] (fun w' => Below w6.heap.size w6 w')
        [.string b, .int .u8 (n9 : Int), .int .i64 (n9 : Int), .string b, .int .u8 (n10 : Int), .int .i64 (n10 : Int), .int .i64 ((n10 : Int) * 256), .int .i64 ((n9 : Int) + (n10 : Int) * 256), .int .i64 ((n9 : Int) + (n10 : Int) * 256)] (by kernel_rfl) (by kernel_rfl) rfl (by decide) (by simp) (Below.refl _ _).drew ?each ?done
      case each =>
        simp only [Each]
        repeat' (first | exact trivial | refine And.intro ?_ ?_)
        all_goals
          intro ys wx hBx hdeps
          simp only [Deps, Region.binds, List.getD_cons_zero, List.getD_cons_succ, forall_const, and_true] at hdeps
          simp only [hdeps, fill, List.foldl_cons, List.foldl_nil, Act.put, List.setIfInBounds_toArray, List.set_cons_succ, List.set_cons_zero]
          first
            | (go_wp2_with fail; exact ⟨_, rfl, rfl, hBx, Below.refl _ _⟩)
      case done =>
        intro ys wx hBx hV
        have h5 : ys 5 = .int .i64 ((n9 : Int) + (n10 : Int) * 256) := hV 8 (by decide)
        have HBx := Lib.hid (bel2 HB6.out hBx)
        have z0 := (HV6.out.below hBx HV6.out.lt).cell (j := 0) rfl
        have z1 := (HV6.out.below hBx HV6.out.lt).cell (j := 1) rfl
        have z2 := (HV6.out.below hBx HV6.out.lt).cell (j := 2) rfl
        have z3 := (HV6.out.below hBx HV6.out.lt).cell (j := 3) rfl
        have f0 := (HV6.out.below hBx HV6.out.lt).frozen 0
        have f1 := (HV6.out.below hBx HV6.out.lt).frozen 1
        have f2 := (HV6.out.below hBx HV6.out.lt).frozen 2
        have f3 := (HV6.out.below hBx HV6.out.lt).frozen 3
        have vz := ((((HV6.out.below hBx HV6.out.lt).set 0 (.int .i64 0)).set 1 (.int .u32 0)).set 2 (.int .u32 0)).set 3 (.string ⟨#[]⟩)
        clear hBx hV
        simp only [h5, fill, List.drop_succ_cons, List.drop_zero, List.foldl_cons, List.foldl_nil, Act.put, List.setIfInBounds_toArray, List.set_cons_succ, List.set_cons_zero]
        go_wp2
        have k0 := vz.cell (j := 0) rfl
        have k1 := vz.cell (j := 1) rfl
        have k2 := vz.cell (j := 2) rfl
        have k3 := vz.cell (j := 3) rfl
        clear z0 z1 z2 z3 f0 f1 f2 f3 vz
        refine bodyPost_ret (v := .tuple #[fV zeroF, .int .i64 2]) (by rw [results_cell_tmp rfl]; simp [go_sem, k0, k1, k2, k3]; rfl) rfl ?_
        rw [HE.out]
        exact ⟨rfl, (((HBx.out.setCell (p := ⟨w.heap.size, 0, none⟩) (Nat.le_refl _) _).setCell (p := ⟨w.heap.size, 1, none⟩) (Nat.le_refl _) _).setCell (p := ⟨w.heap.size, 2, none⟩) (Nat.le_refl _) _).setCell (p := ⟨w.heap.size, 3, none⟩) (Nat.le_refl _) _⟩
end Go.Proofs.Ytlpjgfafecpbgaa.Frame
