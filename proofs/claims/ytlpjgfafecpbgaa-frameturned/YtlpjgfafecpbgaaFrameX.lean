/-
  What package frame's Read answers: its contracts.
-/
import Derived.Test.YtlpjgfafecpbgaaFrameXb
import Derived.Test.YtlpjgfafecpbgaaRefFrameD
set_option linter.unusedVariables false
set_option linter.unusedSimpArgs false
namespace Go.Proofs.Ytlpjgfafecpbgaa.Frame
open Go.RowKit
open CrcM (W)
open Crc (le4 sumOf vl wd putS)
open Flash (bs bs_size bs_list list_bs)
open Tup Bytes
open Go.Proofs.Ytlpjgfafecpbgaa.Region (fill Then Deps Each wp_region_is wp_region_is_tail wp_region_each wp_region_tail)

theorem put_eq_le4 (l : List UInt8) (n : Nat) (h : l.length = n + 4) (x : W) : l.drop n = CrcM.put x.toNat ↔ le4 l n = vl x := by
  have hd : l.drop n = [l.getD n 0, l.getD (n + 1) 0, l.getD (n + 2) 0, l.getD (n + 3) 0] := by
    apply List.ext_getElem
    · rw [List.length_drop]; simp; omega
    · intro i h1 h2
      simp at h2
      rw [List.getElem_drop]
      match i, h2 with
      | 0, _ => simp [List.getD_eq_getElem?_getD, List.getElem?_eq_getElem (show n < l.length by omega)]
      | 1, _ => simp [List.getD_eq_getElem?_getD, List.getElem?_eq_getElem (show n + 1 < l.length by omega)]
      | 2, _ => simp [List.getD_eq_getElem?_getD, List.getElem?_eq_getElem (show n + 2 < l.length by omega)]
      | 3, _ => simp [List.getD_eq_getElem?_getD, List.getElem?_eq_getElem (show n + 3 < l.length by omega)]
  rw [hd]
  unfold le4 CrcM.put vl
  have b0 := (l.getD n 0).toNat_lt
  have b1 := (l.getD (n + 1) 0).toNat_lt
  have b2 := (l.getD (n + 2) 0).toNat_lt
  have b3 := (l.getD (n + 3) 0).toNat_lt
  generalize l.getD n 0 = c0 at *
  generalize l.getD (n + 1) 0 = c1 at *
  generalize l.getD (n + 2) 0 = c2 at *
  generalize l.getD (n + 3) 0 = c3 at *
  have hx := x.isLt
  have e (m : Nat) : (UInt8.ofNat m).toNat = m % 256 := by simp
  have key (c : UInt8) (m : Nat) : c = UInt8.ofNat m ↔ c.toNat = m % 256 := by
    constructor
    · intro hc; rw [hc, e]
    · intro hc; apply UInt8.toNat_inj.1; rw [e]; exact hc
  simp only [List.cons.injEq, and_true, key]
  omega
theorem txt_eq (a b : ByteArray) : (a.toList == b.toList) = decide (a = b) := by
  rw [ByteArray.toList_eq, ByteArray.toList_eq, Bool.eq_iff_iff]
  simp only [beq_iff_eq, decide_eq_true_eq]
  exact ⟨fun h => ByteArray.ext (Array.toList_inj.1 h), fun h => by rw [h]⟩
theorem bs_put (l : List UInt8) (x : W) : bs l = putS x ↔ l = CrcM.put x.toNat := by
  unfold bs putS
  constructor
  · intro h
    have := congrArg (fun b : ByteArray => b.data.toList) h
    simpa using this
  · intro h; rw [h]
set_option maxRecDepth 100000 in
set_option maxHeartbeats 8000000 in
theorem fread_len (b : ByteArray) (hs : b.size ≤ maxLen) (w : World) (ha : b.data.toList.length < 32 ∨ 128 < b.data.toList.length) :
    Calls Try.prog 16 #[.string b] w fun e w' => e = .returned (.tuple #[fV (readF b.data.toList).1, .int .i64 ((readF b.data.toList).2 : Int)]) ∧ Below w.heap.size w w' := by
  have hs0 := hs
  unfold maxLen at hs0
  have hll : b.data.toList.length = b.size := by simp
  have HE := Lib.hid (read_arg ha)
  rw [hll] at ha
  rw [HE.out]
  have hc : (decide ((b.size : Int) < 32) = true) ∨ (decide ((b.size : Int) < 32) = false ∧ decide (128 < (b.size : Int)) = true) := by
    by_cases h1 : b.size < 32
    · exact .inl (decide_eq_true (by omega))
    · exact .inr ⟨decide_eq_false (by omega), decide_eq_true (by omega)⟩
  clear ha hll HE
  have HV1 := Lib.hid (Var.new w 26 [.int .i64 0, .int .u32 0, .int .u32 0, .string ⟨#[]⟩])
  have vz := HV1.out
  rcases hc with d1 | ⟨d1, d2⟩
  all_goals
    go_enter Try.func16, Try.ntmps16
    go_wp2
    have k0 := vz.cell (j := 0) rfl
    have k1 := vz.cell (j := 1) rfl
    have k2 := vz.cell (j := 2) rfl
    have k3 := vz.cell (j := 3) rfl
    clear vz
    refine bodyPost_ret (v := .tuple #[fV zeroF, .int .i64 1]) (by rw [results_cell_tmp rfl]; simp [go_sem, k0, k1, k2, k3]; rfl) rfl ?_
    exact ⟨rfl, Geom.bel_alloc _ _⟩
set_option maxRecDepth 100000 in
set_option maxHeartbeats 8000000 in
theorem fread_blank (b : ByteArray) (hs : b.size ≤ maxLen) (w : World) (ha : ¬ (b.data.toList.length < 32 ∨ 128 < b.data.toList.length)) (hb : Flash.blank b.data.toList = true) :
    Calls Try.prog 16 #[.string b] w fun e w' => e = .returned (.tuple #[fV (readF b.data.toList).1, .int .i64 ((readF b.data.toList).2 : Int)]) ∧ Below w.heap.size w w' := by
  have hs0 := hs
  unfold maxLen at hs0
  have hll : b.data.toList.length = b.size := by simp
  have HE := Lib.hid (read_none ha hb)
  rw [HE.out]
  have d1 : decide ((b.size : Int) < 32) = false := decide_eq_false (by omega)
  have d2 : decide (128 < (b.size : Int)) = false := decide_eq_false (by omega)
  have HB := Lib.hid (fun w => fBlank_any b hs w)
  rw [hb] at HB
  clear HE ha hb hll
  have HV1 := Lib.hid (Var.new w 26 [.int .i64 0, .int .u32 0, .int .u32 0, .string ⟨#[]⟩])
  go_enter Try.func16, Try.ntmps16
  go_wp2_with fail
  go_at_call 18
  (with_reducible refine (HB.out _).mono ?_)
  rintro e w5 ⟨rfl, hb5⟩
  have HV5 := Lib.hid (HV1.out.below hb5 HV1.out.lt)
  have HB5 := Lib.hid (bel2 (Geom.bel_alloc w (.cells #[.int .i64 0, .int .u32 0, .int .u32 0, .string ⟨#[]⟩] 26)) hb5)
  clear hb5
  have z0 := HV5.out.cell (j := 0) rfl
  have z1 := HV5.out.cell (j := 1) rfl
  have z2 := HV5.out.cell (j := 2) rfl
  have z3 := HV5.out.cell (j := 3) rfl
  have f0 := HV5.out.frozen 0
  have f1 := HV5.out.frozen 1
  have f2 := HV5.out.frozen 2
  have f3 := HV5.out.frozen 3
  have vz := ((((HV5.out).set 0 (.int .i64 0)).set 1 (.int .u32 0)).set 2 (.int .u32 0)).set 3 (.string ⟨#[]⟩)
  go_wp2
  have k0 := vz.cell (j := 0) rfl
  have k1 := vz.cell (j := 1) rfl
  have k2 := vz.cell (j := 2) rfl
  have k3 := vz.cell (j := 3) rfl
  clear z0 z1 z2 z3 f0 f1 f2 f3 vz
  refine bodyPost_ret (v := .tuple #[fV zeroF, .int .i64 9]) (by rw [results_cell_tmp rfl]; simp [go_sem, k0, k1, k2, k3]; rfl) rfl ?_
  exact ⟨rfl, (((HB5.out.setCell (p := ⟨w.heap.size, 0, none⟩) (Nat.le_refl _) _).setCell (p := ⟨w.heap.size, 1, none⟩) (Nat.le_refl _) _).setCell (p := ⟨w.heap.size, 2, none⟩) (Nat.le_refl _) _).setCell (p := ⟨w.heap.size, 3, none⟩) (Nat.le_refl _) _⟩
set_option maxRecDepth 100000 in
set_option maxHeartbeats 8000000 in
theorem fread_sum (b : ByteArray) (hs : b.size ≤ maxLen) (w : World) (ha : ¬ (b.data.toList.length < 32 ∨ 128 < b.data.toList.length)) (hb : Flash.blank b.data.toList = false) (hsm : le4 b.data.toList (b.data.toList.length - 4) ≠ sumOf (b.data.toList.take (b.data.toList.length - 4))) :
    Calls Try.prog 16 #[.string b] w fun e w' => e = .returned (.tuple #[fV (readF b.data.toList).1, .int .i64 ((readF b.data.toList).2 : Int)]) ∧ Below w.heap.size w w' := by
  have hs0 := hs
  unfold maxLen at hs0
  have hll : b.data.toList.length = b.size := by simp
  have HE := Lib.hid (read_sum ha hb hsm)
  rw [HE.out]
  have d1 : decide ((b.size : Int) < 32) = false := decide_eq_false (by omega)
  have d2 : decide (128 < (b.size : Int)) = false := decide_eq_false (by omega)
  have HB := Lib.hid (fun w => fBlank_any b hs w)
  rw [hb] at HB
  obtain ⟨n, hn⟩ : ∃ n, n = b.size - 4 := ⟨_, rfl⟩
  have hnI : (b.size : Int) - 4 = (n : Int) := by omega
  have hn1 : n + 4 = b.size := by omega
  obtain ⟨l, hl⟩ : ∃ l, l = b.data.toList := ⟨_, rfl⟩
  rw [← hl] at ha hll hb hsm
  have hln : l.length - 4 = n := by omega
  rw [hln] at hsm
  have hca := Txt.cutS l n (n : Int) rfl (by omega)
  have hcd := Txt.dropS l n (n : Int) rfl (by omega)
  rw [hl, bs_list, ← hl] at hca hcd
  have hTl : (bs (l.take n)).size ≤ maxLen := by rw [bs_size, List.length_take]; unfold maxLen; omega
  have HSU := Lib.hid (fun (w : World) hc => Crc.sum_one (bs (l.take n)) w.heap.size 1 (w.alloc (.cells #[.string (bs (l.take n))] 9)) hTl hc)
  rw [list_bs] at HSU
  have HPU := Lib.hid (fun w => Crc.put_any (CrcM.sum (l.take n)) w)
  have hpe := put_eq_le4 l n (by omega) (CrcM.sum (l.take n))
  unfold sumOf at hsm HSU
  rw [ne_eq, ← hpe] at hsm
  obtain ⟨SB, hSB⟩ : ∃ SB, SB = CrcM.sum (l.take n) := ⟨_, rfl⟩
  rw [← hSB] at HSU HPU hsm
  obtain ⟨TA, hTA⟩ : ∃ TA, TA = bs (l.take n) := ⟨_, rfl⟩
  obtain ⟨TD, hTD⟩ : ∃ TD, TD = bs (l.drop n) := ⟨_, rfl⟩
  have q : (TD.toList == (putS SB).toList) = false := by rw [txt_eq]; apply decide_eq_false; rw [hTD, bs_put]; exact hsm
  rw [← hTA] at hca HSU
  rw [← hTD] at hcd
  clear ha hll hb hl hln hn hpe hSB hTA hTD hsm HE hTl
  have HV1 := Lib.hid (Var.new w 26 [.int .i64 0, .int .u32 0, .int .u32 0, .string ⟨#[]⟩])
  go_enter Try.func16, Try.ntmps16
  go_wp2_with fail
  go_at_call 18
  (with_reducible refine (HB.out _).mono ?_)
  rintro e w5 ⟨rfl, hb5⟩
  have HV5 := Lib.hid (HV1.out.below hb5 HV1.out.lt)
  have HB5 := Lib.hid (bel2 (Geom.bel_alloc w (.cells #[.int .i64 0, .int .u32 0, .int .u32 0, .string ⟨#[]⟩] 26)) hb5)
  clear hb5 HV1
  go_wp2
  refine wp_region_is [20, 21, 22, 23, 24, 25, 26, 27, 28, 29, 4, 5] (fun w' => Below w5.heap.size w5 w')
    [.string b, .string b, .int .i64 (b.size : Int), .int .i64 (n : Int), .string TA, .string b, .string b, .int .i64 (b.size : Int), .int .i64 (n : Int), .string TD, .string TA, .string TD] (by kernel_rfl) (by kernel_rfl) rfl (by decide) (by simp) (Below.refl _ _).drew ?each ?done
  case each =>
    simp only [Each]
    repeat' (first | exact trivial | refine And.intro ?_ ?_)
    all_goals
      intro ys wx hBx hdeps
      simp only [Deps, Region.binds, List.getD_cons_zero, List.getD_cons_succ, forall_const, and_true] at hdeps
      simp only [hdeps, fill, List.foldl_cons, List.foldl_nil, Act.put, List.setIfInBounds_toArray, List.set_cons_succ, List.set_cons_zero]
      go_wp2_with fail
      exact ⟨_, rfl, rfl, hBx, Below.refl _ _⟩
  case done =>
    intro ys wx hBx hV
    have h4 : ys 4 = .string TA := hV 10 (by decide)
    have h5 : ys 5 = .string TD := hV 11 (by decide)
    have HB6 := Lib.hid (bel2 HB5.out hBx)
    have HV6 := Lib.hid (HV5.out.below hBx HV5.out.lt)
    clear hBx hV HB5 HV5
    simp only [h4, h5, fill, List.drop_succ_cons, List.drop_zero, List.foldl_cons, List.foldl_nil, Act.put, List.setIfInBounds_toArray, List.set_cons_succ, List.set_cons_zero]
    go_wp2_with fail
    go_at_call 32
    (with_reducible refine (HSU.out _ (by simp)).mono ?_)
    rintro e w7 ⟨rfl, rfl⟩
    go_wp2_with fail
    go_at_call 30
    (with_reducible refine (HPU.out _).mono ?_)
    rintro e w8 ⟨rfl, hb8⟩
    have HB8 := Lib.hid (bel2 (bel2 HB6.out (Geom.bel_alloc _ _)) hb8)
    have HV8 := Lib.hid ((HV6.out.alloc (.cells #[.string TA] 9)).below hb8 (HV6.out.alloc (.cells #[.string TA] 9)).lt)
    clear hb8 HB6 HV6
    have z0 := HV8.out.cell (j := 0) rfl
    have z1 := HV8.out.cell (j := 1) rfl
    have z2 := HV8.out.cell (j := 2) rfl
    have z3 := HV8.out.cell (j := 3) rfl
    have f0 := HV8.out.frozen 0
    have f1 := HV8.out.frozen 1
    have f2 := HV8.out.frozen 2
    have f3 := HV8.out.frozen 3
    have vz := ((((HV8.out).set 0 (.int .i64 0)).set 1 (.int .u32 0)).set 2 (.int .u32 0)).set 3 (.string ⟨#[]⟩)
    go_wp2
    have k0 := vz.cell (j := 0) rfl
    have k1 := vz.cell (j := 1) rfl
    have k2 := vz.cell (j := 2) rfl
    have k3 := vz.cell (j := 3) rfl
    clear z0 z1 z2 z3 f0 f1 f2 f3 vz
    refine bodyPost_ret (v := .tuple #[fV zeroF, .int .i64 5]) (by rw [results_cell_tmp rfl]; simp [go_sem, k0, k1, k2, k3]; rfl) rfl ?_
    exact ⟨rfl, (((HB8.out.setCell (p := ⟨w.heap.size, 0, none⟩) (Nat.le_refl _) _).setCell (p := ⟨w.heap.size, 1, none⟩) (Nat.le_refl _) _).setCell (p := ⟨w.heap.size, 2, none⟩) (Nat.le_refl _) _).setCell (p := ⟨w.heap.size, 3, none⟩) (Nat.le_refl _) _⟩
set_option maxRecDepth 100000 in
set_option maxHeartbeats 8000000 in
theorem fread_rest (b : ByteArray) (hs : b.size ≤ maxLen) (w : World) (ha : ¬ (b.data.toList.length < 32 ∨ 128 < b.data.toList.length)) (hb : Flash.blank b.data.toList = false) (hsm : le4 b.data.toList (b.data.toList.length - 4) = sumOf (b.data.toList.take (b.data.toList.length - 4))) :
    Calls Try.prog 16 #[.string b] w fun e w' => e = .returned (.tuple #[fV (readF b.data.toList).1, .int .i64 ((readF b.data.toList).2 : Int)]) ∧ Below w.heap.size w w' := by
  have hs0 := hs
  unfold maxLen at hs0
  have hll : b.data.toList.length = b.size := by simp
  have HE := Lib.hid (read_parse ha hb hsm)
  rw [HE.out]
  have d1 : decide ((b.size : Int) < 32) = false := decide_eq_false (by omega)
  have d2 : decide (128 < (b.size : Int)) = false := decide_eq_false (by omega)
  have HB := Lib.hid (fun w => fBlank_any b hs w)
  rw [hb] at HB
  obtain ⟨n, hn⟩ : ∃ n, n = b.size - 4 := ⟨_, rfl⟩
  have hnI : (b.size : Int) - 4 = (n : Int) := by omega
  have hn1 : n + 4 = b.size := by omega
  obtain ⟨l, hl⟩ : ∃ l, l = b.data.toList := ⟨_, rfl⟩
  rw [← hl] at ha hll hb hsm
  have hln : l.length - 4 = n := by omega
  rw [hln] at hsm
  have hca := Txt.cutS l n (n : Int) rfl (by omega)
  have hcd := Txt.dropS l n (n : Int) rfl (by omega)
  rw [hl, bs_list, ← hl] at hca hcd
  have hTl : (bs (l.take n)).size ≤ maxLen := by rw [bs_size, List.length_take]; unfold maxLen; omega
  have HSU := Lib.hid (fun (w : World) hc => Crc.sum_one (bs (l.take n)) w.heap.size 1 (w.alloc (.cells #[.string (bs (l.take n))] 9)) hTl hc)
  rw [list_bs] at HSU
  have HPU := Lib.hid (fun w => Crc.put_any (CrcM.sum (l.take n)) w)
  have hpe := put_eq_le4 l n (by omega) (CrcM.sum (l.take n))
  unfold sumOf at hsm HSU
  rw [← hpe] at hsm
  rw [← hl, hln]
  generalize hPF : parseF (l.take n) = PF at *
  obtain ⟨F, cd⟩ := PF
  simp only
  obtain ⟨SB, hSB⟩ : ∃ SB, SB = CrcM.sum (l.take n) := ⟨_, rfl⟩
  rw [← hSB] at HSU HPU hsm
  obtain ⟨TA, hTA⟩ : ∃ TA, TA = bs (l.take n) := ⟨_, rfl⟩
  obtain ⟨TD, hTD⟩ : ∃ TD, TD = bs (l.drop n) := ⟨_, rfl⟩
  have q : (TD.toList == (putS SB).toList) = true := by rw [txt_eq]; apply decide_eq_true; rw [hTD, bs_put]; exact hsm
  have HPA := Lib.hid (fun w => parse_any (bs (l.take n)) (by rw [bs_size, List.length_take]; omega) (by rw [bs_size, List.length_take]; omega) w)
  rw [list_bs] at HPA
  rw [← hTA, hPF] at HPA
  simp only at HPA
  rw [← hTA] at hca HSU
  rw [← hTD] at hcd
  clear ha hll hb hl hln hn hpe hSB hTA hTD hsm HE hTl hPF
  have HV1 := Lib.hid (Var.new w 26 [.int .i64 0, .int .u32 0, .int .u32 0, .string ⟨#[]⟩])
  go_enter Try.func16, Try.ntmps16
  go_wp2_with fail
  go_at_call 18
  (with_reducible refine (HB.out _).mono ?_)
  rintro e w5 ⟨rfl, hb5⟩
  have HV5 := Lib.hid (HV1.out.below hb5 HV1.out.lt)
  have HB5 := Lib.hid (bel2 (Geom.bel_alloc w (.cells #[.int .i64 0, .int .u32 0, .int .u32 0, .string ⟨#[]⟩] 26)) hb5)
  clear hb5 HV1
  go_wp2
  refine wp_region_is [20, 21, 22, 23, 24, 25, 26, 27, 28, 29, 4, 5] (fun w' => Below w5.heap.size w5 w')
    [.string b, .string b, .int .i64 (b.size : Int), .int .i64 (n : Int), .string TA, .string b, .string b, .int .i64 (b.size : Int), .int .i64 (n : Int), .string TD, .string TA, .string TD] (by kernel_rfl) (by kernel_rfl) rfl (by decide) (by simp) (Below.refl _ _).drew ?each ?done
  case each =>
    simp only [Each]
    repeat' (first | exact trivial | refine And.intro ?_ ?_)
    all_goals
      intro ys wx hBx hdeps
      simp only [Deps, Region.binds, List.getD_cons_zero, List.getD_cons_succ, forall_const, and_true] at hdeps
      simp only [hdeps, fill, List.foldl_cons, List.foldl_nil, Act.put, List.setIfInBounds_toArray, List.set_cons_succ, List.set_cons_zero]
      go_wp2_with fail
      exact ⟨_, rfl, rfl, hBx, Below.refl _ _⟩
  case done =>
    intro ys wx hBx hV
    have h4 : ys 4 = .string TA := hV 10 (by decide)
    have h5 : ys 5 = .string TD := hV 11 (by decide)
    have HB6 := Lib.hid (bel2 HB5.out hBx)
    have HV6 := Lib.hid (HV5.out.below hBx HV5.out.lt)
    clear hBx hV HB5 HV5
    simp only [h4, h5, fill, List.drop_succ_cons, List.drop_zero, List.foldl_cons, List.foldl_nil, Act.put, List.setIfInBounds_toArray, List.set_cons_succ, List.set_cons_zero]
    go_wp2_with fail
    go_at_call 32
    (with_reducible refine (HSU.out _ (by simp)).mono ?_)
    rintro e w7 ⟨rfl, rfl⟩
    go_wp2_with fail
    go_at_call 30
    (with_reducible refine (HPU.out _).mono ?_)
    rintro e w8 ⟨rfl, hb8⟩
    have HB8 := Lib.hid (bel2 (bel2 HB6.out (Geom.bel_alloc _ _)) hb8)
    have HV8 := Lib.hid ((HV6.out.alloc (.cells #[.string TA] 9)).below hb8 (HV6.out.alloc (.cells #[.string TA] 9)).lt)
    clear hb8 HB6 HV6
    go_wp2_with fail
    go_at_call 36
    (with_reducible refine (HPA.out _).mono ?_)
    rintro e w9 ⟨rfl, hb9⟩
    have HB9 := Lib.hid (bel2 HB8.out hb9)
    have HV9 := Lib.hid (HV8.out.below hb9 HV8.out.lt)
    clear hb9 HB8 HV8
    unfold fV
    have z0 := HV9.out.cell (j := 0) rfl
    have z1 := HV9.out.cell (j := 1) rfl
    have z2 := HV9.out.cell (j := 2) rfl
    have z3 := HV9.out.cell (j := 3) rfl
    have f0 := HV9.out.frozen 0
    have f1 := HV9.out.frozen 1
    have f2 := HV9.out.frozen 2
    have f3 := HV9.out.frozen 3
    have vz := ((((HV9.out).set 0 (.int .i64 F.kind)).set 1 (.int .u32 (vl F.a))).set 2 (.int .u32 (vl F.b))).set 3 (.string (bs F.body))
    go_wp2
    have k0 := vz.cell (j := 0) rfl
    have k1 := vz.cell (j := 1) rfl
    have k2 := vz.cell (j := 2) rfl
    have k3 := vz.cell (j := 3) rfl
    clear z0 z1 z2 z3 f0 f1 f2 f3 vz
    refine bodyPost_ret (v := .tuple #[fV F, .int .i64 (cd : Int)]) (by rw [results_cell_tmp rfl]; simp [go_sem, k0, k1, k2, k3]; try rfl) rfl ?_
    exact ⟨rfl, (((HB9.out.setCell (p := ⟨w.heap.size, 0, none⟩) (Nat.le_refl _) _).setCell (p := ⟨w.heap.size, 1, none⟩) (Nat.le_refl _) _).setCell (p := ⟨w.heap.size, 2, none⟩) (Nat.le_refl _) _).setCell (p := ⟨w.heap.size, 3, none⟩) (Nat.le_refl _) _⟩
theorem fRead_any (b : ByteArray) (hs : b.size ≤ maxLen) (w : World) :
    Calls Try.prog 16 #[.string b] w fun e w' => e = .returned (.tuple #[fV (readF b.data.toList).1, .int .i64 ((readF b.data.toList).2 : Int)]) ∧ Below w.heap.size w w' := by
  by_cases ha : b.data.toList.length < 32 ∨ 128 < b.data.toList.length
  · exact fread_len b hs w ha
  rcases hb : Flash.blank b.data.toList with _ | _
  · by_cases hsm : le4 b.data.toList (b.data.toList.length - 4) = sumOf (b.data.toList.take (b.data.toList.length - 4))
    · exact fread_rest b hs w ha hb hsm
    · exact fread_sum b hs w ha hb hsm
  · exact fread_blank b hs w ha hb
end Go.Proofs.Ytlpjgfafecpbgaa.Frame
