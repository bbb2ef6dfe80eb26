/-
  Which runes package glob marks: strings.ContainsRune of its seven marks.
-/
import Derived.Test.YtfponjonbhnmlaaBuild
import Derived.Test.YtfponjonbhnmlaaKeysA
import Derived.WalkMore
namespace Go.Proofs.Ytfponjonbhnmlaa.Build
open Go.RowKit
open Own RuneM Keys RefRune

def marksB : ByteArray := ⟨#[42, 63, 91, 93, 92, 94, 45]⟩
/-- is a rune one of the marks? -/
def marked (r : Nat) : Bool := decide (r = 42) || decide (r = 63) || decide (r = 91) || decide (r = 93) || decide (r = 92) || decide (r = 94) || decide (r = 45)
theorem marked_high {r : Nat} (h : 128 ≤ r) : marked r = false := by
  simp only [marked, Bool.or_eq_false_iff, decide_eq_false_iff_not]; omega
set_option maxRecDepth 100000 in
theorem marked_low : ∀ r, r < 128 → decide (0 ≤ Lib.indexByte [42, 63, 91, 93, 92, 94, 45] r.toUInt8) = marked r := by decide
/-- what strings.IndexRune answers of the marks -/
def IxSays (r : Nat) (w : World) (e : Ending) (w' : World) : Prop := ∃ i : Int, e = .returned (.int .i64 i) ∧ decide (0 ≤ i) = marked r ∧ Below w.heap.size w w'
set_option maxRecDepth 1000000 in
set_option maxHeartbeats 2000000 in
theorem ix_none {r : Nat} {w w' : World} (h : 128 ≤ r) (hb : Below w.heap.size w w') : IxSays r w (.returned (.int .i64 (-1))) w' := ⟨-1, rfl, by rw [marked_high h]; rfl, hb⟩
set_option maxRecDepth 1000000 in
set_option maxHeartbeats 2000000 in
theorem ix_error (w : World) : Calls Try.prog 39 #[.string ⟨#[42, 63, 91, 93, 92, 94, 45]⟩, .int .i32 65533] w (IxSays 65533 w) := by
  have hd : ∀ pos, pos < 7 → (Utf8.decode ⟨#[42, 63, 91, 93, 92, 94, 45]⟩ pos).1 < 128 ∧ (Utf8.decode ⟨#[42, 63, 91, 93, 92, 94, 45]⟩ pos).2 = 1 := by decide
  have HD := Lib.hid hd
  have HE := Lib.hid (fun w' => ix_none (r := 65533) (w := w) (w' := w') (by omega))
  clear hd
  go_enter Try.func39, Try.ntmps39
  go_wp2
  go_loopw [] (fun wr => ∃ pos : Nat, wr = w.iter ⟨#[42, 63, 91, 93, 92, 94, 45]⟩ pos ∧ pos ≤ 7) (fun wr => 7 - wr.iterPos w.heap.size)
  case atStart => exact ⟨0, rfl, Nat.zero_le _⟩
  case round =>
    obtain ⟨pos, rfl, hpos⟩ := hrel
    by_cases hlt : pos < 7
    · have hnx : ∀ ty, (Instr.next (.pointer (some ⟨w.heap.size, 0, none⟩)) true ty).run Try.prog (w.iter ⟨#[42, 63, 91, 93, 92, 94, 45]⟩ pos) = _ := fun ty => run_next_any w ⟨#[42, 63, 91, 93, 92, 94, 45]⟩ pos ty hlt
      have h1 := HD.out pos hlt
      generalize Utf8.decode ⟨#[42, 63, 91, 93, 92, 94, 45]⟩ pos = d at hnx h1
      have d1 : ((d.1 : Int) == 65533) = false := by simp; omega
      have d2 := h1.2
      clear h1
      obtain ⟨da, db⟩ := d
      simp only at d1 d2 hnx
      subst d2
      go_wp2
      go_roundw
      case rel => exact ⟨pos + 1, rfl, by omega⟩
      case measure => simp; omega
    · have hnx : ∀ ty, (Instr.next (.pointer (some ⟨w.heap.size, 0, none⟩)) true ty).run Try.prog (w.iter ⟨#[42, 63, 91, 93, 92, 94, 45]⟩ pos) = _ := fun ty => run_next_end w ⟨#[42, 63, 91, 93, 92, 94, 45]⟩ pos ty hlt
      go_wp2
      go_ret
      exact HE.out _ (iter_below w _ pos)
/-- the marks from a place on have no byte from 128 on -/
theorem no_high (l : List UInt8) (h : ∀ x ∈ l, x.toNat < 128) (c : UInt8) (hc : 128 ≤ c.toNat) : Lib.indexByte l c = -1 := by
  induction l with
  | nil => rfl
  | cons b l ih =>
    have h1 := h b (by simp)
    have h2 := ih (fun x hx => h x (by simp [hx]))
    have h3 : (b == c) = false := by
      rw [beq_eq_false_iff_ne]; intro e; subst e; omega
    simp [Lib.indexByte, h3, h2]
theorem byte_none (s : ByteArray) (c : Int) (hs : ∀ x ∈ s.data.toList, x.toNat < 128) (hc : 128 ≤ c ∧ c < 256) (w : World) : Calls Try.prog 46 #[.string s, .int .u8 c] w fun e w' => e = .returned (.int .i64 (-1)) ∧ w' = w := by
  refine (Try.strings_IndexByte s c w).mono ?_
  rintro e w' ⟨rfl, rfl⟩
  rw [no_high _ hs _ (by rw [Nat.toUInt8_eq, UInt8.toNat_ofNat']; omega)]
  exact ⟨rfl, rfl⟩
theorem marks_low (a b : Nat) : ∀ x ∈ ((⟨#[42, 63, 91, 93, 92, 94, 45]⟩ : ByteArray).extract a b).data.toList, x.toNat < 128 := by
  intro x hx
  rw [ByteArray.data_extract] at hx
  have h1 : x ∈ [(42 : UInt8), 63, 91, 93, 92, 94, 45] := by
    simp only [Array.toList_extract, List.extract_eq_take_drop] at hx
    exact List.mem_of_mem_drop (List.mem_of_mem_take hx)
  clear hx
  revert x
  decide
theorem enc2 {r : Nat} (h : 128 ≤ r) (h2 : r ≤ 2047) : ∃ x y : UInt8, Utf8.encode (r : Int) = ⟨#[x, y]⟩ ∧ 128 ≤ y.toNat := by
  refine ⟨UInt8.ofNat (0xC0 + r / 64), UInt8.ofNat (0x80 + r % 64), ?_, ?_⟩
  rotate_left
  · rw [UInt8.toNat_ofNat']; omega
  · unfold Utf8.encode
    simp only [Utf8.valid, show ((0 : Int) ≤ (r : Int) && (r : Int) < 0xD800) = true by simp; omega, Bool.true_or, if_true, Int.toNat_natCast]
    rw [if_neg (by omega), if_pos (by omega)]
theorem enc3 {r : Nat} (h : 2048 ≤ r) (h2 : r ≤ 65535) (hv : Lib.validRune (r : Int) = true) : ∃ x z y : UInt8, Utf8.encode (r : Int) = ⟨#[x, z, y]⟩ ∧ 128 ≤ y.toNat := by
  refine ⟨UInt8.ofNat (0xE0 + r / 4096), UInt8.ofNat (0x80 + r / 64 % 64), UInt8.ofNat (0x80 + r % 64), ?_, ?_⟩
  rotate_left
  · rw [UInt8.toNat_ofNat']; omega
  · have hw : Utf8.valid (r : Int) = true := by
      simp only [Lib.validRune, decide_eq_true_eq] at hv
      simp only [Utf8.valid, Bool.or_eq_true, Bool.and_eq_true, decide_eq_true_eq]; omega
    unfold Utf8.encode
    simp only [hw, if_true, Int.toNat_natCast]
    rw [if_neg (by omega), if_neg (by omega), if_pos (by omega)]
theorem enc4 {r : Nat} (h : 65536 ≤ r) (h2 : r ≤ 1114111) : ∃ x z u y : UInt8, Utf8.encode (r : Int) = ⟨#[x, z, u, y]⟩ ∧ 128 ≤ y.toNat := by
  refine ⟨UInt8.ofNat (0xF0 + r / 262144), UInt8.ofNat (0x80 + r / 4096 % 64), UInt8.ofNat (0x80 + r / 64 % 64), UInt8.ofNat (0x80 + r % 64), ?_, ?_⟩
  rotate_left
  · rw [UInt8.toNat_ofNat']; omega
  · have hw : Utf8.valid (r : Int) = true := by
      simp only [Utf8.valid, Bool.or_eq_true, Bool.and_eq_true, decide_eq_true_eq]; omega
    unfold Utf8.encode
    simp only [hw, if_true, Int.toNat_natCast]
    rw [if_neg (by omega), if_neg (by omega), if_neg (by omega)]
set_option maxRecDepth 1000000 in
set_option maxHeartbeats 2000000 in
theorem ix_two (r : Nat) (h : 128 ≤ r) (h2 : r ≤ 2047) (w : World) : Calls Try.prog 39 #[.string ⟨#[42, 63, 91, 93, 92, 94, 45]⟩, .int .i32 (r : Int)] w (IxSays r w) := by
  have hv : Lib.validRune (r : Int) = true := by unfold Lib.validRune; simp; omega
  obtain ⟨x, y, he, hy⟩ := enc2 h h2
  have HE := Lib.hid (fun w' => ix_none (r := r) (w := w) (w' := w') (by omega))
  have d0 : ((r : Int) == 65533) = false := by simp; omega
  have HV := Lib.hid (fun w => Try.utf8_ValidRune (r : Int) w)
  rw [hv] at HV
  have q0 : decide ((0 : Int) ≤ (r : Int)) = true := by simp
  have q1 : decide ((r : Int) < 128) = false := by simp; omega
  have HIX := Lib.hid (fun s c w h1 h2 => byte_none s c h1 h2 w)
  clear hv
  go_enter Try.func39, Try.ntmps39
  go_wp2_with fail
  go_at_call 47
  with_reducible refine (HV.out _).mono ?_
  rintro e w1 ⟨rfl, rfl⟩
  go_wp2
  go_step3
  go_wp2
  go_loopw [9, 10] (fun x9 x10 wr => x9 = .int .i64 1 ∧ x10 = .int .i64 0 ∧ wr = w1) (fun _ _ _ => 0)
  case atStart => exact ⟨rfl, rfl, rfl⟩
  case round =>
    obtain ⟨rfl, rfl, rfl⟩ := hrel
    have ne : ((((⟨#[42, 63, 91, 93, 92, 94, 45]⟩ : ByteArray)[1]).toNat : Int) != (((⟨#[x, y]⟩ : ByteArray)[1]'(show 1 < 2 by omega)).toNat : Int)) = true := by
      rw [bne_iff_ne]; show ((63 : Nat) : Int) ≠ (y.toNat : Int); omega
    have hy2 : 128 ≤ (((⟨#[x, y]⟩ : ByteArray)[1]'(show 1 < 2 by omega)).toNat : Int) ∧ (((⟨#[x, y]⟩ : ByteArray)[1]'(show 1 < 2 by omega)).toNat : Int) < 256 := by
      show 128 ≤ (y.toNat : Int) ∧ (y.toNat : Int) < 256
      have := y.toNat_lt; omega
    have HY2 := Lib.hid hy2
    have hw2 : IntKind.i64.wrap 2 = 2 := by decide
    clear hy2
    go_wp2
    go_step3
    go_wp2
    go_quiet (fail)
    go_wp2
    obtain ⟨w5, hw5⟩ : ∃ w5, w5 = wr.drewN nq := ⟨_, rfl⟩
    rw [← hw5]
    have HW5 := Lib.hid (show Below wr.heap.size wr w5 by rw [hw5]; exact below_drewN (Below.refl _ _) nq)
    clear hw5
    go_quiet (first | (go_at_call 46; refine Calls.quiet_of_same (HIX.out _ _ _ (marks_low _ _) HY2.out)))
    go_wp2
    rw [Exit.noGoto_ret]
    (try simp only [Exit.inBlock, Exit.then])
    (try rw [Exit.noGoto_ret])
    go_ret
    exact HE.out _ (below_drewN HW5.out _)
set_option maxRecDepth 1000000 in
set_option maxHeartbeats 2000000 in
theorem ix_three (r : Nat) (h : 2048 ≤ r) (h2 : r ≤ 65535) (h3 : r ≠ 65533) (hv : Lib.validRune (r : Int) = true) (w : World) : Calls Try.prog 39 #[.string ⟨#[42, 63, 91, 93, 92, 94, 45]⟩, .int .i32 (r : Int)] w (IxSays r w) := by
  obtain ⟨x, z, y, he, hy⟩ := enc3 h h2 hv
  have HE := Lib.hid (fun w' => ix_none (r := r) (w := w) (w' := w') (by omega))
  have d0 : ((r : Int) == 65533) = false := by simp; omega
  have HV := Lib.hid (fun w => Try.utf8_ValidRune (r : Int) w)
  rw [hv] at HV
  have q0 : decide ((0 : Int) ≤ (r : Int)) = true := by simp
  have q1 : decide ((r : Int) < 128) = false := by simp; omega
  have HIX := Lib.hid (fun s c w h1 h2 => byte_none s c h1 h2 w)
  clear hv
  go_enter Try.func39, Try.ntmps39
  go_wp2_with fail
  go_at_call 47
  with_reducible refine (HV.out _).mono ?_
  rintro e w1 ⟨rfl, rfl⟩
  go_wp2
  go_step3
  go_wp2
  go_loopw [9, 10] (fun x9 x10 wr => x9 = .int .i64 2 ∧ x10 = .int .i64 0 ∧ wr = w1) (fun _ _ _ => 0)
  case atStart => exact ⟨rfl, rfl, rfl⟩
  case round =>
    obtain ⟨rfl, rfl, rfl⟩ := hrel
    have ne : ((((⟨#[42, 63, 91, 93, 92, 94, 45]⟩ : ByteArray)[2]).toNat : Int) != (((⟨#[x, z, y]⟩ : ByteArray)[2]'(show 2 < 3 by omega)).toNat : Int)) = true := by
      rw [bne_iff_ne]; show ((91 : Nat) : Int) ≠ (y.toNat : Int); omega
    have hy2 : 128 ≤ (((⟨#[x, z, y]⟩ : ByteArray)[2]'(show 2 < 3 by omega)).toNat : Int) ∧ (((⟨#[x, z, y]⟩ : ByteArray)[2]'(show 2 < 3 by omega)).toNat : Int) < 256 := by
      show 128 ≤ (y.toNat : Int) ∧ (y.toNat : Int) < 256
      have := y.toNat_lt; omega
    have HY2 := Lib.hid hy2
    have hw2 : IntKind.i64.wrap 3 = 3 := by decide
    clear hy2
    go_wp2
    go_step3
    go_wp2
    go_quiet (fail)
    go_wp2
    obtain ⟨w5, hw5⟩ : ∃ w5, w5 = wr.drewN nq := ⟨_, rfl⟩
    rw [← hw5]
    have HW5 := Lib.hid (show Below wr.heap.size wr w5 by rw [hw5]; exact below_drewN (Below.refl _ _) nq)
    clear hw5
    go_quiet (first | (go_at_call 46; refine Calls.quiet_of_same (HIX.out _ _ _ (marks_low _ _) HY2.out)))
    go_wp2
    rw [Exit.noGoto_ret]
    (try simp only [Exit.inBlock, Exit.then])
    (try rw [Exit.noGoto_ret])
    go_ret
    exact HE.out _ (below_drewN HW5.out _)
set_option maxRecDepth 1000000 in
set_option maxHeartbeats 2000000 in
theorem ix_four (r : Nat) (h : 65536 ≤ r) (h2 : r ≤ 1114111) (w : World) : Calls Try.prog 39 #[.string ⟨#[42, 63, 91, 93, 92, 94, 45]⟩, .int .i32 (r : Int)] w (IxSays r w) := by
  have hv : Lib.validRune (r : Int) = true := by unfold Lib.validRune; simp; omega
  obtain ⟨x, z, u, y, he, hy⟩ := enc4 h h2
  have HE := Lib.hid (fun w' => ix_none (r := r) (w := w) (w' := w') (by omega))
  have d0 : ((r : Int) == 65533) = false := by simp; omega
  have HV := Lib.hid (fun w => Try.utf8_ValidRune (r : Int) w)
  rw [hv] at HV
  have q0 : decide ((0 : Int) ≤ (r : Int)) = true := by simp
  have q1 : decide ((r : Int) < 128) = false := by simp; omega
  have HIX := Lib.hid (fun s c w h1 h2 => byte_none s c h1 h2 w)
  clear hv
  go_enter Try.func39, Try.ntmps39
  go_wp2_with fail
  go_at_call 47
  with_reducible refine (HV.out _).mono ?_
  rintro e w1 ⟨rfl, rfl⟩
  go_wp2
  go_step3
  go_wp2
  go_loopw [9, 10] (fun x9 x10 wr => x9 = .int .i64 3 ∧ x10 = .int .i64 0 ∧ wr = w1) (fun _ _ _ => 0)
  case atStart => exact ⟨rfl, rfl, rfl⟩
  case round =>
    obtain ⟨rfl, rfl, rfl⟩ := hrel
    have ne : ((((⟨#[42, 63, 91, 93, 92, 94, 45]⟩ : ByteArray)[3]).toNat : Int) != (((⟨#[x, z, u, y]⟩ : ByteArray)[3]'(show 3 < 4 by omega)).toNat : Int)) = true := by
      rw [bne_iff_ne]; show ((93 : Nat) : Int) ≠ (y.toNat : Int); omega
    have hy2 : 128 ≤ (((⟨#[x, z, u, y]⟩ : ByteArray)[3]'(show 3 < 4 by omega)).toNat : Int) ∧ (((⟨#[x, z, u, y]⟩ : ByteArray)[3]'(show 3 < 4 by omega)).toNat : Int) < 256 := by
      show 128 ≤ (y.toNat : Int) ∧ (y.toNat : Int) < 256
      have := y.toNat_lt; omega
    have HY2 := Lib.hid hy2
    have hw2 : IntKind.i64.wrap 4 = 4 := by decide
    clear hy2
    go_wp2
    go_step3
    go_wp2
    go_quiet (fail)
    go_wp2
    obtain ⟨w5, hw5⟩ : ∃ w5, w5 = wr.drewN nq := ⟨_, rfl⟩
    rw [← hw5]
    have HW5 := Lib.hid (show Below wr.heap.size wr w5 by rw [hw5]; exact below_drewN (Below.refl _ _) nq)
    clear hw5
    go_quiet (first | (go_at_call 46; refine Calls.quiet_of_same (HIX.out _ _ _ (marks_low _ _) HY2.out)))
    go_wp2
    rw [Exit.noGoto_ret]
    (try simp only [Exit.inBlock, Exit.then])
    (try rw [Exit.noGoto_ret])
    go_ret
    exact HE.out _ (below_drewN HW5.out _)
set_option maxRecDepth 1000000 in
set_option maxHeartbeats 2000000 in
theorem ix_bad (r : Nat) (h : 128 ≤ r) (h3 : r ≠ 65533) (hv : Lib.validRune (r : Int) = false) (w : World) : Calls Try.prog 39 #[.string ⟨#[42, 63, 91, 93, 92, 94, 45]⟩, .int .i32 (r : Int)] w (IxSays r w) := by
  have HE := Lib.hid (fun w' => ix_none (r := r) (w := w) (w' := w') h)
  have d0 : ((r : Int) == 65533) = false := by simp; omega
  have HV := Lib.hid (fun w => Try.utf8_ValidRune (r : Int) w)
  rw [hv] at HV
  have q0 : decide ((0 : Int) ≤ (r : Int)) = true := by simp
  have q1 : decide ((r : Int) < 128) = false := by simp; omega
  clear hv
  go_enter Try.func39, Try.ntmps39
  go_wp2_with fail
  go_at_call 47
  with_reducible refine (HV.out _).mono ?_
  rintro e w1 ⟨rfl, rfl⟩
  go_wp2
  go_ret
  exact HE.out _ (Below.refl _ _)
theorem ix_any (r : Nat) (w : World) : Calls Try.prog 39 #[.string ⟨#[42, 63, 91, 93, 92, 94, 45]⟩, .int .i32 (r : Int)] w (IxSays r w) := by
  by_cases h1 : r < 128
  · refine (Try.strings_IndexRune_ascii _ (r : Int) w (by omega) (by omega)).mono ?_
    rintro e w' ⟨rfl, rfl⟩
    exact ⟨_, rfl, by rw [Int.toNat_natCast]; exact marked_low r h1, Below.refl _ _⟩
  · by_cases h2 : r = 65533
    · subst h2; exact ix_error w
    cases hv : Lib.validRune (r : Int) with
    | false => exact ix_bad r (by omega) h2 hv w
    | true =>
      by_cases h3 : r ≤ 2047
      · exact ix_two r (by omega) h3 w
      by_cases h4 : r ≤ 65535
      · exact ix_three r (by omega) h4 h2 hv w
      · have : r ≤ 1114111 := by simp only [Lib.validRune, decide_eq_true_eq] at hv; omega
        exact ix_four r (by omega) this w
/-- has a pattern's text a mark there? -/
theorem marked_any (r : Nat) (w : World) : Calls Try.prog 30 #[.string ⟨#[42, 63, 91, 93, 92, 94, 45]⟩, .int .i32 (r : Int)] w fun e w' => e = .returned (.bool (marked r)) ∧ Below w.heap.size w w' := by
  have HX := Lib.hid (fun w => ix_any r w)
  go_enter Try.func30, Try.ntmps30
  go_wp2_with fail
  go_at_call 39
  with_reducible refine (HX.out _).mono ?_
  rintro e w1 ⟨i, rfl, hi, hb⟩
  have HI := Lib.hid hi
  have HB := Lib.hid hb
  clear hi hb
  go_wp2
  go_ret
  exact ⟨ret_bool HI.out, HB.out⟩
end Go.Proofs.Ytfponjonbhnmlaa.Build
