/-
  What the functions of package crc (and the document's own sum) answer, for every argument: contracts of the walks.
-/
import Derived.Test.YtcmjambbdfangaaGreatProg
import Derived.Test.YtcmjambbdfangaaGreatCrcMath
import Derived.WalkKit
import Derived.Handy
import Derived.Lib.Hide
set_option linter.unusedVariables false
set_option linter.unusedSimpArgs false
namespace Go.Proofs.YtcmjambbdfangaaGreat.Crc
open Go.RowKit
open CrcM (W)

theorem ret_int {k : IntKind} {a b : Int} (h : a = b) : Ending.returned (.int k a) = .returned (.int k b) := by rw [h]
/-- a word as the model's number -/
def vl (x : W) : Int := x.toNat
theorem vl_range (x : W) : 0 ≤ vl x ∧ vl x ≤ 4294967295 := by have := x.isLt; unfold vl; omega
theorem vl_inj {x y : W} (h : vl x = vl y) : x = y := by unfold vl at h; exact BitVec.eq_of_toNat_eq (by omega)
theorem vl_xor (x y : W) : bits .xor .u32 (vl x) (vl y) = vl (x ^^^ y) := by
  unfold vl; rw [u32_xor_nat _ _ x.isLt y.isLt]; simp
theorem vl_poly (x : W) : bits .xor .u32 (vl x) 3988292384 = vl (x ^^^ CrcM.poly) := vl_xor x CrcM.poly
theorem vl_half (x : W) : vl x / (2 : Int) = vl (x >>> 1) := by
  unfold vl; rw [BitVec.toNat_ushiftRight, Nat.shiftRight_eq_div_pow]; omega
theorem vl_and1 (x : W) : bits .and .u32 (vl x) 1 = ((x.toNat % 2 : Nat) : Int) := by
  have := u32_and_nat x.toNat 1 x.isLt (by decide)
  rw [nat_mask1] at this; exact this
theorem vl_odd {x : W} (h : x.toNat % 2 = 1) : bits .and .u32 (vl x) 1 = 1 := by rw [vl_and1, h]; rfl
theorem vl_even {x : W} (h : ¬ x.toNat % 2 = 1) : bits .and .u32 (vl x) 1 = 0 := by rw [vl_and1, show x.toNat % 2 = 0 by omega]; rfl
theorem rnd_odd {x : W} (h : x.toNat % 2 = 1) : CrcM.rnd x = (x >>> 1) ^^^ CrcM.poly := by unfold CrcM.rnd; rw [if_pos h]
theorem rnd_even {x : W} (h : ¬ x.toNat % 2 = 1) : CrcM.rnd x = x >>> 1 := by unfold CrcM.rnd; rw [if_neg h]
/-- a number as a word -/
def wd (n : Int) : W := BitVec.ofNat 32 n.toNat
theorem vl_wd {n : Int} (h0 : 0 ≤ n) (h1 : n ≤ 4294967295) : vl (wd n) = n := by
  unfold vl wd; rw [BitVec.toNat_ofNat, Nat.mod_eq_of_lt (by omega)]; omega
theorem wd_vl (x : W) : wd (vl x) = x := by unfold vl wd; simp

theorem step_any (x : W) (b : Int) (hb0 : 0 ≤ b) (hb1 : b ≤ 255) (w : World) :
    Calls Tryz.prog 97 #[.int .u32 (vl x), .int .u8 b] w fun e w' => e = .returned (.int .u32 (vl (CrcM.step x (wd b)))) ∧ w = w' := by
  have hx := vl_range x
  have hxb : bits .xor .u32 (vl x) b = vl (x ^^^ wd b) := by
    have := vl_xor x (wd b); rw [vl_wd hb0 (by omega)] at this; exact this
  go_enter Tryz.func97, Tryz.ntmps97
  go_wp2
  go_loop [0, 10] (fun c i => ∃ k : Nat, k ≤ 8 ∧ i = .int .i64 k ∧ c = .int .u32 (vl (CrcM.rnds k (x ^^^ wd b)))) (fun _ i => 8 - (intOf i).toNat)
  case atStart => exact ⟨0, Nat.zero_le _, rfl, rfl⟩
  case round =>
    obtain ⟨k, hk, rfl, rfl⟩ := hrel
    generalize hy : CrcM.rnds k (x ^^^ wd b) = y
    have HY := Lib.hid hy
    clear hy
    have hr := vl_range y
    have hh := vl_half y
    have hp := vl_poly (y >>> 1)
    by_cases hlt : k < 8
    · by_cases hodd : y.toNat % 2 = 1
      · have HR := Lib.hid (rnd_odd hodd)
        have ho := vl_odd hodd
        clear hodd
        go_wp2
        go_round
        case rel => exact ⟨k + 1, by omega, by go_num, by simp only [CrcM.rnds_succ', HY.out, HR.out] <;> rw [hh]⟩
        case measure => simp [intOf]; omega
      · have HR := Lib.hid (rnd_even hodd)
        have ho := vl_even hodd
        clear hodd
        go_wp2
        go_round
        case rel => exact ⟨k + 1, by omega, by go_num, by simp only [CrcM.rnds_succ', HY.out, HR.out] <;> rw [hh]⟩
        case measure => simp [intOf]; omega
    · obtain rfl : k = 8 := by omega
      go_wp2
      go_ret
      exact ⟨by rw [← HY.out]; rfl, rfl⟩
theorem vl_mod (x : W) : vl x % (2 : Int) = ((x.toNat % 2 : Nat) : Int) := by unfold vl; omega
theorem vl_mod_odd {x : W} (h : x.toNat % 2 = 1) : vl x % (2 : Int) = 1 := by rw [vl_mod, h]; rfl
theorem vl_mod_even {x : W} (h : ¬ x.toNat % 2 = 1) : vl x % (2 : Int) = 0 := by rw [vl_mod, show x.toNat % 2 = 0 by omega]; rfl

theorem refStep_any (x : W) (b : Int) (hb0 : 0 ≤ b) (hb1 : b ≤ 255) (w : World) :
    Calls Tryz.prog 116 #[.int .u32 (vl x), .int .u8 b] w fun e w' => e = .returned (.int .u32 (vl (CrcM.step x (wd b)))) ∧ w = w' := by
  have hx := vl_range x
  have hxb : bits .xor .u32 (vl x) b = vl (x ^^^ wd b) := by
    have := vl_xor x (wd b); rw [vl_wd hb0 (by omega)] at this; exact this
  go_enter Tryz.func116, Tryz.ntmps116
  go_wp2
  go_loop [0, 5] (fun c i => ∃ k : Nat, k ≤ 8 ∧ i = .int .i64 k ∧ c = .int .u32 (vl (CrcM.rnds k (x ^^^ wd b)))) (fun _ i => 8 - (intOf i).toNat)
  case atStart => exact ⟨0, Nat.zero_le _, rfl, rfl⟩
  case round =>
    obtain ⟨k, hk, rfl, rfl⟩ := hrel
    generalize hy : CrcM.rnds k (x ^^^ wd b) = y
    have HY := Lib.hid hy
    clear hy
    have hr := vl_range y
    have hh := vl_half y
    have hp := vl_poly (y >>> 1)
    by_cases hlt : k < 8
    · by_cases hodd : y.toNat % 2 = 1
      · have HR := Lib.hid (rnd_odd hodd)
        have ho := vl_mod_odd hodd
        clear hodd
        go_wp2
        go_round
        case rel => exact ⟨k + 1, by omega, by go_num, by simp only [CrcM.rnds_succ', HY.out, HR.out] <;> rw [hh]⟩
        case measure => simp [intOf]; omega
      · have HR := Lib.hid (rnd_even hodd)
        have ho := vl_mod_even hodd
        clear hodd
        go_wp2
        go_round
        case rel => exact ⟨k + 1, by omega, by go_num, by simp only [CrcM.rnds_succ', HY.out, HR.out] <;> rw [hh]⟩
        case measure => simp [intOf]; omega
    · obtain rfl : k = 8 := by omega
      go_wp2
      go_ret
      exact ⟨by rw [← HY.out]; rfl, rfl⟩
/-- the state behind some bytes of a text, from the full one on -/
def stAt (s : ByteArray) (k : Nat) : W := CrcM.run 4294967295#32 (s.data.toList.take k)
theorem byte_le (c : UInt8) : (0 : Int) ≤ (c.toNat : Int) ∧ (c.toNat : Int) ≤ 255 := by have := c.toNat_lt; omega
theorem take_snoc (s : ByteArray) (k : Nat) (h : k < s.size) : s.data.toList.take (k + 1) = s.data.toList.take k ++ [s[k]] := by
  rw [List.take_succ_eq_append_getElem (by simpa using h)]; rfl
theorem run_snoc (c : W) (l : List UInt8) (b : UInt8) : CrcM.run c (l ++ [b]) = CrcM.step (CrcM.run c l) (wd (b.toNat : Int)) := by
  rw [CrcM.run_append, CrcM.run_cons, CrcM.run_nil]; unfold wd; simp
theorem stAt_succ (s : ByteArray) (k : Nat) (h : k < s.size) : stAt s (k + 1) = CrcM.step (stAt s k) (wd (s[k].toNat : Int)) := by
  unfold stAt; rw [take_snoc s k h, run_snoc]
theorem vl_full : vl (4294967295#32) = 4294967295 := rfl
/-- the sum of some bytes, as a number -/
def sumOf (l : List UInt8) : Int := vl (CrcM.sum l)
theorem sumOf_range (l : List UInt8) : 0 ≤ sumOf l ∧ sumOf l ≤ 4294967295 := vl_range _
theorem full_sub (x : W) : 4294967295 - vl x = vl (x ^^^ 4294967295#32) := by
  have : (x ^^^ 4294967295#32) = ~~~ x := by
    apply BitVec.eq_of_getLsbD_eq; intro i hi
    rw [BitVec.getLsbD_xor, BitVec.getLsbD_not]
    have : (4294967295#32 : W).getLsbD i = true := by
      have : (4294967295#32 : W) = BitVec.allOnes 32 := by decide
      rw [this, BitVec.getLsbD_allOnes]; simp [hi]
    rw [this]; simp [hi]
  rw [this]; unfold vl; rw [BitVec.toNat_not]; have := x.isLt; omega
theorem stAt_full (s : ByteArray) : vl (stAt s s.size ^^^ 4294967295#32) = sumOf s.data.toList := by
  unfold stAt sumOf CrcM.sum; rw [List.take_of_length_le (by simp)]

set_option maxHeartbeats 400000 in
theorem refCrc_any (s : ByteArray) (hs : s.size ≤ maxLen) (w : World) :
    Calls Tryz.prog 113 #[.string s] w fun e w' => e = .returned (.int .u32 (sumOf s.data.toList)) ∧ w = w' := by
  unfold maxLen at hs
  go_enter Tryz.func113, Tryz.ntmps113
  go_wp2
  go_loop [3, 4] (fun c i => ∃ k : Nat, k ≤ s.size ∧ i = .int .i64 k ∧ c = .int .u32 (vl (stAt s k))) (fun _ i => s.size - (intOf i).toNat)
  case atStart => exact ⟨0, Nat.zero_le _, rfl, rfl⟩
  case round =>
    obtain ⟨k, hk, rfl, rfl⟩ := hrel
    by_cases hlt : k < s.size
    · have HS := Lib.hid (stAt_succ s k hlt)
      have hb := byte_le s[k]
      go_wp2_with (go_at_call 116; refine (refStep_any _ _ (by omega) (by omega) _).mono ?_; rintro e w' ⟨rfl, rfl⟩)
      go_round
      case rel => exact ⟨k + 1, by omega, by go_num, by rw [HS.out]⟩
      case measure => simp [intOf]; omega
    · have hr := vl_range (stAt s k)
      have HF := Lib.hid (full_sub (stAt s k))
      go_wp2
      go_ret
      have e : k = s.size := by omega
      exact ⟨ret_int (by rw [HF.out, e, stAt_full]), rfl⟩
/-- the bytes of some texts, one behind the other -/
def bytesOf (ss : List ByteArray) : List UInt8 := ss.flatMap fun s => s.data.toList
def stOf (ss : List ByteArray) (j : Nat) : W := CrcM.run 4294967295#32 (bytesOf (ss.take j))
def stIn (c : W) (s : ByteArray) (k : Nat) : W := CrcM.run c (s.data.toList.take k)
theorem stIn_succ (c : W) (s : ByteArray) (k : Nat) (h : k < s.size) : stIn c s (k + 1) = CrcM.step (stIn c s k) (wd (s[k].toNat : Int)) := by
  unfold stIn; rw [take_snoc s k h, run_snoc]
theorem stIn_full (c : W) (s : ByteArray) (k : Nat) (h : s.size ≤ k) : stIn c s k = CrcM.run c s.data.toList := by
  unfold stIn; rw [List.take_of_length_le (by simpa using h)]
theorem stOf_succ (ss : List ByteArray) (j : Nat) (h : j < ss.length) : stOf ss (j + 1) = CrcM.run (stOf ss j) (ss.getD j ByteArray.empty).data.toList := by
  unfold stOf bytesOf
  rw [List.take_succ_eq_append_getElem h, List.flatMap_append, CrcM.run_append]
  simp [List.getD, h]
theorem stOf_full (ss : List ByteArray) (j : Nat) (h : ss.length ≤ j) : vl (stOf ss j ^^^ 4294967295#32) = sumOf (bytesOf ss) := by
  unfold stOf sumOf CrcM.sum; rw [List.take_of_length_le h]
theorem full_xor (x : W) : bits .xor .u32 IntKind.u32.max (vl x) = vl (x ^^^ 4294967295#32) := by
  have := vl_xor 4294967295#32 x
  rw [BitVec.xor_comm] at this; exact this

set_option maxHeartbeats 400000 in
theorem sum_any (ss : List ByteArray) (b off cap : Nat) (w : World) (hl : ss.length ≤ maxLen) (hz : ∀ i, i < ss.length → (ss.getD i ByteArray.empty).size ≤ maxLen)
    (hc : ∀ i, i < ss.length → w.cell? ⟨b, off + i, none⟩ = some (.string (ss.getD i ByteArray.empty))) :
    Calls Tryz.prog 68 #[.slice (some ⟨b, off, none⟩) ss.length cap] w fun e w' => e = .returned (.int .u32 (sumOf (bytesOf ss))) ∧ w = w' := by
  unfold maxLen at hl
  have HC := Lib.hid hc
  have HZ := Lib.hid hz
  clear hc hz
  go_enter Tryz.func68, Tryz.ntmps68
  go_wp2
  go_loop [3, 9] (fun c i => ∃ j : Nat, j ≤ ss.length ∧ i = .int .i64 j ∧ c = .int .u32 (vl (stOf ss j))) (fun _ i => ss.length - (intOf i).toNat)
  case atStart => exact ⟨0, Nat.zero_le _, rfl, rfl⟩
  case round =>
    obtain ⟨j, hj, rfl, rfl⟩ := hrel
    by_cases hlt : j < ss.length
    · have hcell := HC.out j hlt
      have hsz := HZ.out j hlt
      have HS := Lib.hid (stOf_succ ss j hlt)
      generalize ss.getD j ByteArray.empty = s at hcell hsz HS
      generalize hst : stOf ss j = c at HS
      have HT := Lib.hid hst
      clear hst
      unfold maxLen at hsz
      go_wp2
      go_loop [3, 15] (fun c' i => ∃ k : Nat, k ≤ s.size ∧ i = .int .i64 k ∧ c' = .int .u32 (vl (stIn c s k))) (fun _ i => s.size - (intOf i).toNat)
      case atStart => exact ⟨0, Nat.zero_le _, rfl, rfl⟩
      case round =>
        obtain ⟨k, hk, rfl, rfl⟩ := hrel
        by_cases hlt2 : k < s.size
        · have HN := Lib.hid (stIn_succ c s k hlt2)
          have hb := byte_le s[k]
          go_wp2_with (go_at_call 97; refine (step_any _ _ (by omega) (by omega) _).mono ?_; rintro e w' ⟨rfl, rfl⟩)
          go_round
          case rel => exact ⟨k + 1, by omega, by go_num, by rw [HN.out]⟩
          case measure => simp [intOf]; omega
        · have HN := Lib.hid (stIn_full c s k (by omega))
          go_wp2
          go_round
          case rel => exact ⟨j + 1, by omega, by go_num, by rw [HS.out, HN.out]⟩
          case measure => simp [intOf]; omega
    · have hr := vl_range (stOf ss j)
      have hx := full_xor (stOf ss j)
      have HF := Lib.hid (stOf_full ss j (by omega))
      go_wp2
      go_ret
      exact ⟨ret_int HF.out, rfl⟩
theorem sum_none (w : World) :
    Calls Tryz.prog 68 #[.slice none 0 0] w fun e w' => e = .returned (.int .u32 (sumOf [])) ∧ w = w' := by
  go_enter Tryz.func68, Tryz.ntmps68
  go_wp2
  go_rounds 1
  go_ret
  exact ⟨ret_int rfl, rfl⟩
end Go.Proofs.YtcmjambbdfangaaGreat.Crc
