/-
  What the document's own reading of a rune answers, at every place of every text: the model's decoding.
-/
import Derived.Test.YtfponjonbhnmlaaDoorProg
import Derived.Test.YtfponjonbhnmlaaDoorRuneMath
import Derived.WalkKit
import Derived.Handy
import Derived.Lib.Hide
import Derived.WalkSmall
import Derived.Deep.QuietTactic
import Derived.BigQuiet
namespace Go.Proofs.YtfponjonbhnmlaaDoor.RefRune
open Go.RowKit

/-- does a byte between lo and hi stand there? -/
def fol (s : ByteArray) (i lo hi : Nat) : Bool := decide (i < s.size ∧ lo ≤ (s.get! i).toNat ∧ (s.get! i).toNat ≤ hi)
theorem get_bang (s : ByteArray) (i : Nat) (h : i < s.size) : s.get! i = s[i] := by
  rw [ByteArray.get!, ByteArray.getElem_eq_getElem_data]
  exact getElem!_pos s.data i h
theorem fol_far {s : ByteArray} {i lo hi : Nat} (h : ¬ i < s.size) : fol s i lo hi = false := by unfold fol; simp [h]
theorem fol_near {s : ByteArray} {i lo hi : Nat} (h : i < s.size) : fol s i lo hi = decide (lo ≤ s[i].toNat ∧ s[i].toNat ≤ hi) := by unfold fol; rw [get_bang s i h]; simp [h]

theorem ret_bool {a b : Bool} (h : a = b) : Ending.returned (.bool a) = .returned (.bool b) := by rw [h]
open RuneM
def bAt (s : ByteArray) (i : Nat) : Nat := (s.get! i).toNat
theorem bAt_lt (s : ByteArray) (i : Nat) : bAt s i < 256 := (s.get! i).toNat_lt
theorem bAt_eq (s : ByteArray) (i : Nat) (h : i < s.size) : s[i].toNat = bAt s i := by unfold bAt; rw [get_bang s i h]
theorem dec_ref (s : ByteArray) (i : Nat) : Utf8.decode s i = refN (s.size - i) (bAt s i) (bAt s (i + 1)) (bAt s (i + 2)) (bAt s (i + 3)) := by
  rw [refN_eq _ _ _ _ _ (bAt_lt s i) (bAt_lt s _) (bAt_lt s _) (bAt_lt s _), Lib.decode_at]; rfl
theorem fol_iff (s : ByteArray) (i lo hi : Nat) : fol s i lo hi = true ↔ i < s.size ∧ lo ≤ bAt s i ∧ bAt s i ≤ hi := by unfold fol bAt; simp
theorem dec_one {s : ByteArray} {i : Nat} (h : bAt s i < 128) : Utf8.decode s i = (bAt s i, 1) := by rw [dec_ref]; unfold refN; rw [if_pos h]
theorem dec_two {s : ByteArray} {i : Nat} (h : 194 ≤ bAt s i ∧ bAt s i ≤ 223) (h1 : fol s (i + 1) 128 191 = true) : Utf8.decode s i = (bAt s i % 32 * 64 + bAt s (i + 1) % 64, 2) := by
  rw [fol_iff] at h1
  rw [dec_ref]; unfold refN; rw [if_neg (by omega), if_pos (by omega)]
theorem dec_three {s : ByteArray} {i : Nat} (h : 224 ≤ bAt s i ∧ bAt s i ≤ 239) (h1 : fol s (i + 1) (loF (bAt s i)) (hiF (bAt s i)) = true) (h2 : fol s (i + 2) 128 191 = true) :
    Utf8.decode s i = (bAt s i % 16 * 4096 + bAt s (i + 1) % 64 * 64 + bAt s (i + 2) % 64, 3) := by
  rw [fol_iff] at h1 h2
  rw [dec_ref]; unfold refN; rw [if_neg (by omega), if_neg (by omega), if_pos (by omega)]
theorem dec_four {s : ByteArray} {i : Nat} (h : 240 ≤ bAt s i ∧ bAt s i ≤ 244) (h1 : fol s (i + 1) (loF (bAt s i)) (hiF (bAt s i)) = true) (h2 : fol s (i + 2) 128 191 = true) (h3 : fol s (i + 3) 128 191 = true) :
    Utf8.decode s i = (bAt s i % 8 * 262144 + bAt s (i + 1) % 64 * 4096 + bAt s (i + 2) % 64 * 64 + bAt s (i + 3) % 64, 4) := by
  rw [fol_iff] at h1 h2 h3
  rw [dec_ref]; unfold refN; rw [if_neg (by omega), if_neg (by omega), if_neg (by omega), if_pos (by omega)]
theorem dec_bad {s : ByteArray} {i : Nat} (h : 128 ≤ bAt s i) (h1 : ¬ ((194 ≤ bAt s i ∧ bAt s i ≤ 223) ∧ fol s (i + 1) 128 191 = true))
    (h2 : ¬ ((224 ≤ bAt s i ∧ bAt s i ≤ 239) ∧ fol s (i + 1) (loF (bAt s i)) (hiF (bAt s i)) = true ∧ fol s (i + 2) 128 191 = true))
    (h3 : ¬ ((240 ≤ bAt s i ∧ bAt s i ≤ 244) ∧ fol s (i + 1) (loF (bAt s i)) (hiF (bAt s i)) = true ∧ fol s (i + 2) 128 191 = true ∧ fol s (i + 3) 128 191 = true)) :
    Utf8.decode s i = (65533, 1) := by
  simp only [fol_iff] at h1 h2 h3
  rw [dec_ref]; unfold refN; rw [if_neg (by omega), if_neg (by omega), if_neg (by omega), if_neg (by omega)]
theorem and_31 (c : UInt8) : bits .and .u8 (c.toNat : Int) 31 = ((c.toNat % 32 : Nat) : Int) := by
  have := u8_and_nat c.toNat 31 c.toNat_lt (by decide); rw [nat_mask5] at this; exact this
theorem and_63 (c : UInt8) : bits .and .u8 (c.toNat : Int) 63 = ((c.toNat % 64 : Nat) : Int) := by
  have := u8_and_nat c.toNat 63 c.toNat_lt (by decide); rw [nat_mask6] at this; exact this
theorem and_15 (c : UInt8) : bits .and .u8 (c.toNat : Int) 15 = ((c.toNat % 16 : Nat) : Int) := by
  have := u8_and_nat c.toNat 15 c.toNat_lt (by decide); rw [nat_mask4] at this; exact this
theorem and_7 (c : UInt8) : bits .and .u8 (c.toNat : Int) 7 = ((c.toNat % 8 : Nat) : Int) := by
  have := u8_and_nat c.toNat 7 c.toNat_lt (by decide); rw [nat_mask3] at this; exact this
theorem ret_two {a b c d : Int} (h : a = c) (k : b = d) : Ending.returned (.tuple #[.int .i64 a, .int .i64 b]) = .returned (.tuple #[.int .i64 c, .int .i64 d]) := by rw [h, k]
/-- what Rune answers -/
def Told (s : ByteArray) (i : Nat) (w : World) (e : Ending) (w' : World) : Prop := e = .returned (.tuple #[.int .i64 ((Utf8.decode s i).1 : Int), .int .i64 ((Utf8.decode s i).2 : Int)]) ∧ ∃ n, w' = w.drewN n

end Go.Proofs.YtfponjonbhnmlaaDoor.RefRune
