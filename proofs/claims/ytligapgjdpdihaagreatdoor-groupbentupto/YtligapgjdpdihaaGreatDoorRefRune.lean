/-
  What the document's own reading of a rune answers, at every place of every text: the model's decoding.
-/
import Derived.Test.YtligapgjdpdihaaGreatDoorProg
import Derived.Test.YtligapgjdpdihaaGreatDoorRunRuneMath
import Derived.WalkKit
import Derived.Handy
import Derived.Lib.Hide
import Derived.WalkSmall
import Derived.Deep.QuietTactic
import Derived.BigQuiet
set_option linter.unusedVariables false
set_option linter.unusedSimpArgs false
namespace Go.Proofs.YtligapgjdpdihaaGreatDoor.RefRune
open Go.RowKit

/-- does a byte between lo and hi stand there? -/
def fol (s : ByteArray) (i lo hi : Nat) : Bool := decide (i < s.size ∧ lo ≤ (s.get! i).toNat ∧ (s.get! i).toNat ≤ hi)
theorem get_bang (s : ByteArray) (i : Nat) (h : i < s.size) : s.get! i = s[i] := by
  rw [ByteArray.get!, ByteArray.getElem_eq_getElem_data]
  exact getElem!_pos s.data i h
theorem fol_far {s : ByteArray} {i lo hi : Nat} (h : ¬ i < s.size) : fol s i lo hi = false := by unfold fol; simp [h]
theorem fol_near {s : ByteArray} {i lo hi : Nat} (h : i < s.size) : fol s i lo hi = decide (lo ≤ s[i].toNat ∧ s[i].toNat ≤ hi) := by unfold fol; rw [get_bang s i h]; simp [h]

theorem ret_bool {a b : Bool} (h : a = b) : Ending.returned (.bool a) = .returned (.bool b) := by rw [h]
theorem follows_any (s : ByteArray) (i lo hi : Nat) (w : World) :
    Calls Tryz.prog 106 #[.string s, .int .i64 i, .int .u8 lo, .int .u8 hi] w fun e w' => e = .returned (.bool (fol s i lo hi)) ∧ w = w' := by
  by_cases h : i < s.size
  · have H := Lib.hid (fol_near (lo := lo) (hi := hi) h)
    have l0 : (i : Int) < (s.size : Int) := by omega
    by_cases h1 : lo ≤ s[i].toNat
    · have d1 : decide ((lo : Int) ≤ (s[i].toNat : Int)) = true := by simp; omega
      by_cases h2 : s[i].toNat ≤ hi
      · go_enter Tryz.func106, Tryz.ntmps106
        go_wp2
        go_ret
        exact ⟨ret_bool (by rw [H.out]; simp [h1, h2]), rfl⟩
      · go_enter Tryz.func106, Tryz.ntmps106
        go_wp2
        go_ret
        exact ⟨ret_bool (by rw [H.out]; simp [h2]), rfl⟩
    · have d1 : decide ((lo : Int) ≤ (s[i].toNat : Int)) = false := by simp; omega
      go_enter Tryz.func106, Tryz.ntmps106
      go_wp2
      go_ret
      exact ⟨ret_bool (by rw [H.out]; simp [h1]), rfl⟩
  · have H := Lib.hid (fol_far (lo := lo) (hi := hi) h)
    go_enter Tryz.func106, Tryz.ntmps106
    go_wp2
    go_ret
    exact ⟨ret_bool (by rw [H.out]), rfl⟩

theorem follows_at (s : ByteArray) (i lo hi : Nat) (i' lo' hi' : Int) (w : World) (e1 : i' = (i : Int)) (e2 : lo' = (lo : Int)) (e3 : hi' = (hi : Int)) (b : Bool) (hb : fol s i lo hi = b) :
    Calls Tryz.prog 106 #[.string s, .int .i64 i', .int .u8 lo', .int .u8 hi'] w fun e w' => e = .returned (.bool b) ∧ w = w' := by
  subst e1 e2 e3 hb; exact follows_any s i lo hi w

open RuneM
def bAt (s : ByteArray) (i : Nat) : Nat := (s.get! i).toNat
theorem bAt_lt (s : ByteArray) (i : Nat) : bAt s i < 256 := (s.get! i).toNat_lt
theorem bAt_eq (s : ByteArray) (i : Nat) (h : i < s.size) : s[i].toNat = bAt s i := by unfold bAt; rw [get_bang s i h]
theorem dec_ref (s : ByteArray) (i : Nat) : Utf8.decode s i = refN (s.size - i) (bAt s i) (bAt s (i + 1)) (bAt s (i + 2)) (bAt s (i + 3)) := by
  rw [refN_eq _ _ _ _ _ (bAt_lt s i) (bAt_lt s _) (bAt_lt s _) (bAt_lt s _), Lib.decode_at]; rfl
theorem fol_iff (s : ByteArray) (i lo hi : Nat) : fol s i lo hi = true ↔ i < s.size ∧ lo ≤ bAt s i ∧ bAt s i ≤ hi := by unfold fol bAt; simp
theorem dec_one {s : ByteArray} {i : Nat} (h : bAt s i < 128) : Utf8.decode s i = (bAt s i, 1) := by rw [dec_ref]; unfold refN; rw [if_pos h]
theorem dec_two {s : ByteArray} {i : Nat} (h : 194 ≤ bAt s i ∧ bAt s i ≤ 223) (h1 : fol s (i + 1) 128 191 = true) : Utf8.decode s i = (bAt s i % 32 * 64 + bAt s (i + 1) % 64, 2) := by
  rw [fol_iff] at h1
  rw [dec_ref]; unfold refN; rw [if_neg (by omega), if_pos (by omega)]
theorem dec_three {s : ByteArray} {i : Nat} (h : 224 ≤ bAt s i ∧ bAt s i ≤ 239) (h1 : fol s (i + 1) (loF (bAt s i)) (hiF (bAt s i)) = true) (h2 : fol s (i + 2) 128 191 = true) :
    Utf8.decode s i = (bAt s i % 16 * 4096 + bAt s (i + 1) % 64 * 64 + bAt s (i + 2) % 64, 3) := by
  rw [fol_iff] at h1 h2
  rw [dec_ref]; unfold refN; rw [if_neg (by omega), if_neg (by omega), if_pos (by omega)]
theorem dec_four {s : ByteArray} {i : Nat} (h : 240 ≤ bAt s i ∧ bAt s i ≤ 244) (h1 : fol s (i + 1) (loF (bAt s i)) (hiF (bAt s i)) = true) (h2 : fol s (i + 2) 128 191 = true) (h3 : fol s (i + 3) 128 191 = true) :
    Utf8.decode s i = (bAt s i % 8 * 262144 + bAt s (i + 1) % 64 * 4096 + bAt s (i + 2) % 64 * 64 + bAt s (i + 3) % 64, 4) := by
  rw [fol_iff] at h1 h2 h3
  rw [dec_ref]; unfold refN; rw [if_neg (by omega), if_neg (by omega), if_neg (by omega), if_pos (by omega)]
theorem dec_bad {s : ByteArray} {i : Nat} (h : 128 ≤ bAt s i) (h1 : ¬ ((194 ≤ bAt s i ∧ bAt s i ≤ 223) ∧ fol s (i + 1) 128 191 = true))
    (h2 : ¬ ((224 ≤ bAt s i ∧ bAt s i ≤ 239) ∧ fol s (i + 1) (loF (bAt s i)) (hiF (bAt s i)) = true ∧ fol s (i + 2) 128 191 = true))
    (h3 : ¬ ((240 ≤ bAt s i ∧ bAt s i ≤ 244) ∧ fol s (i + 1) (loF (bAt s i)) (hiF (bAt s i)) = true ∧ fol s (i + 2) 128 191 = true ∧ fol s (i + 3) 128 191 = true)) :
    Utf8.decode s i = (65533, 1) := by
  simp only [fol_iff] at h1 h2 h3
  rw [dec_ref]; unfold refN; rw [if_neg (by omega), if_neg (by omega), if_neg (by omega), if_neg (by omega)]
theorem and_31 (c : UInt8) : bits .and .u8 (c.toNat : Int) 31 = ((c.toNat % 32 : Nat) : Int) := by
  have := u8_and_nat c.toNat 31 c.toNat_lt (by decide); rw [nat_mask5] at this; exact this
theorem and_63 (c : UInt8) : bits .and .u8 (c.toNat : Int) 63 = ((c.toNat % 64 : Nat) : Int) := by
  have := u8_and_nat c.toNat 63 c.toNat_lt (by decide); rw [nat_mask6] at this; exact this
theorem and_15 (c : UInt8) : bits .and .u8 (c.toNat : Int) 15 = ((c.toNat % 16 : Nat) : Int) := by
  have := u8_and_nat c.toNat 15 c.toNat_lt (by decide); rw [nat_mask4] at this; exact this
theorem and_7 (c : UInt8) : bits .and .u8 (c.toNat : Int) 7 = ((c.toNat % 8 : Nat) : Int) := by
  have := u8_and_nat c.toNat 7 c.toNat_lt (by decide); rw [nat_mask3] at this; exact this
theorem ret_two {a b c d : Int} (h : a = c) (k : b = d) : Ending.returned (.tuple #[.int .i64 a, .int .i64 b]) = .returned (.tuple #[.int .i64 c, .int .i64 d]) := by rw [h, k]
/-- what Rune answers -/
def Told (s : ByteArray) (i : Nat) (w : World) (e : Ending) (w' : World) : Prop := e = .returned (.tuple #[.int .i64 ((Utf8.decode s i).1 : Int), .int .i64 ((Utf8.decode s i).2 : Int)]) ∧ ∃ n, w' = w.drewN n

set_option maxRecDepth 100000 in
theorem rune_one (s : ByteArray) (i : Nat) (hi : i < s.size) (h : bAt s i < 128) (w : World) : Calls Tryz.prog 103 #[.string s, .int .i64 i] w (Told s i w) := by
  have HD := Lib.hid (dec_one h)
  have he := bAt_eq s i hi
  have h' : s[i].toNat < 128 := by omega
  have HE := Lib.hid he
  clear he h
  have l0 : (i : Int) < (s.size : Int) := by omega
  go_enter Tryz.func103, Tryz.ntmps103
  go_wp2
  go_ret2
  exact ⟨ret_two (by rw [HD.out, HE.out]) (by rw [HD.out]; rfl), 0, rfl⟩

set_option maxRecDepth 100000 in
set_option maxHeartbeats 1000000 in
theorem rune_two (s : ByteArray) (hs : s.size ≤ maxLen) (i : Nat) (hi : i < s.size) (h : 194 ≤ bAt s i ∧ bAt s i ≤ 223) (h1 : fol s (i + 1) 128 191 = true) (w : World) : Calls Tryz.prog 103 #[.string s, .int .i64 i] w (Told s i w) := by
  have HD := Lib.hid (dec_two h h1)
  have k1 := ((fol_iff ..).1 h1).1
  have e0 := bAt_eq s i hi
  have e1 := bAt_eq s (i + 1) k1
  unfold maxLen at hs
  have g1 : 194 ≤ s[i].toNat := by omega
  have g2 : s[i].toNat ≤ 223 := by omega
  have l0 : (i : Int) < (s.size : Int) := by omega
  have l1 : (i : Int) + 1 < (s.size : Int) := by omega
  have m0 := and_31 s[i]
  have m1 := and_63 (s[i + 1]'k1)
  have HE0 := Lib.hid e0
  have HE1 := Lib.hid e1
  clear e0 e1 h
  go_enter Tryz.func103, Tryz.ntmps103
  go_wp2_with (go_at_call 106; (with_reducible refine (follows_at s (i + 1) 128 191 _ _ _ _ ?e1 ?e2 ?e3 _ h1).mono ?_); (case e1 => omega); (case e2 => rfl); (case e3 => rfl); rintro e w' ⟨rfl, rfl⟩)
  go_ret2
  exact ⟨ret_two (by rw [HD.out, ← HE0.out, ← HE1.out]; simp) (by rw [HD.out]; rfl), 0, rfl⟩

set_option maxRecDepth 100000 in
set_option maxHeartbeats 4000000 in
theorem rune_c224_0 (s : ByteArray) (hs : s.size ≤ maxLen) (i : Nat) (hi : i < s.size) (h : bAt s i = 224) (h1 : fol s (i + 1) 160 191 = false) (w : World) : Calls Tryz.prog 103 #[.string s, .int .i64 i] w (Told s i w) := by
  have hl : loF (bAt s i) = 160 := by unfold loF; repeat (first | rw [if_pos (by omega)] | rw [if_neg (by omega)])
  have hh : hiF (bAt s i) = 191 := by unfold hiF; repeat (first | rw [if_pos (by omega)] | rw [if_neg (by omega)])
  have HD : Hid (Utf8.decode s i = (65533, 1)) := by
    refine dec_bad (by omega) (fun x => by omega) (fun x => ?_) (fun x => ?_)
    · rw [hl, hh] at x; simp_all
    · rw [hl, hh] at x; omega
  have e0 := bAt_eq s i hi
  unfold maxLen at hs
  have l0 : (i : Int) < (s.size : Int) := by omega
  have q0 : (s[i].toNat : Int) = 224 := by omega
  have HE0 := Lib.hid e0
  clear e0 h hl hh
  go_enter Tryz.func103, Tryz.ntmps103
  go_wp2_with (first | (go_at_call 106; (with_reducible refine (follows_at s (i + 1) 160 191 _ _ _ _ ?e1 ?e2 ?e3 _ h1).mono ?_); (case e1 => omega); (case e2 => rfl); (case e3 => rfl); rintro e w' ⟨rfl, rfl⟩))
  go_ret2
  exact ⟨ret_two (by rw [HD.out]; rfl) (by rw [HD.out]; rfl), 0, rfl⟩
set_option maxRecDepth 100000 in
set_option maxHeartbeats 4000000 in
theorem rune_c224_1 (s : ByteArray) (hs : s.size ≤ maxLen) (i : Nat) (hi : i < s.size) (h : bAt s i = 224) (h1 : fol s (i + 1) 160 191 = true) (h2 : fol s (i + 2) 128 191 = false) (w : World) : Calls Tryz.prog 103 #[.string s, .int .i64 i] w (Told s i w) := by
  have hl : loF (bAt s i) = 160 := by unfold loF; repeat (first | rw [if_pos (by omega)] | rw [if_neg (by omega)])
  have hh : hiF (bAt s i) = 191 := by unfold hiF; repeat (first | rw [if_pos (by omega)] | rw [if_neg (by omega)])
  have HD : Hid (Utf8.decode s i = (65533, 1)) := by
    refine dec_bad (by omega) (fun x => by omega) (fun x => ?_) (fun x => ?_)
    · rw [hl, hh] at x; simp_all
    · rw [hl, hh] at x; omega
  have e0 := bAt_eq s i hi
  have k1 := ((fol_iff ..).1 h1).1
  unfold maxLen at hs
  have l0 : (i : Int) < (s.size : Int) := by omega
  have q0 : (s[i].toNat : Int) = 224 := by omega
  have HE0 := Lib.hid e0
  clear e0 h hl hh
  go_enter Tryz.func103, Tryz.ntmps103
  go_wp2_with (first | (go_at_call 106; (with_reducible refine (follows_at s (i + 1) 160 191 _ _ _ _ ?e1 ?e2 ?e3 _ h1).mono ?_); (case e1 => omega); (case e2 => rfl); (case e3 => rfl); rintro e w' ⟨rfl, rfl⟩) | (go_at_call 106; (with_reducible refine (follows_at s (i + 2) 128 191 _ _ _ _ ?f1 ?f2 ?f3 _ h2).mono ?_); (case f1 => omega); (case f2 => rfl); (case f3 => rfl); rintro e w' ⟨rfl, rfl⟩))
  go_ret2
  exact ⟨ret_two (by rw [HD.out]; rfl) (by rw [HD.out]; rfl), 0, rfl⟩
set_option maxRecDepth 100000 in
set_option maxHeartbeats 4000000 in
theorem rune_c224_2 (s : ByteArray) (hs : s.size ≤ maxLen) (i : Nat) (hi : i < s.size) (h : bAt s i = 224) (h1 : fol s (i + 1) 160 191 = true) (h2 : fol s (i + 2) 128 191 = true) (w : World) : Calls Tryz.prog 103 #[.string s, .int .i64 i] w (Told s i w) := by
  have hl : loF (bAt s i) = 160 := by unfold loF; repeat (first | rw [if_pos (by omega)] | rw [if_neg (by omega)])
  have hh : hiF (bAt s i) = 191 := by unfold hiF; repeat (first | rw [if_pos (by omega)] | rw [if_neg (by omega)])
  have HD := Lib.hid (dec_three (by omega) (by rw [hl, hh]; exact h1) h2)
  have e0 := bAt_eq s i hi
  have k1 := ((fol_iff ..).1 h1).1
  have HE1 := Lib.hid (bAt_eq s (i + 1) k1)
  have m1 := and_63 (s[i + 1]'k1)
  have k2 := ((fol_iff ..).1 h2).1
  have HE2 := Lib.hid (bAt_eq s (i + 2) k2)
  have m2 := and_63 (s[i + 2]'k2)
  unfold maxLen at hs
  have m0 := and_15 s[i]
  have l0 : (i : Int) < (s.size : Int) := by omega
  have q0 : (s[i].toNat : Int) = 224 := by omega
  have l1 : (i : Int) + 1 < (s.size : Int) := by omega
  have w1 : IntKind.i64.wrap ((i : Int) + 1) = (i : Int) + 1 := IntWalk.i64_in _ (by omega)
  have p1 : 0 ≤ (i : Int) + 1 := by omega
  have t1 : ((i : Int) + 1).toNat = i + 1 := by omega
  have l2 : (i : Int) + 2 < (s.size : Int) := by omega
  have w2 : IntKind.i64.wrap ((i : Int) + 2) = (i : Int) + 2 := IntWalk.i64_in _ (by omega)
  have p2 : 0 ≤ (i : Int) + 2 := by omega
  have t2 : ((i : Int) + 2).toNat = i + 2 := by omega
  have HE0 := Lib.hid e0
  clear e0 h hl hh
  go_enter Tryz.func103, Tryz.ntmps103
  go_wp2_with (first | (go_at_call 106; (with_reducible refine (follows_at s (i + 1) 160 191 _ _ _ _ ?e1 ?e2 ?e3 _ h1).mono ?_); (case e1 => omega); (case e2 => rfl); (case e3 => rfl); rintro e w' ⟨rfl, rfl⟩) | (go_at_call 106; (with_reducible refine (follows_at s (i + 2) 128 191 _ _ _ _ ?f1 ?f2 ?f3 _ h2).mono ?_); (case f1 => omega); (case f2 => rfl); (case f3 => rfl); rintro e w' ⟨rfl, rfl⟩))
  go_quiet (fail)
  go_wp2
  go_ret2
  exact ⟨ret_two (by rw [HD.out]; show _ = ((bAt s i % 16 * 4096 + bAt s (i + 1) % 64 * 64 + bAt s (i + 2) % 64 : Nat) : Int); have a0 := HE0.out; have a1 := HE1.out; have a2 := HE2.out; omega) (by rw [HD.out]; rfl), nq, rfl⟩
set_option maxRecDepth 100000 in
set_option maxHeartbeats 4000000 in
theorem rune_c237_0 (s : ByteArray) (hs : s.size ≤ maxLen) (i : Nat) (hi : i < s.size) (h : bAt s i = 237) (h1 : fol s (i + 1) 128 159 = false) (w : World) : Calls Tryz.prog 103 #[.string s, .int .i64 i] w (Told s i w) := by
  have hl : loF (bAt s i) = 128 := by unfold loF; repeat (first | rw [if_pos (by omega)] | rw [if_neg (by omega)])
  have hh : hiF (bAt s i) = 159 := by unfold hiF; repeat (first | rw [if_pos (by omega)] | rw [if_neg (by omega)])
  have HD : Hid (Utf8.decode s i = (65533, 1)) := by
    refine dec_bad (by omega) (fun x => by omega) (fun x => ?_) (fun x => ?_)
    · rw [hl, hh] at x; simp_all
    · rw [hl, hh] at x; omega
  have e0 := bAt_eq s i hi
  unfold maxLen at hs
  have l0 : (i : Int) < (s.size : Int) := by omega
  have q0 : (s[i].toNat : Int) = 237 := by omega
  have HE0 := Lib.hid e0
  clear e0 h hl hh
  go_enter Tryz.func103, Tryz.ntmps103
  go_wp2_with (first | (go_at_call 106; (with_reducible refine (follows_at s (i + 1) 128 159 _ _ _ _ ?e1 ?e2 ?e3 _ h1).mono ?_); (case e1 => omega); (case e2 => rfl); (case e3 => rfl); rintro e w' ⟨rfl, rfl⟩))
  go_ret2
  exact ⟨ret_two (by rw [HD.out]; rfl) (by rw [HD.out]; rfl), 0, rfl⟩
set_option maxRecDepth 100000 in
set_option maxHeartbeats 4000000 in
theorem rune_c237_1 (s : ByteArray) (hs : s.size ≤ maxLen) (i : Nat) (hi : i < s.size) (h : bAt s i = 237) (h1 : fol s (i + 1) 128 159 = true) (h2 : fol s (i + 2) 128 191 = false) (w : World) : Calls Tryz.prog 103 #[.string s, .int .i64 i] w (Told s i w) := by
  have hl : loF (bAt s i) = 128 := by unfold loF; repeat (first | rw [if_pos (by omega)] | rw [if_neg (by omega)])
  have hh : hiF (bAt s i) = 159 := by unfold hiF; repeat (first | rw [if_pos (by omega)] | rw [if_neg (by omega)])
  have HD : Hid (Utf8.decode s i = (65533, 1)) := by
    refine dec_bad (by omega) (fun x => by omega) (fun x => ?_) (fun x => ?_)
    · rw [hl, hh] at x; simp_all
    · rw [hl, hh] at x; omega
  have e0 := bAt_eq s i hi
  have k1 := ((fol_iff ..).1 h1).1
  unfold maxLen at hs
  have l0 : (i : Int) < (s.size : Int) := by omega
  have q0 : (s[i].toNat : Int) = 237 := by omega
  have HE0 := Lib.hid e0
  clear e0 h hl hh
  go_enter Tryz.func103, Tryz.ntmps103
  go_wp2_with (first | (go_at_call 106; (with_reducible refine (follows_at s (i + 1) 128 159 _ _ _ _ ?e1 ?e2 ?e3 _ h1).mono ?_); (case e1 => omega); (case e2 => rfl); (case e3 => rfl); rintro e w' ⟨rfl, rfl⟩) | (go_at_call 106; (with_reducible refine (follows_at s (i + 2) 128 191 _ _ _ _ ?f1 ?f2 ?f3 _ h2).mono ?_); (case f1 => omega); (case f2 => rfl); (case f3 => rfl); rintro e w' ⟨rfl, rfl⟩))
  go_ret2
  exact ⟨ret_two (by rw [HD.out]; rfl) (by rw [HD.out]; rfl), 0, rfl⟩
set_option maxRecDepth 100000 in
set_option maxHeartbeats 4000000 in
theorem rune_c237_2 (s : ByteArray) (hs : s.size ≤ maxLen) (i : Nat) (hi : i < s.size) (h : bAt s i = 237) (h1 : fol s (i + 1) 128 159 = true) (h2 : fol s (i + 2) 128 191 = true) (w : World) : Calls Tryz.prog 103 #[.string s, .int .i64 i] w (Told s i w) := by
  have hl : loF (bAt s i) = 128 := by unfold loF; repeat (first | rw [if_pos (by omega)] | rw [if_neg (by omega)])
  have hh : hiF (bAt s i) = 159 := by unfold hiF; repeat (first | rw [if_pos (by omega)] | rw [if_neg (by omega)])
  have HD := Lib.hid (dec_three (by omega) (by rw [hl, hh]; exact h1) h2)
  have e0 := bAt_eq s i hi
  have k1 := ((fol_iff ..).1 h1).1
  have HE1 := Lib.hid (bAt_eq s (i + 1) k1)
  have m1 := and_63 (s[i + 1]'k1)
  have k2 := ((fol_iff ..).1 h2).1
  have HE2 := Lib.hid (bAt_eq s (i + 2) k2)
  have m2 := and_63 (s[i + 2]'k2)
  unfold maxLen at hs
  have m0 := and_15 s[i]
  have l0 : (i : Int) < (s.size : Int) := by omega
  have q0 : (s[i].toNat : Int) = 237 := by omega
  have l1 : (i : Int) + 1 < (s.size : Int) := by omega
  have w1 : IntKind.i64.wrap ((i : Int) + 1) = (i : Int) + 1 := IntWalk.i64_in _ (by omega)
  have p1 : 0 ≤ (i : Int) + 1 := by omega
  have t1 : ((i : Int) + 1).toNat = i + 1 := by omega
  have l2 : (i : Int) + 2 < (s.size : Int) := by omega
  have w2 : IntKind.i64.wrap ((i : Int) + 2) = (i : Int) + 2 := IntWalk.i64_in _ (by omega)
  have p2 : 0 ≤ (i : Int) + 2 := by omega
  have t2 : ((i : Int) + 2).toNat = i + 2 := by omega
  have HE0 := Lib.hid e0
  clear e0 h hl hh
  go_enter Tryz.func103, Tryz.ntmps103
  go_wp2_with (first | (go_at_call 106; (with_reducible refine (follows_at s (i + 1) 128 159 _ _ _ _ ?e1 ?e2 ?e3 _ h1).mono ?_); (case e1 => omega); (case e2 => rfl); (case e3 => rfl); rintro e w' ⟨rfl, rfl⟩) | (go_at_call 106; (with_reducible refine (follows_at s (i + 2) 128 191 _ _ _ _ ?f1 ?f2 ?f3 _ h2).mono ?_); (case f1 => omega); (case f2 => rfl); (case f3 => rfl); rintro e w' ⟨rfl, rfl⟩))
  go_quiet (fail)
  go_wp2
  go_ret2
  exact ⟨ret_two (by rw [HD.out]; show _ = ((bAt s i % 16 * 4096 + bAt s (i + 1) % 64 * 64 + bAt s (i + 2) % 64 : Nat) : Int); have a0 := HE0.out; have a1 := HE1.out; have a2 := HE2.out; omega) (by rw [HD.out]; rfl), nq, rfl⟩
set_option maxRecDepth 100000 in
set_option maxHeartbeats 4000000 in
theorem rune_c3o_0 (s : ByteArray) (hs : s.size ≤ maxLen) (i : Nat) (hi : i < s.size) (h : 225 ≤ bAt s i ∧ bAt s i ≤ 239 ∧ bAt s i ≠ 237) (h1 : fol s (i + 1) 128 191 = false) (w : World) : Calls Tryz.prog 103 #[.string s, .int .i64 i] w (Told s i w) := by
  have hl : loF (bAt s i) = 128 := by unfold loF; repeat (first | rw [if_pos (by omega)] | rw [if_neg (by omega)])
  have hh : hiF (bAt s i) = 191 := by unfold hiF; repeat (first | rw [if_pos (by omega)] | rw [if_neg (by omega)])
  have HD : Hid (Utf8.decode s i = (65533, 1)) := by
    refine dec_bad (by omega) (fun x => by omega) (fun x => ?_) (fun x => ?_)
    · rw [hl, hh] at x; simp_all
    · rw [hl, hh] at x; omega
  have e0 := bAt_eq s i hi
  unfold maxLen at hs
  have l0 : (i : Int) < (s.size : Int) := by omega
  have q224 : ((s[i].toNat : Int) == 224) = false := by simp; omega
  have q237 : ((s[i].toNat : Int) == 237) = false := by simp; omega
  have q240 : ((s[i].toNat : Int) == 240) = false := by simp; omega
  have q244 : ((s[i].toNat : Int) == 244) = false := by simp; omega
  have d1 : decide ((s[i].toNat : Int) < 128) = false := by simp; omega
  have d2 : decide ((194 : Int) ≤ (s[i].toNat : Int)) = true := by simp; omega
  have d3 : decide ((s[i].toNat : Int) ≤ 223) = false := by simp; omega
  have d4 : decide ((224 : Int) ≤ (s[i].toNat : Int)) = true := by simp; omega
  have d5 : decide ((s[i].toNat : Int) ≤ 239) = true := by simp; omega
  have d6 : decide ((240 : Int) ≤ (s[i].toNat : Int)) = false := by simp; omega
  have HE0 := Lib.hid e0
  clear e0 h hl hh
  go_enter Tryz.func103, Tryz.ntmps103
  go_wp2_with (first | (go_at_call 106; (with_reducible refine (follows_at s (i + 1) 128 191 _ _ _ _ ?e1 ?e2 ?e3 _ h1).mono ?_); (case e1 => omega); (case e2 => rfl); (case e3 => rfl); rintro e w' ⟨rfl, rfl⟩))
  go_ret2
  exact ⟨ret_two (by rw [HD.out]; rfl) (by rw [HD.out]; rfl), 0, rfl⟩
set_option maxRecDepth 100000 in
set_option maxHeartbeats 4000000 in
theorem rune_c3o_1 (s : ByteArray) (hs : s.size ≤ maxLen) (i : Nat) (hi : i < s.size) (h : 225 ≤ bAt s i ∧ bAt s i ≤ 239 ∧ bAt s i ≠ 237) (h1 : fol s (i + 1) 128 191 = true) (h2 : fol s (i + 2) 128 191 = false) (w : World) : Calls Tryz.prog 103 #[.string s, .int .i64 i] w (Told s i w) := by
  have hl : loF (bAt s i) = 128 := by unfold loF; repeat (first | rw [if_pos (by omega)] | rw [if_neg (by omega)])
  have hh : hiF (bAt s i) = 191 := by unfold hiF; repeat (first | rw [if_pos (by omega)] | rw [if_neg (by omega)])
  have HD : Hid (Utf8.decode s i = (65533, 1)) := by
    refine dec_bad (by omega) (fun x => by omega) (fun x => ?_) (fun x => ?_)
    · rw [hl, hh] at x; simp_all
    · rw [hl, hh] at x; omega
  have e0 := bAt_eq s i hi
  have k1 := ((fol_iff ..).1 h1).1
  unfold maxLen at hs
  have l0 : (i : Int) < (s.size : Int) := by omega
  have q224 : ((s[i].toNat : Int) == 224) = false := by simp; omega
  have q237 : ((s[i].toNat : Int) == 237) = false := by simp; omega
  have q240 : ((s[i].toNat : Int) == 240) = false := by simp; omega
  have q244 : ((s[i].toNat : Int) == 244) = false := by simp; omega
  have d1 : decide ((s[i].toNat : Int) < 128) = false := by simp; omega
  have d2 : decide ((194 : Int) ≤ (s[i].toNat : Int)) = true := by simp; omega
  have d3 : decide ((s[i].toNat : Int) ≤ 223) = false := by simp; omega
  have d4 : decide ((224 : Int) ≤ (s[i].toNat : Int)) = true := by simp; omega
  have d5 : decide ((s[i].toNat : Int) ≤ 239) = true := by simp; omega
  have d6 : decide ((240 : Int) ≤ (s[i].toNat : Int)) = false := by simp; omega
  have HE0 := Lib.hid e0
  clear e0 h hl hh
  go_enter Tryz.func103, Tryz.ntmps103
  go_wp2_with (first | (go_at_call 106; (with_reducible refine (follows_at s (i + 1) 128 191 _ _ _ _ ?e1 ?e2 ?e3 _ h1).mono ?_); (case e1 => omega); (case e2 => rfl); (case e3 => rfl); rintro e w' ⟨rfl, rfl⟩) | (go_at_call 106; (with_reducible refine (follows_at s (i + 2) 128 191 _ _ _ _ ?f1 ?f2 ?f3 _ h2).mono ?_); (case f1 => omega); (case f2 => rfl); (case f3 => rfl); rintro e w' ⟨rfl, rfl⟩))
  go_ret2
  exact ⟨ret_two (by rw [HD.out]; rfl) (by rw [HD.out]; rfl), 0, rfl⟩
set_option maxRecDepth 100000 in
set_option maxHeartbeats 4000000 in
theorem rune_c3o_2 (s : ByteArray) (hs : s.size ≤ maxLen) (i : Nat) (hi : i < s.size) (h : 225 ≤ bAt s i ∧ bAt s i ≤ 239 ∧ bAt s i ≠ 237) (h1 : fol s (i + 1) 128 191 = true) (h2 : fol s (i + 2) 128 191 = true) (w : World) : Calls Tryz.prog 103 #[.string s, .int .i64 i] w (Told s i w) := by
  have hl : loF (bAt s i) = 128 := by unfold loF; repeat (first | rw [if_pos (by omega)] | rw [if_neg (by omega)])
  have hh : hiF (bAt s i) = 191 := by unfold hiF; repeat (first | rw [if_pos (by omega)] | rw [if_neg (by omega)])
  have HD := Lib.hid (dec_three (by omega) (by rw [hl, hh]; exact h1) h2)
  have e0 := bAt_eq s i hi
  have k1 := ((fol_iff ..).1 h1).1
  have HE1 := Lib.hid (bAt_eq s (i + 1) k1)
  have m1 := and_63 (s[i + 1]'k1)
  have k2 := ((fol_iff ..).1 h2).1
  have HE2 := Lib.hid (bAt_eq s (i + 2) k2)
  have m2 := and_63 (s[i + 2]'k2)
  unfold maxLen at hs
  have m0 := and_15 s[i]
  have l0 : (i : Int) < (s.size : Int) := by omega
  have q224 : ((s[i].toNat : Int) == 224) = false := by simp; omega
  have q237 : ((s[i].toNat : Int) == 237) = false := by simp; omega
  have q240 : ((s[i].toNat : Int) == 240) = false := by simp; omega
  have q244 : ((s[i].toNat : Int) == 244) = false := by simp; omega
  have d1 : decide ((s[i].toNat : Int) < 128) = false := by simp; omega
  have d2 : decide ((194 : Int) ≤ (s[i].toNat : Int)) = true := by simp; omega
  have d3 : decide ((s[i].toNat : Int) ≤ 223) = false := by simp; omega
  have d4 : decide ((224 : Int) ≤ (s[i].toNat : Int)) = true := by simp; omega
  have d5 : decide ((s[i].toNat : Int) ≤ 239) = true := by simp; omega
  have d6 : decide ((240 : Int) ≤ (s[i].toNat : Int)) = false := by simp; omega
  have l1 : (i : Int) + 1 < (s.size : Int) := by omega
  have w1 : IntKind.i64.wrap ((i : Int) + 1) = (i : Int) + 1 := IntWalk.i64_in _ (by omega)
  have p1 : 0 ≤ (i : Int) + 1 := by omega
  have t1 : ((i : Int) + 1).toNat = i + 1 := by omega
  have l2 : (i : Int) + 2 < (s.size : Int) := by omega
  have w2 : IntKind.i64.wrap ((i : Int) + 2) = (i : Int) + 2 := IntWalk.i64_in _ (by omega)
  have p2 : 0 ≤ (i : Int) + 2 := by omega
  have t2 : ((i : Int) + 2).toNat = i + 2 := by omega
  have HE0 := Lib.hid e0
  clear e0 h hl hh
  go_enter Tryz.func103, Tryz.ntmps103
  go_wp2_with (first | (go_at_call 106; (with_reducible refine (follows_at s (i + 1) 128 191 _ _ _ _ ?e1 ?e2 ?e3 _ h1).mono ?_); (case e1 => omega); (case e2 => rfl); (case e3 => rfl); rintro e w' ⟨rfl, rfl⟩) | (go_at_call 106; (with_reducible refine (follows_at s (i + 2) 128 191 _ _ _ _ ?f1 ?f2 ?f3 _ h2).mono ?_); (case f1 => omega); (case f2 => rfl); (case f3 => rfl); rintro e w' ⟨rfl, rfl⟩))
  go_quiet (fail)
  go_wp2
  go_ret2
  exact ⟨ret_two (by rw [HD.out]; show _ = ((bAt s i % 16 * 4096 + bAt s (i + 1) % 64 * 64 + bAt s (i + 2) % 64 : Nat) : Int); have a0 := HE0.out; have a1 := HE1.out; have a2 := HE2.out; omega) (by rw [HD.out]; rfl), nq, rfl⟩
set_option maxRecDepth 100000 in
set_option maxHeartbeats 4000000 in
theorem rune_c240_0 (s : ByteArray) (hs : s.size ≤ maxLen) (i : Nat) (hi : i < s.size) (h : bAt s i = 240) (h1 : fol s (i + 1) 144 191 = false) (w : World) : Calls Tryz.prog 103 #[.string s, .int .i64 i] w (Told s i w) := by
  have hl : loF (bAt s i) = 144 := by unfold loF; repeat (first | rw [if_pos (by omega)] | rw [if_neg (by omega)])
  have hh : hiF (bAt s i) = 191 := by unfold hiF; repeat (first | rw [if_pos (by omega)] | rw [if_neg (by omega)])
  have HD : Hid (Utf8.decode s i = (65533, 1)) := by
    refine dec_bad (by omega) (fun x => by omega) (fun x => ?_) (fun x => ?_)
    · rw [hl, hh] at x; omega
    · rw [hl, hh] at x; simp_all
  have e0 := bAt_eq s i hi
  unfold maxLen at hs
  have l0 : (i : Int) < (s.size : Int) := by omega
  have q0 : (s[i].toNat : Int) = 240 := by omega
  have HE0 := Lib.hid e0
  clear e0 h hl hh
  go_enter Tryz.func103, Tryz.ntmps103
  go_wp2_with (first | (go_at_call 106; (with_reducible refine (follows_at s (i + 1) 144 191 _ _ _ _ ?e1 ?e2 ?e3 _ h1).mono ?_); (case e1 => omega); (case e2 => rfl); (case e3 => rfl); rintro e w' ⟨rfl, rfl⟩))
  go_ret2
  exact ⟨ret_two (by rw [HD.out]; rfl) (by rw [HD.out]; rfl), 0, rfl⟩
set_option maxRecDepth 100000 in
set_option maxHeartbeats 4000000 in
theorem rune_c240_1 (s : ByteArray) (hs : s.size ≤ maxLen) (i : Nat) (hi : i < s.size) (h : bAt s i = 240) (h1 : fol s (i + 1) 144 191 = true) (h2 : fol s (i + 2) 128 191 = false) (w : World) : Calls Tryz.prog 103 #[.string s, .int .i64 i] w (Told s i w) := by
  have hl : loF (bAt s i) = 144 := by unfold loF; repeat (first | rw [if_pos (by omega)] | rw [if_neg (by omega)])
  have hh : hiF (bAt s i) = 191 := by unfold hiF; repeat (first | rw [if_pos (by omega)] | rw [if_neg (by omega)])
  have HD : Hid (Utf8.decode s i = (65533, 1)) := by
    refine dec_bad (by omega) (fun x => by omega) (fun x => ?_) (fun x => ?_)
    · rw [hl, hh] at x; omega
    · rw [hl, hh] at x; simp_all
  have e0 := bAt_eq s i hi
  have k1 := ((fol_iff ..).1 h1).1
  unfold maxLen at hs
  have l0 : (i : Int) < (s.size : Int) := by omega
  have q0 : (s[i].toNat : Int) = 240 := by omega
  have HE0 := Lib.hid e0
  clear e0 h hl hh
  go_enter Tryz.func103, Tryz.ntmps103
  go_wp2_with (first | (go_at_call 106; (with_reducible refine (follows_at s (i + 1) 144 191 _ _ _ _ ?e1 ?e2 ?e3 _ h1).mono ?_); (case e1 => omega); (case e2 => rfl); (case e3 => rfl); rintro e w' ⟨rfl, rfl⟩) | (go_at_call 106; (with_reducible refine (follows_at s (i + 2) 128 191 _ _ _ _ ?f1 ?f2 ?f3 _ h2).mono ?_); (case f1 => omega); (case f2 => rfl); (case f3 => rfl); rintro e w' ⟨rfl, rfl⟩))
  go_ret2
  exact ⟨ret_two (by rw [HD.out]; rfl) (by rw [HD.out]; rfl), 0, rfl⟩
set_option maxRecDepth 100000 in
set_option maxHeartbeats 4000000 in
theorem rune_c240_2 (s : ByteArray) (hs : s.size ≤ maxLen) (i : Nat) (hi : i < s.size) (h : bAt s i = 240) (h1 : fol s (i + 1) 144 191 = true) (h2 : fol s (i + 2) 128 191 = true) (h3 : fol s (i + 3) 128 191 = false) (w : World) : Calls Tryz.prog 103 #[.string s, .int .i64 i] w (Told s i w) := by
  have hl : loF (bAt s i) = 144 := by unfold loF; repeat (first | rw [if_pos (by omega)] | rw [if_neg (by omega)])
  have hh : hiF (bAt s i) = 191 := by unfold hiF; repeat (first | rw [if_pos (by omega)] | rw [if_neg (by omega)])
  have HD : Hid (Utf8.decode s i = (65533, 1)) := by
    refine dec_bad (by omega) (fun x => by omega) (fun x => ?_) (fun x => ?_)
    · rw [hl, hh] at x; omega
    · rw [hl, hh] at x; simp_all
  have e0 := bAt_eq s i hi
  have k1 := ((fol_iff ..).1 h1).1
  have k2 := ((fol_iff ..).1 h2).1
  unfold maxLen at hs
  have l0 : (i : Int) < (s.size : Int) := by omega
  have q0 : (s[i].toNat : Int) = 240 := by omega
  have HE0 := Lib.hid e0
  clear e0 h hl hh
  go_enter Tryz.func103, Tryz.ntmps103
  go_wp2_with (first | (go_at_call 106; (with_reducible refine (follows_at s (i + 1) 144 191 _ _ _ _ ?e1 ?e2 ?e3 _ h1).mono ?_); (case e1 => omega); (case e2 => rfl); (case e3 => rfl); rintro e w' ⟨rfl, rfl⟩) | (go_at_call 106; (with_reducible refine (follows_at s (i + 2) 128 191 _ _ _ _ ?f1 ?f2 ?f3 _ h2).mono ?_); (case f1 => omega); (case f2 => rfl); (case f3 => rfl); rintro e w' ⟨rfl, rfl⟩) | (go_at_call 106; (with_reducible refine (follows_at s (i + 3) 128 191 _ _ _ _ ?g1 ?g2 ?g3 _ h3).mono ?_); (case g1 => omega); (case g2 => rfl); (case g3 => rfl); rintro e w' ⟨rfl, rfl⟩))
  go_ret2
  exact ⟨ret_two (by rw [HD.out]; rfl) (by rw [HD.out]; rfl), 0, rfl⟩
set_option maxRecDepth 100000 in
set_option maxHeartbeats 4000000 in
theorem rune_c240_3 (s : ByteArray) (hs : s.size ≤ maxLen) (i : Nat) (hi : i < s.size) (h : bAt s i = 240) (h1 : fol s (i + 1) 144 191 = true) (h2 : fol s (i + 2) 128 191 = true) (h3 : fol s (i + 3) 128 191 = true) (w : World) : Calls Tryz.prog 103 #[.string s, .int .i64 i] w (Told s i w) := by
  have hl : loF (bAt s i) = 144 := by unfold loF; repeat (first | rw [if_pos (by omega)] | rw [if_neg (by omega)])
  have hh : hiF (bAt s i) = 191 := by unfold hiF; repeat (first | rw [if_pos (by omega)] | rw [if_neg (by omega)])
  have HD := Lib.hid (dec_four (by omega) (by rw [hl, hh]; exact h1) h2 h3)
  have e0 := bAt_eq s i hi
  have k1 := ((fol_iff ..).1 h1).1
  have HE1 := Lib.hid (bAt_eq s (i + 1) k1)
  have m1 := and_63 (s[i + 1]'k1)
  have k2 := ((fol_iff ..).1 h2).1
  have HE2 := Lib.hid (bAt_eq s (i + 2) k2)
  have m2 := and_63 (s[i + 2]'k2)
  have k3 := ((fol_iff ..).1 h3).1
  have HE3 := Lib.hid (bAt_eq s (i + 3) k3)
  have m3 := and_63 (s[i + 3]'k3)
  unfold maxLen at hs
  have m0 := and_7 s[i]
  have l0 : (i : Int) < (s.size : Int) := by omega
  have q0 : (s[i].toNat : Int) = 240 := by omega
  have l1 : (i : Int) + 1 < (s.size : Int) := by omega
  have w1 : IntKind.i64.wrap ((i : Int) + 1) = (i : Int) + 1 := IntWalk.i64_in _ (by omega)
  have p1 : 0 ≤ (i : Int) + 1 := by omega
  have t1 : ((i : Int) + 1).toNat = i + 1 := by omega
  have l2 : (i : Int) + 2 < (s.size : Int) := by omega
  have w2 : IntKind.i64.wrap ((i : Int) + 2) = (i : Int) + 2 := IntWalk.i64_in _ (by omega)
  have p2 : 0 ≤ (i : Int) + 2 := by omega
  have t2 : ((i : Int) + 2).toNat = i + 2 := by omega
  have l3 : (i : Int) + 3 < (s.size : Int) := by omega
  have w3 : IntKind.i64.wrap ((i : Int) + 3) = (i : Int) + 3 := IntWalk.i64_in _ (by omega)
  have p3 : 0 ≤ (i : Int) + 3 := by omega
  have t3 : ((i : Int) + 3).toNat = i + 3 := by omega
  have HE0 := Lib.hid e0
  clear e0 h hl hh
  go_enter Tryz.func103, Tryz.ntmps103
  go_wp2_with (first | (go_at_call 106; (with_reducible refine (follows_at s (i + 1) 144 191 _ _ _ _ ?e1 ?e2 ?e3 _ h1).mono ?_); (case e1 => omega); (case e2 => rfl); (case e3 => rfl); rintro e w' ⟨rfl, rfl⟩) | (go_at_call 106; (with_reducible refine (follows_at s (i + 2) 128 191 _ _ _ _ ?f1 ?f2 ?f3 _ h2).mono ?_); (case f1 => omega); (case f2 => rfl); (case f3 => rfl); rintro e w' ⟨rfl, rfl⟩) | (go_at_call 106; (with_reducible refine (follows_at s (i + 3) 128 191 _ _ _ _ ?g1 ?g2 ?g3 _ h3).mono ?_); (case g1 => omega); (case g2 => rfl); (case g3 => rfl); rintro e w' ⟨rfl, rfl⟩))
  go_quiet (fail)
  go_wp2
  go_ret2
  exact ⟨ret_two (by rw [HD.out]; show _ = ((bAt s i % 8 * 262144 + bAt s (i + 1) % 64 * 4096 + bAt s (i + 2) % 64 * 64 + bAt s (i + 3) % 64 : Nat) : Int); have a0 := HE0.out; have a1 := HE1.out; have a2 := HE2.out; have a3 := HE3.out; omega) (by rw [HD.out]; rfl), nq, rfl⟩
set_option maxRecDepth 100000 in
set_option maxHeartbeats 4000000 in
theorem rune_c244_0 (s : ByteArray) (hs : s.size ≤ maxLen) (i : Nat) (hi : i < s.size) (h : bAt s i = 244) (h1 : fol s (i + 1) 128 143 = false) (w : World) : Calls Tryz.prog 103 #[.string s, .int .i64 i] w (Told s i w) := by
  have hl : loF (bAt s i) = 128 := by unfold loF; repeat (first | rw [if_pos (by omega)] | rw [if_neg (by omega)])
  have hh : hiF (bAt s i) = 143 := by unfold hiF; repeat (first | rw [if_pos (by omega)] | rw [if_neg (by omega)])
  have HD : Hid (Utf8.decode s i = (65533, 1)) := by
    refine dec_bad (by omega) (fun x => by omega) (fun x => ?_) (fun x => ?_)
    · rw [hl, hh] at x; omega
    · rw [hl, hh] at x; simp_all
  have e0 := bAt_eq s i hi
  unfold maxLen at hs
  have l0 : (i : Int) < (s.size : Int) := by omega
  have q0 : (s[i].toNat : Int) = 244 := by omega
  have HE0 := Lib.hid e0
  clear e0 h hl hh
  go_enter Tryz.func103, Tryz.ntmps103
  go_wp2_with (first | (go_at_call 106; (with_reducible refine (follows_at s (i + 1) 128 143 _ _ _ _ ?e1 ?e2 ?e3 _ h1).mono ?_); (case e1 => omega); (case e2 => rfl); (case e3 => rfl); rintro e w' ⟨rfl, rfl⟩))
  go_ret2
  exact ⟨ret_two (by rw [HD.out]; rfl) (by rw [HD.out]; rfl), 0, rfl⟩
set_option maxRecDepth 100000 in
set_option maxHeartbeats 4000000 in
theorem rune_c244_1 (s : ByteArray) (hs : s.size ≤ maxLen) (i : Nat) (hi : i < s.size) (h : bAt s i = 244) (h1 : fol s (i + 1) 128 143 = true) (h2 : fol s (i + 2) 128 191 = false) (w : World) : Calls Tryz.prog 103 #[.string s, .int .i64 i] w (Told s i w) := by
  have hl : loF (bAt s i) = 128 := by unfold loF; repeat (first | rw [if_pos (by omega)] | rw [if_neg (by omega)])
  have hh : hiF (bAt s i) = 143 := by unfold hiF; repeat (first | rw [if_pos (by omega)] | rw [if_neg (by omega)])
  have HD : Hid (Utf8.decode s i = (65533, 1)) := by
    refine dec_bad (by omega) (fun x => by omega) (fun x => ?_) (fun x => ?_)
    · rw [hl, hh] at x; omega
    · rw [hl, hh] at x; simp_all
  have e0 := bAt_eq s i hi
  have k1 := ((fol_iff ..).1 h1).1
  unfold maxLen at hs
  have l0 : (i : Int) < (s.size : Int) := by omega
  have q0 : (s[i].toNat : Int) = 244 := by omega
  have HE0 := Lib.hid e0
  clear e0 h hl hh
  go_enter Tryz.func103, Tryz.ntmps103
  go_wp2_with (first | (go_at_call 106; (with_reducible refine (follows_at s (i + 1) 128 143 _ _ _ _ ?e1 ?e2 ?e3 _ h1).mono ?_); (case e1 => omega); (case e2 => rfl); (case e3 => rfl); rintro e w' ⟨rfl, rfl⟩) | (go_at_call 106; (with_reducible refine (follows_at s (i + 2) 128 191 _ _ _ _ ?f1 ?f2 ?f3 _ h2).mono ?_); (case f1 => omega); (case f2 => rfl); (case f3 => rfl); rintro e w' ⟨rfl, rfl⟩))
  go_ret2
  exact ⟨ret_two (by rw [HD.out]; rfl) (by rw [HD.out]; rfl), 0, rfl⟩
set_option maxRecDepth 100000 in
set_option maxHeartbeats 4000000 in
theorem rune_c244_2 (s : ByteArray) (hs : s.size ≤ maxLen) (i : Nat) (hi : i < s.size) (h : bAt s i = 244) (h1 : fol s (i + 1) 128 143 = true) (h2 : fol s (i + 2) 128 191 = true) (h3 : fol s (i + 3) 128 191 = false) (w : World) : Calls Tryz.prog 103 #[.string s, .int .i64 i] w (Told s i w) := by
  have hl : loF (bAt s i) = 128 := by unfold loF; repeat (first | rw [if_pos (by omega)] | rw [if_neg (by omega)])
  have hh : hiF (bAt s i) = 143 := by unfold hiF; repeat (first | rw [if_pos (by omega)] | rw [if_neg (by omega)])
  have HD : Hid (Utf8.decode s i = (65533, 1)) := by
    refine dec_bad (by omega) (fun x => by omega) (fun x => ?_) (fun x => ?_)
    · rw [hl, hh] at x; omega
    · rw [hl, hh] at x; simp_all
  have e0 := bAt_eq s i hi
  have k1 := ((fol_iff ..).1 h1).1
  have k2 := ((fol_iff ..).1 h2).1
  unfold maxLen at hs
  have l0 : (i : Int) < (s.size : Int) := by omega
  have q0 : (s[i].toNat : Int) = 244 := by omega
  have HE0 := Lib.hid e0
  clear e0 h hl hh
  go_enter Tryz.func103, Tryz.ntmps103
  go_wp2_with (first | (go_at_call 106; (with_reducible refine (follows_at s (i + 1) 128 143 _ _ _ _ ?e1 ?e2 ?e3 _ h1).mono ?_); (case e1 => omega); (case e2 => rfl); (case e3 => rfl); rintro e w' ⟨rfl, rfl⟩) | (go_at_call 106; (with_reducible refine (follows_at s (i + 2) 128 191 _ _ _ _ ?f1 ?f2 ?f3 _ h2).mono ?_); (case f1 => omega); (case f2 => rfl); (case f3 => rfl); rintro e w' ⟨rfl, rfl⟩) | (go_at_call 106; (with_reducible refine (follows_at s (i + 3) 128 191 _ _ _ _ ?g1 ?g2 ?g3 _ h3).mono ?_); (case g1 => omega); (case g2 => rfl); (case g3 => rfl); rintro e w' ⟨rfl, rfl⟩))
  go_ret2
  exact ⟨ret_two (by rw [HD.out]; rfl) (by rw [HD.out]; rfl), 0, rfl⟩
set_option maxRecDepth 100000 in
set_option maxHeartbeats 4000000 in
theorem rune_c244_3 (s : ByteArray) (hs : s.size ≤ maxLen) (i : Nat) (hi : i < s.size) (h : bAt s i = 244) (h1 : fol s (i + 1) 128 143 = true) (h2 : fol s (i + 2) 128 191 = true) (h3 : fol s (i + 3) 128 191 = true) (w : World) : Calls Tryz.prog 103 #[.string s, .int .i64 i] w (Told s i w) := by
  have hl : loF (bAt s i) = 128 := by unfold loF; repeat (first | rw [if_pos (by omega)] | rw [if_neg (by omega)])
  have hh : hiF (bAt s i) = 143 := by unfold hiF; repeat (first | rw [if_pos (by omega)] | rw [if_neg (by omega)])
  have HD := Lib.hid (dec_four (by omega) (by rw [hl, hh]; exact h1) h2 h3)
  have e0 := bAt_eq s i hi
  have k1 := ((fol_iff ..).1 h1).1
  have HE1 := Lib.hid (bAt_eq s (i + 1) k1)
  have m1 := and_63 (s[i + 1]'k1)
  have k2 := ((fol_iff ..).1 h2).1
  have HE2 := Lib.hid (bAt_eq s (i + 2) k2)
  have m2 := and_63 (s[i + 2]'k2)
  have k3 := ((fol_iff ..).1 h3).1
  have HE3 := Lib.hid (bAt_eq s (i + 3) k3)
  have m3 := and_63 (s[i + 3]'k3)
  unfold maxLen at hs
  have m0 := and_7 s[i]
  have l0 : (i : Int) < (s.size : Int) := by omega
  have q0 : (s[i].toNat : Int) = 244 := by omega
  have l1 : (i : Int) + 1 < (s.size : Int) := by omega
  have w1 : IntKind.i64.wrap ((i : Int) + 1) = (i : Int) + 1 := IntWalk.i64_in _ (by omega)
  have p1 : 0 ≤ (i : Int) + 1 := by omega
  have t1 : ((i : Int) + 1).toNat = i + 1 := by omega
  have l2 : (i : Int) + 2 < (s.size : Int) := by omega
  have w2 : IntKind.i64.wrap ((i : Int) + 2) = (i : Int) + 2 := IntWalk.i64_in _ (by omega)
  have p2 : 0 ≤ (i : Int) + 2 := by omega
  have t2 : ((i : Int) + 2).toNat = i + 2 := by omega
  have l3 : (i : Int) + 3 < (s.size : Int) := by omega
  have w3 : IntKind.i64.wrap ((i : Int) + 3) = (i : Int) + 3 := IntWalk.i64_in _ (by omega)
  have p3 : 0 ≤ (i : Int) + 3 := by omega
  have t3 : ((i : Int) + 3).toNat = i + 3 := by omega
  have HE0 := Lib.hid e0
  clear e0 h hl hh
  go_enter Tryz.func103, Tryz.ntmps103
  go_wp2_with (first | (go_at_call 106; (with_reducible refine (follows_at s (i + 1) 128 143 _ _ _ _ ?e1 ?e2 ?e3 _ h1).mono ?_); (case e1 => omega); (case e2 => rfl); (case e3 => rfl); rintro e w' ⟨rfl, rfl⟩) | (go_at_call 106; (with_reducible refine (follows_at s (i + 2) 128 191 _ _ _ _ ?f1 ?f2 ?f3 _ h2).mono ?_); (case f1 => omega); (case f2 => rfl); (case f3 => rfl); rintro e w' ⟨rfl, rfl⟩) | (go_at_call 106; (with_reducible refine (follows_at s (i + 3) 128 191 _ _ _ _ ?g1 ?g2 ?g3 _ h3).mono ?_); (case g1 => omega); (case g2 => rfl); (case g3 => rfl); rintro e w' ⟨rfl, rfl⟩))
  go_quiet (fail)
  go_wp2
  go_ret2
  exact ⟨ret_two (by rw [HD.out]; show _ = ((bAt s i % 8 * 262144 + bAt s (i + 1) % 64 * 4096 + bAt s (i + 2) % 64 * 64 + bAt s (i + 3) % 64 : Nat) : Int); have a0 := HE0.out; have a1 := HE1.out; have a2 := HE2.out; have a3 := HE3.out; omega) (by rw [HD.out]; rfl), nq, rfl⟩
set_option maxRecDepth 100000 in
set_option maxHeartbeats 4000000 in
theorem rune_c4o_0 (s : ByteArray) (hs : s.size ≤ maxLen) (i : Nat) (hi : i < s.size) (h : 241 ≤ bAt s i ∧ bAt s i ≤ 243) (h1 : fol s (i + 1) 128 191 = false) (w : World) : Calls Tryz.prog 103 #[.string s, .int .i64 i] w (Told s i w) := by
  have hl : loF (bAt s i) = 128 := by unfold loF; repeat (first | rw [if_pos (by omega)] | rw [if_neg (by omega)])
  have hh : hiF (bAt s i) = 191 := by unfold hiF; repeat (first | rw [if_pos (by omega)] | rw [if_neg (by omega)])
  have HD : Hid (Utf8.decode s i = (65533, 1)) := by
    refine dec_bad (by omega) (fun x => by omega) (fun x => ?_) (fun x => ?_)
    · rw [hl, hh] at x; omega
    · rw [hl, hh] at x; simp_all
  have e0 := bAt_eq s i hi
  unfold maxLen at hs
  have l0 : (i : Int) < (s.size : Int) := by omega
  have q224 : ((s[i].toNat : Int) == 224) = false := by simp; omega
  have q237 : ((s[i].toNat : Int) == 237) = false := by simp; omega
  have q240 : ((s[i].toNat : Int) == 240) = false := by simp; omega
  have q244 : ((s[i].toNat : Int) == 244) = false := by simp; omega
  have d1 : decide ((s[i].toNat : Int) < 128) = false := by simp; omega
  have d2 : decide ((194 : Int) ≤ (s[i].toNat : Int)) = true := by simp; omega
  have d3 : decide ((s[i].toNat : Int) ≤ 223) = false := by simp; omega
  have d4 : decide ((224 : Int) ≤ (s[i].toNat : Int)) = true := by simp; omega
  have d5 : decide ((s[i].toNat : Int) ≤ 239) = false := by simp; omega
  have d6 : decide ((240 : Int) ≤ (s[i].toNat : Int)) = true := by simp; omega
  have d7 : decide ((s[i].toNat : Int) ≤ 244) = true := by simp; omega
  have HE0 := Lib.hid e0
  clear e0 h hl hh
  go_enter Tryz.func103, Tryz.ntmps103
  go_wp2_with (first | (go_at_call 106; (with_reducible refine (follows_at s (i + 1) 128 191 _ _ _ _ ?e1 ?e2 ?e3 _ h1).mono ?_); (case e1 => omega); (case e2 => rfl); (case e3 => rfl); rintro e w' ⟨rfl, rfl⟩))
  go_ret2
  exact ⟨ret_two (by rw [HD.out]; rfl) (by rw [HD.out]; rfl), 0, rfl⟩
set_option maxRecDepth 100000 in
set_option maxHeartbeats 4000000 in
theorem rune_c4o_1 (s : ByteArray) (hs : s.size ≤ maxLen) (i : Nat) (hi : i < s.size) (h : 241 ≤ bAt s i ∧ bAt s i ≤ 243) (h1 : fol s (i + 1) 128 191 = true) (h2 : fol s (i + 2) 128 191 = false) (w : World) : Calls Tryz.prog 103 #[.string s, .int .i64 i] w (Told s i w) := by
  have hl : loF (bAt s i) = 128 := by unfold loF; repeat (first | rw [if_pos (by omega)] | rw [if_neg (by omega)])
  have hh : hiF (bAt s i) = 191 := by unfold hiF; repeat (first | rw [if_pos (by omega)] | rw [if_neg (by omega)])
  have HD : Hid (Utf8.decode s i = (65533, 1)) := by
    refine dec_bad (by omega) (fun x => by omega) (fun x => ?_) (fun x => ?_)
    · rw [hl, hh] at x; omega
    · rw [hl, hh] at x; simp_all
  have e0 := bAt_eq s i hi
  have k1 := ((fol_iff ..).1 h1).1
  unfold maxLen at hs
  have l0 : (i : Int) < (s.size : Int) := by omega
  have q224 : ((s[i].toNat : Int) == 224) = false := by simp; omega
  have q237 : ((s[i].toNat : Int) == 237) = false := by simp; omega
  have q240 : ((s[i].toNat : Int) == 240) = false := by simp; omega
  have q244 : ((s[i].toNat : Int) == 244) = false := by simp; omega
  have d1 : decide ((s[i].toNat : Int) < 128) = false := by simp; omega
  have d2 : decide ((194 : Int) ≤ (s[i].toNat : Int)) = true := by simp; omega
  have d3 : decide ((s[i].toNat : Int) ≤ 223) = false := by simp; omega
  have d4 : decide ((224 : Int) ≤ (s[i].toNat : Int)) = true := by simp; omega
  have d5 : decide ((s[i].toNat : Int) ≤ 239) = false := by simp; omega
  have d6 : decide ((240 : Int) ≤ (s[i].toNat : Int)) = true := by simp; omega
  have d7 : decide ((s[i].toNat : Int) ≤ 244) = true := by simp; omega
  have HE0 := Lib.hid e0
  clear e0 h hl hh
  go_enter Tryz.func103, Tryz.ntmps103
  go_wp2_with (first | (go_at_call 106; (with_reducible refine (follows_at s (i + 1) 128 191 _ _ _ _ ?e1 ?e2 ?e3 _ h1).mono ?_); (case e1 => omega); (case e2 => rfl); (case e3 => rfl); rintro e w' ⟨rfl, rfl⟩) | (go_at_call 106; (with_reducible refine (follows_at s (i + 2) 128 191 _ _ _ _ ?f1 ?f2 ?f3 _ h2).mono ?_); (case f1 => omega); (case f2 => rfl); (case f3 => rfl); rintro e w' ⟨rfl, rfl⟩))
  go_ret2
  exact ⟨ret_two (by rw [HD.out]; rfl) (by rw [HD.out]; rfl), 0, rfl⟩
set_option maxRecDepth 100000 in
set_option maxHeartbeats 4000000 in
theorem rune_c4o_2 (s : ByteArray) (hs : s.size ≤ maxLen) (i : Nat) (hi : i < s.size) (h : 241 ≤ bAt s i ∧ bAt s i ≤ 243) (h1 : fol s (i + 1) 128 191 = true) (h2 : fol s (i + 2) 128 191 = true) (h3 : fol s (i + 3) 128 191 = false) (w : World) : Calls Tryz.prog 103 #[.string s, .int .i64 i] w (Told s i w) := by
  have hl : loF (bAt s i) = 128 := by unfold loF; repeat (first | rw [if_pos (by omega)] | rw [if_neg (by omega)])
  have hh : hiF (bAt s i) = 191 := by unfold hiF; repeat (first | rw [if_pos (by omega)] | rw [if_neg (by omega)])
  have HD : Hid (Utf8.decode s i = (65533, 1)) := by
    refine dec_bad (by omega) (fun x => by omega) (fun x => ?_) (fun x => ?_)
    · rw [hl, hh] at x; omega
    · rw [hl, hh] at x; simp_all
  have e0 := bAt_eq s i hi
  have k1 := ((fol_iff ..).1 h1).1
  have k2 := ((fol_iff ..).1 h2).1
  unfold maxLen at hs
  have l0 : (i : Int) < (s.size : Int) := by omega
  have q224 : ((s[i].toNat : Int) == 224) = false := by simp; omega
  have q237 : ((s[i].toNat : Int) == 237) = false := by simp; omega
  have q240 : ((s[i].toNat : Int) == 240) = false := by simp; omega
  have q244 : ((s[i].toNat : Int) == 244) = false := by simp; omega
  have d1 : decide ((s[i].toNat : Int) < 128) = false := by simp; omega
  have d2 : decide ((194 : Int) ≤ (s[i].toNat : Int)) = true := by simp; omega
  have d3 : decide ((s[i].toNat : Int) ≤ 223) = false := by simp; omega
  have d4 : decide ((224 : Int) ≤ (s[i].toNat : Int)) = true := by simp; omega
  have d5 : decide ((s[i].toNat : Int) ≤ 239) = false := by simp; omega
  have d6 : decide ((240 : Int) ≤ (s[i].toNat : Int)) = true := by simp; omega
  have d7 : decide ((s[i].toNat : Int) ≤ 244) = true := by simp; omega
  have HE0 := Lib.hid e0
  clear e0 h hl hh
  go_enter Tryz.func103, Tryz.ntmps103
  go_wp2_with (first | (go_at_call 106; (with_reducible refine (follows_at s (i + 1) 128 191 _ _ _ _ ?e1 ?e2 ?e3 _ h1).mono ?_); (case e1 => omega); (case e2 => rfl); (case e3 => rfl); rintro e w' ⟨rfl, rfl⟩) | (go_at_call 106; (with_reducible refine (follows_at s (i + 2) 128 191 _ _ _ _ ?f1 ?f2 ?f3 _ h2).mono ?_); (case f1 => omega); (case f2 => rfl); (case f3 => rfl); rintro e w' ⟨rfl, rfl⟩) | (go_at_call 106; (with_reducible refine (follows_at s (i + 3) 128 191 _ _ _ _ ?g1 ?g2 ?g3 _ h3).mono ?_); (case g1 => omega); (case g2 => rfl); (case g3 => rfl); rintro e w' ⟨rfl, rfl⟩))
  go_ret2
  exact ⟨ret_two (by rw [HD.out]; rfl) (by rw [HD.out]; rfl), 0, rfl⟩
set_option maxRecDepth 100000 in
set_option maxHeartbeats 4000000 in
theorem rune_c4o_3 (s : ByteArray) (hs : s.size ≤ maxLen) (i : Nat) (hi : i < s.size) (h : 241 ≤ bAt s i ∧ bAt s i ≤ 243) (h1 : fol s (i + 1) 128 191 = true) (h2 : fol s (i + 2) 128 191 = true) (h3 : fol s (i + 3) 128 191 = true) (w : World) : Calls Tryz.prog 103 #[.string s, .int .i64 i] w (Told s i w) := by
  have hl : loF (bAt s i) = 128 := by unfold loF; repeat (first | rw [if_pos (by omega)] | rw [if_neg (by omega)])
  have hh : hiF (bAt s i) = 191 := by unfold hiF; repeat (first | rw [if_pos (by omega)] | rw [if_neg (by omega)])
  have HD := Lib.hid (dec_four (by omega) (by rw [hl, hh]; exact h1) h2 h3)
  have e0 := bAt_eq s i hi
  have k1 := ((fol_iff ..).1 h1).1
  have HE1 := Lib.hid (bAt_eq s (i + 1) k1)
  have m1 := and_63 (s[i + 1]'k1)
  have k2 := ((fol_iff ..).1 h2).1
  have HE2 := Lib.hid (bAt_eq s (i + 2) k2)
  have m2 := and_63 (s[i + 2]'k2)
  have k3 := ((fol_iff ..).1 h3).1
  have HE3 := Lib.hid (bAt_eq s (i + 3) k3)
  have m3 := and_63 (s[i + 3]'k3)
  unfold maxLen at hs
  have m0 := and_7 s[i]
  have l0 : (i : Int) < (s.size : Int) := by omega
  have q224 : ((s[i].toNat : Int) == 224) = false := by simp; omega
  have q237 : ((s[i].toNat : Int) == 237) = false := by simp; omega
  have q240 : ((s[i].toNat : Int) == 240) = false := by simp; omega
  have q244 : ((s[i].toNat : Int) == 244) = false := by simp; omega
  have d1 : decide ((s[i].toNat : Int) < 128) = false := by simp; omega
  have d2 : decide ((194 : Int) ≤ (s[i].toNat : Int)) = true := by simp; omega
  have d3 : decide ((s[i].toNat : Int) ≤ 223) = false := by simp; omega
  have d4 : decide ((224 : Int) ≤ (s[i].toNat : Int)) = true := by simp; omega
  have d5 : decide ((s[i].toNat : Int) ≤ 239) = false := by simp; omega
  have d6 : decide ((240 : Int) ≤ (s[i].toNat : Int)) = true := by simp; omega
  have d7 : decide ((s[i].toNat : Int) ≤ 244) = true := by simp; omega
  have l1 : (i : Int) + 1 < (s.size : Int) := by omega
  have w1 : IntKind.i64.wrap ((i : Int) + 1) = (i : Int) + 1 := IntWalk.i64_in _ (by omega)
  have p1 : 0 ≤ (i : Int) + 1 := by omega
  have t1 : ((i : Int) + 1).toNat = i + 1 := by omega
  have l2 : (i : Int) + 2 < (s.size : Int) := by omega
  have w2 : IntKind.i64.wrap ((i : Int) + 2) = (i : Int) + 2 := IntWalk.i64_in _ (by omega)
  have p2 : 0 ≤ (i : Int) + 2 := by omega
  have t2 : ((i : Int) + 2).toNat = i + 2 := by omega
  have l3 : (i : Int) + 3 < (s.size : Int) := by omega
  have w3 : IntKind.i64.wrap ((i : Int) + 3) = (i : Int) + 3 := IntWalk.i64_in _ (by omega)
  have p3 : 0 ≤ (i : Int) + 3 := by omega
  have t3 : ((i : Int) + 3).toNat = i + 3 := by omega
  have HE0 := Lib.hid e0
  clear e0 h hl hh
  go_enter Tryz.func103, Tryz.ntmps103
  go_wp2_with (first | (go_at_call 106; (with_reducible refine (follows_at s (i + 1) 128 191 _ _ _ _ ?e1 ?e2 ?e3 _ h1).mono ?_); (case e1 => omega); (case e2 => rfl); (case e3 => rfl); rintro e w' ⟨rfl, rfl⟩) | (go_at_call 106; (with_reducible refine (follows_at s (i + 2) 128 191 _ _ _ _ ?f1 ?f2 ?f3 _ h2).mono ?_); (case f1 => omega); (case f2 => rfl); (case f3 => rfl); rintro e w' ⟨rfl, rfl⟩) | (go_at_call 106; (with_reducible refine (follows_at s (i + 3) 128 191 _ _ _ _ ?g1 ?g2 ?g3 _ h3).mono ?_); (case g1 => omega); (case g2 => rfl); (case g3 => rfl); rintro e w' ⟨rfl, rfl⟩))
  go_quiet (fail)
  go_wp2
  go_ret2
  exact ⟨ret_two (by rw [HD.out]; show _ = ((bAt s i % 8 * 262144 + bAt s (i + 1) % 64 * 4096 + bAt s (i + 2) % 64 * 64 + bAt s (i + 3) % 64 : Nat) : Int); have a0 := HE0.out; have a1 := HE1.out; have a2 := HE2.out; have a3 := HE3.out; omega) (by rw [HD.out]; rfl), nq, rfl⟩
set_option maxRecDepth 100000 in
set_option maxHeartbeats 4000000 in
theorem rune_low (s : ByteArray) (i : Nat) (hi : i < s.size) (h : 128 ≤ bAt s i ∧ bAt s i ≤ 193) (w : World) : Calls Tryz.prog 103 #[.string s, .int .i64 i] w (Told s i w) := by
  have HD : Hid (Utf8.decode s i = (65533, 1)) := dec_bad (by omega) (fun x => by omega) (fun x => by omega) (fun x => by omega)
  have e0 := bAt_eq s i hi
  have l0 : (i : Int) < (s.size : Int) := by omega
  have q224 : ((s[i].toNat : Int) == 224) = false := by simp; omega
  have q237 : ((s[i].toNat : Int) == 237) = false := by simp; omega
  have q240 : ((s[i].toNat : Int) == 240) = false := by simp; omega
  have q244 : ((s[i].toNat : Int) == 244) = false := by simp; omega
  have d1 : decide ((s[i].toNat : Int) < 128) = false := by simp; omega
  have d2 : decide ((194 : Int) ≤ (s[i].toNat : Int)) = false := by simp; omega
  have d3 : decide ((s[i].toNat : Int) ≤ 223) = true := by simp; omega
  have d4 : decide ((224 : Int) ≤ (s[i].toNat : Int)) = false := by simp; omega
  have d5 : decide ((s[i].toNat : Int) ≤ 239) = true := by simp; omega
  have d6 : decide ((240 : Int) ≤ (s[i].toNat : Int)) = false := by simp; omega
  have d7 : decide ((s[i].toNat : Int) ≤ 244) = true := by simp; omega
  clear e0 h
  go_enter Tryz.func103, Tryz.ntmps103
  go_wp2
  go_ret2
  exact ⟨ret_two (by rw [HD.out]; rfl) (by rw [HD.out]; rfl), 0, rfl⟩
set_option maxRecDepth 100000 in
set_option maxHeartbeats 4000000 in
theorem rune_high (s : ByteArray) (i : Nat) (hi : i < s.size) (h : 245 ≤ bAt s i) (w : World) : Calls Tryz.prog 103 #[.string s, .int .i64 i] w (Told s i w) := by
  have HD : Hid (Utf8.decode s i = (65533, 1)) := dec_bad (by omega) (fun x => by omega) (fun x => by omega) (fun x => by omega)
  have e0 := bAt_eq s i hi
  have l0 : (i : Int) < (s.size : Int) := by omega
  have q224 : ((s[i].toNat : Int) == 224) = false := by simp; omega
  have q237 : ((s[i].toNat : Int) == 237) = false := by simp; omega
  have q240 : ((s[i].toNat : Int) == 240) = false := by simp; omega
  have q244 : ((s[i].toNat : Int) == 244) = false := by simp; omega
  have d1 : decide ((s[i].toNat : Int) < 128) = false := by simp; omega
  have d2 : decide ((194 : Int) ≤ (s[i].toNat : Int)) = true := by simp; omega
  have d3 : decide ((s[i].toNat : Int) ≤ 223) = false := by simp; omega
  have d4 : decide ((224 : Int) ≤ (s[i].toNat : Int)) = true := by simp; omega
  have d5 : decide ((s[i].toNat : Int) ≤ 239) = false := by simp; omega
  have d6 : decide ((240 : Int) ≤ (s[i].toNat : Int)) = true := by simp; omega
  have d7 : decide ((s[i].toNat : Int) ≤ 244) = false := by simp; omega
  clear e0 h
  go_enter Tryz.func103, Tryz.ntmps103
  go_wp2
  go_ret2
  exact ⟨ret_two (by rw [HD.out]; rfl) (by rw [HD.out]; rfl), 0, rfl⟩
set_option maxRecDepth 100000 in
set_option maxHeartbeats 4000000 in
theorem rune_two_bad (s : ByteArray) (hs : s.size ≤ maxLen) (i : Nat) (hi : i < s.size) (h : 194 ≤ bAt s i ∧ bAt s i ≤ 223) (h1 : fol s (i + 1) 128 191 = false) (w : World) : Calls Tryz.prog 103 #[.string s, .int .i64 i] w (Told s i w) := by
  have HD : Hid (Utf8.decode s i = (65533, 1)) := dec_bad (by omega) (fun x => by simp_all) (fun x => by omega) (fun x => by omega)
  have e0 := bAt_eq s i hi
  unfold maxLen at hs
  have l0 : (i : Int) < (s.size : Int) := by omega
  have q224 : ((s[i].toNat : Int) == 224) = false := by simp; omega
  have q237 : ((s[i].toNat : Int) == 237) = false := by simp; omega
  have q240 : ((s[i].toNat : Int) == 240) = false := by simp; omega
  have q244 : ((s[i].toNat : Int) == 244) = false := by simp; omega
  have d1 : decide ((s[i].toNat : Int) < 128) = false := by simp; omega
  have d2 : decide ((194 : Int) ≤ (s[i].toNat : Int)) = true := by simp; omega
  have d3 : decide ((s[i].toNat : Int) ≤ 223) = true := by simp; omega
  have d4 : decide ((224 : Int) ≤ (s[i].toNat : Int)) = false := by simp; omega
  have d5 : decide ((s[i].toNat : Int) ≤ 239) = true := by simp; omega
  have d6 : decide ((240 : Int) ≤ (s[i].toNat : Int)) = false := by simp; omega
  have d7 : decide ((s[i].toNat : Int) ≤ 244) = true := by simp; omega
  clear e0 h
  go_enter Tryz.func103, Tryz.ntmps103
  go_wp2_with ((go_at_call 106; (with_reducible refine (follows_at s (i + 1) 128 191 _ _ _ _ ?e1 ?e2 ?e3 _ h1).mono ?_); (case e1 => omega); (case e2 => rfl); (case e3 => rfl); rintro e w' ⟨rfl, rfl⟩))
  go_ret2
  exact ⟨ret_two (by rw [HD.out]; rfl) (by rw [HD.out]; rfl), 0, rfl⟩
theorem rune_any (s : ByteArray) (hs : s.size ≤ maxLen) (i : Nat) (hi : i < s.size) (w : World) : Calls Tryz.prog 103 #[.string s, .int .i64 i] w (Told s i w) := by
  have hb := bAt_lt s i
  have part3 : ∀ lo hi', (fol s (i + 1) lo hi' = false) ∨ (fol s (i + 1) lo hi' = true ∧ fol s (i + 2) 128 191 = false) ∨ (fol s (i + 1) lo hi' = true ∧ fol s (i + 2) 128 191 = true) := by
    intro lo hi'; cases fol s (i + 1) lo hi' <;> cases fol s (i + 2) 128 191 <;> simp
  have part4 : ∀ lo hi', (fol s (i + 1) lo hi' = false) ∨ (fol s (i + 1) lo hi' = true ∧ fol s (i + 2) 128 191 = false) ∨ (fol s (i + 1) lo hi' = true ∧ fol s (i + 2) 128 191 = true ∧ fol s (i + 3) 128 191 = false) ∨ (fol s (i + 1) lo hi' = true ∧ fol s (i + 2) 128 191 = true ∧ fol s (i + 3) 128 191 = true) := by
    intro lo hi'; cases fol s (i + 1) lo hi' <;> cases fol s (i + 2) 128 191 <;> cases fol s (i + 3) 128 191 <;> simp
  by_cases c1 : bAt s i < 128
  · exact rune_one s i hi c1 w
  by_cases c2 : bAt s i ≤ 193
  · exact rune_low s i hi ⟨by omega, c2⟩ w
  by_cases c3 : bAt s i ≤ 223
  · cases hf : fol s (i + 1) 128 191
    · exact rune_two_bad s hs i hi ⟨by omega, c3⟩ hf w
    · exact rune_two s hs i hi ⟨by omega, c3⟩ hf w
  by_cases c4 : bAt s i = 224
  · rcases part3 160 191 with h | ⟨h, k⟩ | ⟨h, k⟩
    · exact rune_c224_0 s hs i hi c4 h w
    · exact rune_c224_1 s hs i hi c4 h k w
    · exact rune_c224_2 s hs i hi c4 h k w
  by_cases c5 : bAt s i = 237
  · rcases part3 128 159 with h | ⟨h, k⟩ | ⟨h, k⟩
    · exact rune_c237_0 s hs i hi c5 h w
    · exact rune_c237_1 s hs i hi c5 h k w
    · exact rune_c237_2 s hs i hi c5 h k w
  by_cases c6 : bAt s i ≤ 239
  · rcases part3 128 191 with h | ⟨h, k⟩ | ⟨h, k⟩
    · exact rune_c3o_0 s hs i hi (by omega) h w
    · exact rune_c3o_1 s hs i hi (by omega) h k w
    · exact rune_c3o_2 s hs i hi (by omega) h k w
  by_cases c7 : bAt s i = 240
  · rcases part4 144 191 with h | ⟨h, k⟩ | ⟨h, k, m⟩ | ⟨h, k, m⟩
    · exact rune_c240_0 s hs i hi c7 h w
    · exact rune_c240_1 s hs i hi c7 h k w
    · exact rune_c240_2 s hs i hi c7 h k m w
    · exact rune_c240_3 s hs i hi c7 h k m w
  by_cases c8 : bAt s i = 244
  · rcases part4 128 143 with h | ⟨h, k⟩ | ⟨h, k, m⟩ | ⟨h, k, m⟩
    · exact rune_c244_0 s hs i hi c8 h w
    · exact rune_c244_1 s hs i hi c8 h k w
    · exact rune_c244_2 s hs i hi c8 h k m w
    · exact rune_c244_3 s hs i hi c8 h k m w
  by_cases c9 : bAt s i ≤ 243
  · rcases part4 128 191 with h | ⟨h, k⟩ | ⟨h, k, m⟩ | ⟨h, k, m⟩
    · exact rune_c4o_0 s hs i hi (by omega) h w
    · exact rune_c4o_1 s hs i hi (by omega) h k w
    · exact rune_c4o_2 s hs i hi (by omega) h k m w
    · exact rune_c4o_3 s hs i hi (by omega) h k m w
  · exact rune_high s i hi (by omega) w
end Go.Proofs.YtligapgjdpdihaaGreatDoor.RefRune
