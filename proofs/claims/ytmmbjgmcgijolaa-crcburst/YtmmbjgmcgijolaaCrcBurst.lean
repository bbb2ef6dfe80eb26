/-
  For every text, place and four bytes the law CrcBurst answers true: a text in which up to four bytes in a row are turned has another sum. No condition.
-/
import Derived.Test.YtmmbjgmcgijolaaRows
import Derived.Test.YtmmbjgmcgijolaaCrcB
import Derived.Test.YtmmbjgmcgijolaaCommon
import Derived.ProofKit
import Derived.OpenShut
import Derived.ShutString
import Derived.ChangeOld
import Derived.SizedLaws
import Derived.Lib.ConvBytes
import Derived.WalkLawsBesides
import Derived.RegionTactic
import Derived.BigRegion
import Derived.Stop.BytesEq
namespace Go.Proofs.Ytmmbjgmcgijolaa.crcBurst
open Go.ChangeShapes Go.WideShapes Go.ChangeAt Go.RowKit
open Go.ChangeMaps (open_string shut_string)
open Crc Common
open CrcM (W)

/-- what was boxed ahead of a call is there behind it -/
theorem box4 {w w2 : World} {v0 v1 v2 v3 : Value} {t : TypeId} (h : Below (w.alloc (.cells #[v0, v1, v2, v3] t)).heap.size (w.alloc (.cells #[v0, v1, v2, v3] t)) w2) :
    w2.cell? ⟨w.heap.size, 0, none⟩ = some v0 ∧ w2.cell? ⟨w.heap.size, 1, none⟩ = some v1 ∧ w2.cell? ⟨w.heap.size, 2, none⟩ = some v2 ∧ w2.cell? ⟨w.heap.size, 3, none⟩ = some v3 ∧ w.heap.size < w2.heap.size := by
  refine ⟨?_, ?_, ?_, ?_, ?_⟩
  · rw [h.cell (by simp)]; simp
  · rw [h.cell (by simp)]; simp
  · rw [h.cell (by simp)]; simp
  · rw [h.cell (by simp)]; simp
  · have := h.size; simp at this; omega

theorem walk_short (s : ByteArray) (at_ : Int) (b0 b1 b2 b3 : UInt8) (hs : s.size < 4) (w : World) :
    Calls Try.prog 6 #[.string s, .int .i64 at_, .agg #[.int .u8 b0.toNat, .int .u8 b1.toNat, .int .u8 b2.toNat, .int .u8 b3.toNat]] w fun e w' => e = .returned (.bool true) ∧ Below w.heap.size w w' := by
  have hB := Below.refl w.heap.size w
  go_enter Try.func6, Try.ntmps6
  go_wp2_with (go_at_call 9; (with_reducible refine (alive_any _).mono ?_); rintro e w2 ⟨rfl, hn⟩; (first | (replace hB := bel0 hB hn) | (replace hB := bel1 hB hn)); clear hn)
  go_ret
  exact ⟨rfl, hB⟩

theorem eq_arr (w : World) (b0 b1 b2 b3 : UInt8) : (Op.equalIn 10000 35 (.agg #[.int .u8 b0.toNat, .int .u8 b1.toNat, .int .u8 b2.toNat, .int .u8 b3.toNat]) (.agg #[.int .u8 0, .int .u8 0, .int .u8 0, .int .u8 0])).run Try.prog w
    = .ok ([b0, b1, b2, b3] == [0, 0, 0, 0]) w :=
  run_equalIn_bytes w 9998 35 5 4 Try.underlying35 Try.underlying5 (fun _ => by kernel_rfl) [b0, b1, b2, b3] [0, 0, 0, 0] rfl rfl

theorem walk_zero (s : ByteArray) (at_ : Int) (hs : 4 ≤ s.size) (b0 b1 b2 b3 : UInt8) (hz : ([b0, b1, b2, b3] == [0, 0, 0, 0]) = true) (w : World) :
    Calls Try.prog 6 #[.string s, .int .i64 at_, .agg #[.int .u8 b0.toNat, .int .u8 b1.toNat, .int .u8 b2.toNat, .int .u8 b3.toNat]] w fun e w' => e = .returned (.bool true) ∧ Below w.heap.size w w' := by
  have hB := Below.refl w.heap.size w
  have heq := fun w => eq_arr w b0 b1 b2 b3
  rw [hz] at heq
  clear hz
  have hd : decide ((s.size : Int) < 4) = false := by simp; omega
  go_enter Try.func6, Try.ntmps6
  go_wp2_with (go_at_call 9; (with_reducible refine (alive_any _).mono ?_); rintro e w2 ⟨rfl, hn⟩; (first | (replace hB := bel0 hB hn) | (obtain ⟨c0, c1, c2, c3, hz⟩ := box4 hn; replace hB := bel1 hB hn)); clear hn)
  go_ret
  exact ⟨rfl, hB⟩

/-- the text's bytes, k of the four turned -/
def cur (l : List UInt8) (p : Nat) (by_ : List UInt8) : Nat → List UInt8
  | 0 => l
  | k + 1 => (cur l p by_ k).set (p + k) ((cur l p by_ k).getD (p + k) 0 ^^^ by_.getD k 0)
theorem cur_length (l : List UInt8) (p : Nat) (by_ : List UInt8) (k : Nat) : (cur l p by_ k).length = l.length := by
  induction k with
  | zero => rfl
  | succ k ih => simp [cur, ih]
theorem cur_four (p r : List UInt8) (s0 s1 s2 s3 b0 b1 b2 b3 : UInt8) :
    cur (p ++ [s0, s1, s2, s3] ++ r) p.length [b0, b1, b2, b3] 4 = p ++ [s0 ^^^ b0, s1 ^^^ b1, s2 ^^^ b2, s3 ^^^ b3] ++ r := by
  simp [cur, List.getD]
theorem cur_differs (l : List UInt8) (p : Nat) (b0 b1 b2 b3 : UInt8) (hp : p + 4 ≤ l.length) (hz : ([b0, b1, b2, b3] == [0, 0, 0, 0]) = false) :
    (sumOf (cur l p [b0, b1, b2, b3] 4) == sumOf l) = false := by
  rw [beq_eq_false_iff_ne]
  intro h
  obtain ⟨q, r, s0, s1, s2, s3, rfl, rfl⟩ : ∃ q r s0 s1 s2 s3, l = q ++ [s0, s1, s2, s3] ++ r ∧ q.length = p := by
    have hd : (l.drop p).length = l.length - p := by simp
    match hx : l.drop p, hd with
    | [], hd => simp at hd; omega
    | [_], hd => simp at hd; omega
    | [_, _], hd => simp at hd; omega
    | [_, _, _], hd => simp at hd; omega
    | s0 :: s1 :: s2 :: s3 :: r, _ => exact ⟨l.take p, r, s0, s1, s2, s3, by have := List.take_append_drop p l; rw [hx] at this; rw [List.append_assoc]; exact this.symm, by simp; omega⟩
  rw [cur_four] at h
  have h := vl_inj h
  unfold CrcM.sum at h
  have h := congrArg (· ^^^ 4294967295#32) h
  simp only [BitVec.xor_assoc, BitVec.xor_self, BitVec.xor_zero] at h
  have := CrcM.burst _ _ _ _ _ _ _ _ _ _ _ h
  have k (a b : UInt8) (h : a ^^^ b = a) : b = 0 := by
    have := congrArg (a ^^^ ·) h
    simpa [← UInt8.xor_assoc] using this
  obtain ⟨e0, e1, e2, e3⟩ := this
  rw [k _ _ e0, k _ _ e1, k _ _ e2, k _ _ e3] at hz
  simp at hz
theorem cur_size (s : ByteArray) (p : Nat) (b : List UInt8) (k : Nat) (h : s.size ≤ maxLen) : (⟨(cur s.data.toList p b k).toArray⟩ : ByteArray).size ≤ maxLen := by
  have e : (⟨(cur s.data.toList p b k).toArray⟩ : ByteArray).size = (cur s.data.toList p b k).length := rfl
  have e2 : s.data.toList.length = s.size := rfl
  rw [e, cur_length, e2]; exact h
/-- a row of bytes in a block -/
def Row8 (w : World) (B : Nat) (l : List UInt8) : Prop := ∀ j, j < l.length → w.cell? ⟨B, j, none⟩ = some (.int .u8 ((l.getD j 0).toNat : Int)) ∧ w.frozen? ⟨B, j, none⟩ = false
theorem xor_u8 (a b : UInt8) : bits .xor .u8 (a.toNat : Int) (b.toNat : Int) = ((a ^^^ b).toNat : Int) := by
  rw [u8_xor_nat _ _ a.toNat_lt b.toNat_lt]; simp
theorem Row8.set {w : World} {B : Nat} {l : List UInt8} (h : Row8 w B l) (i : Nat) (c : UInt8) (hi : i < l.length) : Row8 (w.setCell ⟨B, i, none⟩ (.int .u8 (c.toNat : Int))) B (l.set i c) := by
  intro j hj
  rw [List.length_set] at hj
  obtain ⟨h1, h2⟩ := h j hj
  obtain ⟨g1, _⟩ := h i hi
  refine ⟨?_, by rw [World.frozen?_setCell]; exact h2⟩
  by_cases e : i = j
  · subst e
    rw [World.cell?_setCell_same _ _ _ g1]
    simp [List.getD, hj]
  · rw [World.cell?_setCell_other _ _ _ _ (fun hh => e (congrArg Addr.off hh)), h1]
    simp [List.getD, e]
theorem Row8.drew {w : World} {B : Nat} {l : List UInt8} (h : Row8 w B l) : Row8 w.drew B l := h
theorem Row8.below {w w' : World} {B : Nat} {l : List UInt8} (h : Row8 w B l) (hb : Below w.heap.size w w') (hB : B < w.heap.size) : Row8 w' B l := fun j hj => by
  rw [hb.cell (p := ⟨B, j, none⟩) hB, hb.frozen (p := ⟨B, j, none⟩) hB]; exact h j hj
theorem bytes_row (w : World) (e : TypeId) (s : ByteArray) : Row8 (Lib.bytesWorld w e s) w.heap.size s.data.toList := by
  intro j hj
  have hj' : j < s.size := by simpa using hj
  refine ⟨Lib.bytesWorld_cell w e s j hj', ?_⟩
  simp [World.frozen?, Lib.bytesWorld_at_new, Lib.bytesCells]
  omega
theorem bytes_below (w : World) (e : TypeId) (s : ByteArray) : Below w.heap.size w (Lib.bytesWorld w e s) :=
  ⟨rfl, rfl, rfl, by rw [Lib.bytesWorld_size]; omega, fun k hk => Lib.bytesWorld_at_old w e s k hk⟩

theorem ret_neq {a b : Int} (h : (a == b) = false) : Ending.returned (.bool (a != b)) = .returned (.bool true) := by rw [bne, h]; rfl
/-- what holds at the head of a round, behind k of them -/
def At (w w2 : World) (l : List UInt8) (p : Nat) (b : List UInt8) (k : Nat) (wr : World) : Prop :=
  Below w.heap.size w wr ∧ Row8 wr w2.heap.size (cur l p b k) ∧ w2.heap.size < wr.heap.size ∧ ∀ i, i < 4 → wr.cell? ⟨w.heap.size, i, none⟩ = some (.int .u8 ((b.getD i 0).toNat : Int))
theorem At.step {w w2 : World} {l : List UInt8} {p : Nat} {b : List UInt8} {k : Nat} {wr : World} (h : At w w2 l p b k wr) (hw : w.heap.size < w2.heap.size) (hk : p + k < l.length) :
    At w w2 l p b (k + 1) (wr.setCell ⟨w2.heap.size, p + k, none⟩ (.int .u8 (((cur l p b k).getD (p + k) 0 ^^^ b.getD k 0).toNat : Int))) := by
  obtain ⟨h1, h2, h3, h4⟩ := h
  refine ⟨h1.setCell (Nat.le_of_lt hw) _, h2.set _ _ (by rw [cur_length]; exact hk), by rw [World.size_setCell]; exact h3, fun i hi => ?_⟩
  rw [World.cell?_setCell_other _ _ _ _ (fun hh => by have := congrArg Addr.block hh; simp only at this; omega)]; exact h4 i hi
theorem At.drew {w w2 : World} {l : List UInt8} {p : Nat} {b : List UInt8} {k : Nat} {wr : World} (h : At w w2 l p b k wr) : At w w2 l p b k wr.drew := ⟨h.1.drew, h.2.1.drew, h.2.2.1, h.2.2.2⟩

set_option maxHeartbeats 1000000 in
theorem walk_main (s : ByteArray) (p : Nat) (at_ : Int) (hat : at_ = p ∨ (p = 0 ∧ (at_ < 0 ∨ (s.size : Int) - 4 < at_))) (hi : -9223372036854775808 ≤ at_ ∧ at_ ≤ 9223372036854775807) (hm : s.size ≤ reachBytes) (hs : p + 4 ≤ s.size) (b0 b1 b2 b3 : UInt8) (hz : ([b0, b1, b2, b3] == [0, 0, 0, 0]) = false) (w : World) :
    Calls Try.prog 6 #[.string s, .int .i64 at_, .agg #[.int .u8 b0.toNat, .int .u8 b1.toNat, .int .u8 b2.toNat, .int .u8 b3.toNat]] w fun e w' => e = .returned (.bool true) ∧ Below w.heap.size w w' := by
  have hB := Below.refl w.heap.size w
  have hr : reachBytes < 140737488355328 := reachBytes_lt
  have hml : s.size ≤ maxLen := by simp [maxLen]; omega
  have heq := fun w => eq_arr w b0 b1 b2 b3
  rw [hz] at heq
  have HD := Lib.hid (cur_differs s.data.toList p b0 b1 b2 b3 (by simpa using hs) hz)
  clear hz
  have hd : decide ((s.size : Int) < 4) = false := by simp; omega
  have hcv := fun w => Lib.run_convert_string_bytes (P := Try.prog) w 9 36 5 s Try.underlying9 Try.underlying36 Try.underlying5
  have hways : (at_ = p ∧ decide (at_ < 0) = false ∧ decide ((s.size : Int) - 4 < at_) = false) ∨ (p = 0 ∧ at_ < 0) ∨ (p = 0 ∧ decide (at_ < 0) = false ∧ (s.size : Int) - 4 < at_) := by
    by_cases h0 : at_ < 0
    · right; left; rcases hat with h | h
      · omega
      · exact ⟨h.1, h0⟩
    · by_cases h1 : (s.size : Int) - 4 < at_
      · right; right; rcases hat with h | h
        · omega
        · exact ⟨h.1, by simpa using h0, h1⟩
      · left; rcases hat with h | h
        · exact ⟨h, by simpa using h0, by simpa using h1⟩
        · omega
  clear hat
  rcases hways with ⟨rfl, hd1, hd2⟩ | ⟨rfl, hd1⟩ | ⟨rfl, hd1, hd2⟩
  · go_enter Try.func6, Try.ntmps6
    go_wp2_with (go_at_call 9; (with_reducible refine (alive_any _).mono ?_); rintro e w2 ⟨rfl, hn⟩; (first | (replace hB := bel0 hB hn) | (obtain ⟨c0, c1, c2, c3, hz⟩ := box4 hn; replace hB := bel1 hB hn)); clear hn)
    have hstart : At w w2 s.data.toList p [b0, b1, b2, b3] 0 (Lib.bytesWorld w2 5 s) := by
      have hbb := bytes_below w2 5 s
      refine ⟨bel0 hB hbb, bytes_row _ _ _, by rw [Lib.bytesWorld_size]; omega, fun i hi => ?_⟩
      rw [hbb.cell hz]
      match i, hi with
      | 0, _ => exact c0
      | 1, _ => exact c1
      | 2, _ => exact c2
      | 3, _ => exact c3
    generalize Lib.bytesWorld w2 5 s = w3 at hstart
    clear hcv c0 c1 c2 c3 hB heq
    go_loopw [8] (fun i wr => ∃ k : Nat, k ≤ 4 ∧ i = .int .i64 k ∧ At w w2 s.data.toList p [b0, b1, b2, b3] k wr) (fun i _ => 4 - (intOf i).toNat)
    case atStart => exact ⟨0, Nat.zero_le _, rfl, hstart⟩
    case round =>
      obtain ⟨k, hk, rfl, hA⟩ := hrel
      by_cases hlt : k < 4
      · have HA := Lib.hid hA
        obtain ⟨_, h2, h3, h4⟩ := hA
        have g1 := h4 k hlt
        obtain ⟨g2, g3⟩ := h2 (p + k) (by rw [cur_length]; simp; omega)
        have hx := xor_u8 ((cur s.data.toList p [b0, b1, b2, b3] k).getD (p + k) 0) ([b0, b1, b2, b3].getD k 0)
        have HST := Lib.hid (HA.out.step hz (by simp; omega))
        clear h2 h4
        generalize (cur s.data.toList p [b0, b1, b2, b3] k).getD (p + k) 0 = c at g2 hx HST
        generalize [b0, b1, b2, b3].getD k 0 = d at g1 hx HST
        generalize (c ^^^ d).toNat = cd at hx HST
        have l1 : (p : Int) + (k : Int) < (s.size : Int) := by omega
        go_wp2
        go_region
        all_goals go_wp2
        all_goals go_roundw
        case rel => exact ⟨k + 1, by omega, by go_num, HST.out.drew⟩
        case measure => simp [intOf]; omega
      · obtain rfl : k = 4 := by omega
        have hrow := hA.2.1
        have hB := hA.1
        have hback := run_convert_bytes_back (P := Try.prog) wr 36 9 5 ⟨w2.heap.size, 0, none⟩ (grownCap w2 s.size 0 5) (cur s.data.toList p [b0, b1, b2, b3] 4) Try.underlying36 Try.underlying5 Try.underlying9 (fun j hj => by
          have := (hrow j hj).1
          rw [show (⟨w2.heap.size, 0, none⟩ : Addr).add j = ⟨w2.heap.size, j, none⟩ by unfold Addr.add; split <;> simp_all]
          simpa [List.getD, hj] using this)
        have hsz : (⟨(cur s.data.toList p [b0, b1, b2, b3] 4).toArray⟩ : ByteArray).size ≤ maxLen := cur_size s p _ _ hml
        have hle : (cur s.data.toList p [b0, b1, b2, b3] 4).length = s.size := by rw [cur_length]; simp
        rw [hle] at hback
        have HE : Hid ((⟨(cur s.data.toList p [b0, b1, b2, b3] 4).toArray⟩ : ByteArray).data.toList = cur s.data.toList p [b0, b1, b2, b3] 4) := rfl
        clear hle hrow hA
        generalize (⟨(cur s.data.toList p [b0, b1, b2, b3] 4).toArray⟩ : ByteArray) = t at hback hsz HE
        go_wp2_with (first
          | (go_at_call 10; (with_reducible refine (sum_one t _ _ _ hsz ?c1).mono ?_); (case c1 => (simp; done)); rintro e w' ⟨rfl, rfl⟩; rw [HE.out])
          | (go_at_call 10; (with_reducible refine (sum_one s _ _ _ hml ?c2).mono ?_); (case c2 => (simp; done)); rintro e w' ⟨rfl, rfl⟩))
        go_ret
        exact ⟨ret_neq HD.out, by have h1 := hB.alloc hB.size (Obj.cells #[Value.string t] 9); exact h1.alloc h1.size _⟩
  all_goals
    go_enter Try.func6, Try.ntmps6
    go_wp2_with (go_at_call 9; (with_reducible refine (alive_any _).mono ?_); rintro e w2 ⟨rfl, hn⟩; (first | (replace hB := bel0 hB hn) | (obtain ⟨c0, c1, c2, c3, hz⟩ := box4 hn; replace hB := bel1 hB hn)); clear hn)
    have hstart : At w w2 s.data.toList 0 [b0, b1, b2, b3] 0 (Lib.bytesWorld w2 5 s) := by
      have hbb := bytes_below w2 5 s
      refine ⟨bel0 hB hbb, bytes_row _ _ _, by rw [Lib.bytesWorld_size]; omega, fun i hi => ?_⟩
      rw [hbb.cell hz]
      match i, hi with
      | 0, _ => exact c0
      | 1, _ => exact c1
      | 2, _ => exact c2
      | 3, _ => exact c3
    generalize Lib.bytesWorld w2 5 s = w3 at hstart
    clear hcv c0 c1 c2 c3 hB heq
    go_loopw [8] (fun i wr => ∃ k : Nat, k ≤ 4 ∧ i = .int .i64 k ∧ At w w2 s.data.toList 0 [b0, b1, b2, b3] k wr) (fun i _ => 4 - (intOf i).toNat)
    case atStart => exact ⟨0, Nat.zero_le _, rfl, hstart⟩
    case round =>
      obtain ⟨k, hk, rfl, hA⟩ := hrel
      by_cases hlt : k < 4
      · have HA := Lib.hid hA
        obtain ⟨_, h2, h3, h4⟩ := hA
        have g1 := h4 k hlt
        obtain ⟨g2, g3⟩ := h2 (0 + k) (by rw [cur_length]; simp; omega)
        have hx := xor_u8 ((cur s.data.toList 0 [b0, b1, b2, b3] k).getD (0 + k) 0) ([b0, b1, b2, b3].getD k 0)
        have HST := Lib.hid (HA.out.step hz (by simp; omega))
        rw [Nat.zero_add] at HST hx g2 g3
        clear h2 h4
        generalize (cur s.data.toList 0 [b0, b1, b2, b3] k).getD k 0 = c at g2 hx HST
        generalize [b0, b1, b2, b3].getD k 0 = d at g1 hx HST
        generalize (c ^^^ d).toNat = cd at hx HST
        have l1 : (k : Int) < (s.size : Int) := by omega
        go_wp2
        go_region
        all_goals go_wp2
        all_goals go_roundw
        case rel => exact ⟨k + 1, by omega, by go_num, HST.out.drew⟩
        case measure => simp [intOf]; omega
      · obtain rfl : k = 4 := by omega
        have hrow := hA.2.1
        have hB := hA.1
        have hback := run_convert_bytes_back (P := Try.prog) wr 36 9 5 ⟨w2.heap.size, 0, none⟩ (grownCap w2 s.size 0 5) (cur s.data.toList 0 [b0, b1, b2, b3] 4) Try.underlying36 Try.underlying5 Try.underlying9 (fun j hj => by
          have := (hrow j hj).1
          rw [show (⟨w2.heap.size, 0, none⟩ : Addr).add j = ⟨w2.heap.size, j, none⟩ by unfold Addr.add; split <;> simp_all]
          simpa [List.getD, hj] using this)
        have hsz : (⟨(cur s.data.toList 0 [b0, b1, b2, b3] 4).toArray⟩ : ByteArray).size ≤ maxLen := cur_size s 0 _ _ hml
        have hle : (cur s.data.toList 0 [b0, b1, b2, b3] 4).length = s.size := by rw [cur_length]; simp
        rw [hle] at hback
        have HE : Hid ((⟨(cur s.data.toList 0 [b0, b1, b2, b3] 4).toArray⟩ : ByteArray).data.toList = cur s.data.toList 0 [b0, b1, b2, b3] 4) := rfl
        clear hle hrow hA
        generalize (⟨(cur s.data.toList 0 [b0, b1, b2, b3] 4).toArray⟩ : ByteArray) = t at hback hsz HE
        go_wp2_with (first
          | (go_at_call 10; (with_reducible refine (sum_one t _ _ _ hsz ?c1).mono ?_); (case c1 => (simp; done)); rintro e w' ⟨rfl, rfl⟩; rw [HE.out])
          | (go_at_call 10; (with_reducible refine (sum_one s _ _ _ hml ?c2).mono ?_); (case c2 => (simp; done)); rintro e w' ⟨rfl, rfl⟩))
        go_ret
        exact ⟨ret_neq HD.out, by have h1 := hB.alloc hB.size (Obj.cells #[Value.string t] 9); exact h1.alloc h1.size _⟩


theorem byte_int {n : Int} (h : (Lit.int .u8 n).wf = true) : ∃ b : UInt8, n = (b.toNat : Int) := by
  have := byte_of h
  exact ⟨UInt8.ofNat n.toNat, by simp; omega⟩
theorem open_arr4 {H : Type} {enc : TypeId × Value → H} {P : Program} {W : World} {base : Nat} {t e : TypeId} {v : Value} {d : DataW H} {p : List MemPlace}
    (ht : P.underlying t = some (.array 4 e)) (he : P.underlying e = some (.int .u8)) (hce : P.cellsOf e = 1) (hct : P.cellsOf t = 4)
    (hv : Value.okWide P W .any base t v) (h : DataW.Trod enc P W 0 (fun _ => true) true t v d p) :
    ∃ b0 b1 b2 b3 : UInt8, v = .agg #[.int .u8 b0.toNat, .int .u8 b1.toNat, .int .u8 b2.toNat, .int .u8 b3.toNat] := by
  simp only [Value.okWide, ht] at hv
  obtain ⟨cs, rfl, hn, _⟩ := hv
  rw [hct] at hn
  obtain ⟨l⟩ := cs
  match l, hn with
  | [c0, c1, c2, c3], _ =>
    obtain ⟨fuel, hf⟩ := h
    obtain ⟨y0, y1, y2, y3, n, _, h0, h1, h2, h3⟩ := trod_array4 ht hce (c0 := c0) (c1 := c1) (c2 := c2) (c3 := c3) hf
    obtain ⟨a0, e0, _, w0⟩ := DataW.trod_int he h0
    obtain ⟨a1, e1, _, w1⟩ := DataW.trod_int he h1
    obtain ⟨a2, e2, _, w2⟩ := DataW.trod_int he h2
    obtain ⟨a3, e3, _, w3⟩ := DataW.trod_int he h3
    simp at e0 e1 e2 e3
    subst e0 e1 e2 e3
    obtain ⟨b0, rfl⟩ := byte_int w0
    obtain ⟨b1, rfl⟩ := byte_int w1
    obtain ⟨b2, rfl⟩ := byte_int w2
    obtain ⟨b3, rfl⟩ := byte_int w3
    exact ⟨b0, b1, b2, b3, rfl⟩

theorem own : ownKnob Try.prog.godebug = none := by kernel_rfl
theorem laidOut : laidOutB Try.prog = true := by kernel_rfl
set_option linter.unusedVariables false
set_option maxRecDepth 100000 in
theorem contract (H : Type) (enc : TypeId × Value → H) (W : World) (base : Nat) (args : Array Value) (ds gs : List (DataW H)) (before : List MemPlace)
    (hval0 : ∀ (j : Nat) t v, Try.f6.params[j]? = some t → args[j]? = some v → Value.okWide Try.prog W .any base t v)
    (hW : DataW.Whole enc Try.prog Try.f6.params.toList Rows.crcBurstSpec.vars false W args.toList ds gs before)
    (hsz : (DataW.weightsEach Try.prog (Try.f6.params.toList ++ Rows.crcBurstSpec.plain.varTypes Try.prog) (ds ++ gs)).all (· ≤ reachBytes) = true) :
    Calls Try.prog 6 args W fun e W' => ∃ v, e = .returned v ∧ Rows.crcBurstSpec.post enc Try.prog Try.f6 false true false false W args v W' := by
  have hval : ∀ (j : Nat) t v, Try.f6.params[j]? = some t → args[j]? = some v → Value.okWide Try.prog W .any base t v := hval0
  have hW' := hW
  obtain ⟨p, q, hA0, hV, rfl, hfz, hnd⟩ := hW
  have hA : DataW.TrodAll enc Try.prog W 0 (fun _ => true) true Try.f6.params.toList args.toList ds p := hA0
  rw [Try.params6] at hA hval
  obtain ⟨v0, vs0, d0, ds0, p0, q0, hargs, rfl, rfl, h0, r0⟩ := trodAll_cons hA
  obtain ⟨v1, vs1, d1, ds1, p1, q1, rfl, rfl, rfl, h1, r1⟩ := trodAll_cons r0
  obtain ⟨v2, vs2, d2, ds2, p2, q2, rfl, rfl, rfl, h2, r2⟩ := trodAll_cons r1
  obtain ⟨rfl, rfl, rfl⟩ := trodAll_nil r2
  obtain rfl : args = #[v0, v1, v2] := by cases args; simp_all
  obtain ⟨rfl, rfl⟩ := trodVars_none hV
  obtain ⟨a0, rfl, rfl, rfl, w0⟩ := open_string Try.underlying9 (hval 0 9 v0 rfl rfl) h0
  have z0 : a0.size ≤ reachBytes := by have := sized_string hsz (j := 0) (t := 9) rfl rfl; simpa using this
  obtain ⟨a1, rfl, rfl, rfl, w1⟩ := open_int Try.underlying3 (hval 1 3 v1 rfl rfl) h1
  have k2 := h2
  have lt2 : ∀ x ∈ p2, x.block < W.heap.size := by obtain ⟨m, hm⟩ := k2; exact DataW.trod_lt m _ _ _ hm
  clear hA0 hval0
  obtain ⟨b0, b1, b2, b3, rfl⟩ := open_arr4 Try.underlying35 Try.underlying5 (by kernel_rfl) (by kernel_rfl) (hval 2 35 v2 rfl rfl) h2
  have hi := int_of w1
  have hwalk : Calls Try.prog 6 #[.string a0, .int .i64 a1, .agg #[.int .u8 b0.toNat, .int .u8 b1.toNat, .int .u8 b2.toNat, .int .u8 b3.toNat]] W fun e w' => e = .returned (.bool true) ∧ Below W.heap.size W w' := by
    by_cases hs : a0.size < 4
    · exact walk_short a0 a1 b0 b1 b2 b3 hs W
    · cases hz : ([b0, b1, b2, b3] == [0, 0, 0, 0])
      · by_cases hin : 0 ≤ a1 ∧ a1 ≤ (a0.size : Int) - 4
        · exact walk_main a0 a1.toNat a1 (.inl (by omega)) hi z0 (by omega) b0 b1 b2 b3 hz W
        · exact walk_main a0 0 a1 (.inr ⟨rfl, by omega⟩) hi z0 (by omega) b0 b1 b2 b3 hz W
      · exact walk_zero a0 a1 (by omega) b0 b1 b2 b3 hz W
  refine hwalk.mono fun e W' ⟨he, bel⟩ => ?_
  subst he
  exact ⟨_, rfl, _, _, _, [], _, [], hW', trodAll_mk1 (shut_bool Try.underlying4 _), (trodAll_cons_mk (shut_string Try.underlying9 w0) (trodAll_cons_mk (shut_int Try.underlying3 w1) (trodAll_cons_mk (Below.trod laidOut (by kernel_rfl) (of_decide_eq_true (by kernel_rfl)) k2 bel lt2) trodAll_mk0))), rfl, bel.frame _, fun h => by cases h⟩

set_option maxRecDepth 100000 in
theorem lifted (os : Os) (started : os.Started) (H : Type) (enc : TypeId × Value → H) :
    ReturnsInHanded {} Try.checked os 6 .any (Rows.crcBurstSpec.pre6 enc Try.prog Try.f6 Rows.crcBurstRow.domain false) (Rows.crcBurstSpec.post enc Try.prog Try.f6 false true false false) := by
  refine returnsInHanded_of_change_sized (C := Try.checked) own started (by kernel_rfl) Try.func6
    (ChangeSpec.witness6 (enc := enc) (C := Try.checked) false ⟨#[], #[.string ByteArray.empty, .int .i64 0, .agg #[.int .u8 0, .int .u8 0, .int .u8 0, .int .u8 0]], []⟩ 8 (by kernel_rfl) (by kernel_rfl) (by kernel_rfl) (by kernel_rfl)) ?_
  intro W base args ds gs before hval0 hW _ hsz _
  exact contract H enc W base args ds gs before hval0 hW hsz

theorem over : Rows.crcBurstRow.holds Try.pinned (OpenSpec.ofChange Rows.crcBurstSpec) :=
  OpenClaim.holds_of_wide 6 Try.f6 rfl rfl rfl rfl rfl rfl rfl ⟨rfl, rfl, rfl, rfl, rfl⟩ rfl rfl rfl rfl rfl (by kernel_rfl) Try.func6 (by kernel_rfl)
    (of_decide_eq_true (by kernel_rfl)) (by unfold Func.isWrapper; first | (rw [if_pos (by decide +kernel)]; kernel_rfl) | (rw [if_neg (by decide +kernel)]; exact ⟨rfl, rfl⟩))
    (fun os started H enc _ => lifted os started H enc)

theorem proved : Rows.CrcBurstSaid := over
#print axioms proved
end Go.Proofs.Ytmmbjgmcgijolaa.crcBurst
