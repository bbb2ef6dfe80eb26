/-
  What the document's own Fill and Blank answer.
-/
import Derived.Test.YtdbfclngllhdlaaBytes
import Derived.Test.YtdbfclngllhdlaaFlashMath
import Derived.Test.YtdbfclngllhdlaaFoot
import Derived.Test.YtdbfclngllhdlaaGeomA
set_option linter.unusedVariables false
set_option linter.unusedSimpArgs false
namespace Go.Proofs.Ytdbfclngllhdlaa.Flash
open Go.RowKit
open Own Tup Bytes

def bs (l : List UInt8) : ByteArray := ⟨l.toArray⟩
theorem bs_size (l : List UInt8) : (bs l).size = l.length := rfl
theorem bs_list (b : ByteArray) : bs b.data.toList = b := by cases b; simp [bs]
theorem list_bs (l : List UInt8) : (bs l).data.toList = l := by simp [bs]
theorem bs_append (a b : List UInt8) : bs a ++ bs b = bs (a ++ b) := by
  apply ByteArray.ext
  simp [bs]
theorem bs_inj {a b : List UInt8} : bs a = bs b ↔ a = b := by
  constructor
  · intro h
    have := congrArg (fun x : ByteArray => x.data.toList) h
    simpa [bs] using this
  · rintro rfl; rfl
theorem info8 : (Try.prog.info? 5).map (fun i => (i.zero, i.size, i.bytes)) = some (some (.int .u8 0), 1, 1) := by kernel_rfl
def fillAt (c : UInt8) (n k : Nat) : List UInt8 := List.replicate k c ++ List.replicate (n - k) 0
theorem fillAt_set (c : UInt8) {n k : Nat} (h : k < n) : (fillAt c n k).set k c = fillAt c n (k + 1) := by
  unfold fillAt
  rw [show n - k = (n - (k + 1)) + 1 by omega, List.replicate_succ, List.set_append_right _ _ (by simp), List.length_replicate, Nat.sub_self, List.set_cons_zero, List.replicate_succ', List.append_assoc]; rfl
theorem fillAt_length (c : UInt8) {n k : Nat} (h : k ≤ n) : (fillAt c n k).length = n := by simp [fillAt]; omega
theorem max2 {P : Program} (w : World) (ts : Array TypeId) (t : TypeId) (x k m : Int) (hm : m = max x k) : (Builtin.max_ ts t #[.int .i64 x, .int .i64 k]).run P w = .ok (.int .i64 m) w := by
  have e : (Builtin.max_ ts t #[.int .i64 x, .int .i64 k]).run P w = .ok (.int .i64 (if x < k then k else x)) w := by
    simp [Builtin.max_, Builtin.max2]
  rw [e, hm]; congr 2; split <;> omega
set_option maxRecDepth 100000 in
set_option maxHeartbeats 4000000 in
theorem fill_any (c : UInt8) (x : Int) (n : Nat) (hx : x = (n : Int) ∨ (x ≤ 0 ∧ n = 0)) (hn : n ≤ 1000000) (w : World) :
    Calls Try.prog 25 #[.int .u8 (c.toNat : Int), .int .i64 x] w fun e w' => e = .returned (.string (bs (List.replicate n c))) ∧ Below w.heap.size w w' := by
  have hmx := fun w ts t => max2 (P := Try.prog) w ts t x 0 (n : Int) (by omega)
  obtain ⟨i0, hi, hz0, hz1, hz2⟩ := info_parts info8
  obtain ⟨w1, hmk, hown, hgr⟩ := run_makeSlice_full (P := Try.prog) w w.heap.size 66 5 i0 _ 1 Try.underlying66 hi hz0 hz1 .i64 .i64 n (by omega) (by rw [hz2]; omega) (by simp only [maxLen]; omega) (Nat.le_refl _)
  have HR1 := Lib.hid (Row8.of_make hown)
  have HB1 := Lib.hid (below_make hgr)
  clear hown hgr hi hz0 hz1 hz2 hx
  go_enter Try.func25, Try.ntmps25
  go_wp2
  go_loopw [6] (fun i wr => ∃ k : Nat, k ≤ n ∧ i = .int .i64 (k : Int) ∧ Below w.heap.size w wr ∧ Row8 wr w.heap.size (fillAt c n k)) (fun i _ => n - (intOf i).toNat)
  case atStart => exact ⟨0, Nat.zero_le _, rfl, HB1.out, HR1.out⟩
  case round =>
    obtain ⟨k, hk, rfl, hB, hR⟩ := hrel
    clear hmk HR1 HB1 hmx
    by_cases hlt : k < n
    · have d1 : decide ((k : Int) < (n : Int)) = true := by simp; omega
      have d2 : decide (k < n) = true := by simp; omega
      obtain ⟨g1, g2⟩ := hR k (by rw [fillAt_length c hk]; exact hlt)
      have HS := Lib.hid (hR.set k c (by rw [fillAt_length c hk]; exact hlt))
      rw [fillAt_set c hlt] at HS
      have HB := Lib.hid (hB.setCell (p := ⟨w.heap.size, k, none⟩) (Nat.le_refl _) (.int .u8 (c.toNat : Int)))
      clear hR hB
      go_wp2
      refine ⟨⟨k + 1, by omega, by go_num, HB.out, HS.out⟩, by simp [intOf]; omega⟩
    · obtain rfl : k = n := by omega
      have d1 : decide ((k : Int) < (k : Int)) = false := by simp
      have htx := hR.text (P := Try.prog) 66 9 5 k Try.underlying66 Try.underlying5 Try.underlying9 k (fillAt_length c hk)
      have he : fillAt c k k = List.replicate k c := by simp [fillAt]
      rw [he] at htx
      have HB := Lib.hid hB
      clear hR hB he
      go_wp2
      go_ret
      exact ⟨rfl, HB.out⟩
theorem blank_snoc (b : ByteArray) (k : Nat) (h : k < b.size) : blank (b.data.toList.take (k + 1)) = (blank (b.data.toList.take k) && (b[k] == 255)) := by
  have hl : k < b.data.toList.length := by simpa using h
  rw [List.take_succ_eq_append_getElem hl]
  simp only [blank, List.all_append, List.all_cons, List.all_nil, Bool.and_true]
  rfl
theorem blank_drop (b : ByteArray) (k : Nat) (h : k < b.size) (h2 : (b[k] == 255) = false) : blank b.data.toList = false := by
  unfold blank
  rw [List.all_eq_false]
  exact ⟨b[k], by simp [ByteArray.getElem_eq_getElem_data], by simpa using h2⟩
end Go.Proofs.Ytdbfclngllhdlaa.Flash
