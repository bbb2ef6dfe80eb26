/-
  Joined texts: FlashA, Txt.
-/
import Derived.Test.YtligapgjdpdihaaGreatDoorBytes
import Derived.Test.YtligapgjdpdihaaGreatDoorRunCommon
import Derived.Test.YtligapgjdpdihaaGreatDoorRunTup
import Derived.Test.YtligapgjdpdihaaGreatDoorRunGeomA
/-
  What the document's own Fill and Blank answer.
-/
set_option linter.unusedVariables false
set_option linter.unusedSimpArgs false
namespace Go.Proofs.YtligapgjdpdihaaGreatDoor.Flash
open Go.RowKit
open Own Tup Bytes

def bs (l : List UInt8) : ByteArray := ⟨l.toArray⟩
theorem bs_size (l : List UInt8) : (bs l).size = l.length := rfl
theorem bs_list (b : ByteArray) : bs b.data.toList = b := by cases b; simp [bs]
theorem list_bs (l : List UInt8) : (bs l).data.toList = l := by simp [bs]
theorem bs_append (a b : List UInt8) : bs a ++ bs b = bs (a ++ b) := by
  apply ByteArray.ext
  simp [bs]
theorem bs_inj {a b : List UInt8} : bs a = bs b ↔ a = b := by
  constructor
  · intro h
    have := congrArg (fun x : ByteArray => x.data.toList) h
    simpa [bs] using this
  · rintro rfl; rfl
theorem info8 : (Tryz.prog.info? 5).map (fun i => (i.zero, i.size, i.bytes)) = some (some (.int .u8 0), 1, 1) := by kernel_rfl
def fillAt (c : UInt8) (n k : Nat) : List UInt8 := List.replicate k c ++ List.replicate (n - k) 0
theorem fillAt_set (c : UInt8) {n k : Nat} (h : k < n) : (fillAt c n k).set k c = fillAt c n (k + 1) := by
  unfold fillAt
  rw [show n - k = (n - (k + 1)) + 1 by omega, List.replicate_succ, List.set_append_right _ _ (by simp), List.length_replicate, Nat.sub_self, List.set_cons_zero, List.replicate_succ', List.append_assoc]; rfl
theorem fillAt_length (c : UInt8) {n k : Nat} (h : k ≤ n) : (fillAt c n k).length = n := by simp [fillAt]; omega
theorem max2 {P : Program} (w : World) (ts : Array TypeId) (t : TypeId) (x k m : Int) (hm : m = max x k) : (Builtin.max_ ts t #[.int .i64 x, .int .i64 k]).run P w = .ok (.int .i64 m) w := by
  have e : (Builtin.max_ ts t #[.int .i64 x, .int .i64 k]).run P w = .ok (.int .i64 (if x < k then k else x)) w := by
    simp [Builtin.max_, Builtin.max2]
  rw [e, hm]; congr 2; split <;> omega
theorem blank_snoc (b : ByteArray) (k : Nat) (h : k < b.size) : blank (b.data.toList.take (k + 1)) = (blank (b.data.toList.take k) && (b[k] == 255)) := by
  have hl : k < b.data.toList.length := by simpa using h
  rw [List.take_succ_eq_append_getElem hl]
  simp only [blank, List.all_append, List.all_cons, List.all_nil, Bool.and_true]
  rfl
theorem blank_drop (b : ByteArray) (k : Nat) (h : k < b.size) (h2 : (b[k] == 255) = false) : blank b.data.toList = false := by
  unfold blank
  rw [List.all_eq_false]
  exact ⟨b[k], by simp [ByteArray.getElem_eq_getElem_data], by simpa using h2⟩
end Go.Proofs.YtligapgjdpdihaaGreatDoor.Flash
/-
  Texts that are cut; the book's Short.
-/
set_option linter.unusedVariables false
set_option linter.unusedSimpArgs false
namespace Go.Proofs.YtligapgjdpdihaaGreatDoor.Txt
open Go.RowKit
open Flash (bs bs_size bs_list list_bs cut)
open Bytes
theorem min2' {P : Program} (w : World) (ts : Array TypeId) (t : TypeId) (x k m : Int) (hm : m = min x k) : (Builtin.min_ ts t #[.int .i64 x, .int .i64 k]).run P w = .ok (.int .i64 m) w := by
  have e : (Builtin.min_ ts t #[.int .i64 x, .int .i64 k]).run P w = .ok (.int .i64 (if k < x then k else x)) w := by
    simp [Builtin.min_, Builtin.min2]
  rw [e, hm]; congr 2; split <;> omega
theorem cutS (b : List UInt8) (k : Nat) (x : Int) (hx : x = (k : Int)) (hk : k ≤ b.length) (w : World) : (Instr.slice 9 (.string (bs b)) none (some (.int .i64 x)) none).run Tryz.prog w = .ok (.string (bs (b.take k))) w := by
  subst hx
  rw [run_slice_string_h (P := Tryz.prog) w 9 (bs b) Tryz.underlying9 .i64 (k : Int) (by omega) (by rw [bs_size]; omega)]
  congr 2
  apply ByteArray.ext
  rw [ByteArray.data_extract]
  simp [bs]
set_option maxRecDepth 100000 in
theorem shortB_any (s : ByteArray) (hs : s.size ≤ maxLen) (n : Nat) (hn : n ≤ 1000000) (x : Int) (hx : x = (n : Int)) (w : World) :
    Calls Tryz.prog 58 #[.string s, .int .i64 x] w fun e w' => e = .returned (.string (bs (s.data.toList.take n))) ∧ w = w' := by
  unfold maxLen at hs
  subst hx
  obtain ⟨k, hk⟩ : ∃ k : Nat, (k : Int) = min (s.size : Int) (n : Int) := ⟨min s.size n, by omega⟩
  have hmn := fun w ts t => min2' (P := Tryz.prog) w ts t (s.size : Int) (n : Int) (k : Int) hk
  have hsl := cutS s.data.toList k (k : Int) rfl (by simp; omega)
  rw [bs_list] at hsl
  have HE := Lib.hid (show s.data.toList.take k = s.data.toList.take n by
    by_cases h : s.size ≤ n
    · rw [List.take_of_length_le (show s.data.toList.length ≤ n by simpa using h), List.take_of_length_le (by simp; omega)]
    · rw [show k = n by omega])
  clear hk
  go_enter Tryz.func58, Tryz.ntmps58
  go_wp2
  go_ret
  rw [HE.out]
  exact ⟨rfl, rfl⟩
theorem dropS (b : List UInt8) (k : Nat) (x : Int) (hx : x = (k : Int)) (hk : k ≤ b.length) (w : World) : (Instr.slice 9 (.string (bs b)) (some (.int .i64 x)) none none).run Tryz.prog w = .ok (.string (bs (b.drop k))) w := by
  subst hx
  rw [run_slice_string_l (P := Tryz.prog) w 9 (bs b) Tryz.underlying9 .i64 (k : Int) (by omega) (by rw [bs_size]; omega)]
  congr 2
  apply ByteArray.ext
  rw [ByteArray.data_extract]
  simp [bs]
  exact List.take_of_length_le (by rw [List.length_drop]; exact Nat.le_refl _)
theorem cutSS (b : List UInt8) (l h : Nat) (x y : Int) (hx : x = (l : Int)) (hy : y = (h : Int)) (h1 : l ≤ h) (h2 : h ≤ b.length) (w : World) : (Instr.slice 9 (.string (bs b)) (some (.int .i64 x)) (some (.int .i64 y)) none).run Tryz.prog w = .ok (.string (bs (cut b l (h - l)))) w := by
  subst hx hy
  rw [run_slice_string (P := Tryz.prog) w 9 (bs b) .i64 .i64 (l : Int) (h : Int) Tryz.underlying9 (by omega) (by omega) (by rw [bs_size]; omega)]
  congr 2
  apply ByteArray.ext
  rw [ByteArray.data_extract]
  simp [bs, cut]
end Go.Proofs.YtligapgjdpdihaaGreatDoor.Txt
