/-
  Texts that are cut; the book's Short.
-/
import Derived.Test.YtdbfclngllhdlaaFlashA
set_option linter.unusedVariables false
set_option linter.unusedSimpArgs false
namespace Go.Proofs.Ytdbfclngllhdlaa.Txt
open Go.RowKit
open Flash (bs bs_size bs_list list_bs cut)
open Bytes
theorem min2' {P : Program} (w : World) (ts : Array TypeId) (t : TypeId) (x k m : Int) (hm : m = min x k) : (Builtin.min_ ts t #[.int .i64 x, .int .i64 k]).run P w = .ok (.int .i64 m) w := by
  have e : (Builtin.min_ ts t #[.int .i64 x, .int .i64 k]).run P w = .ok (.int .i64 (if k < x then k else x)) w := by
    simp [Builtin.min_, Builtin.min2]
  rw [e, hm]; congr 2; split <;> omega
theorem cutS (b : List UInt8) (k : Nat) (x : Int) (hx : x = (k : Int)) (hk : k ≤ b.length) (w : World) : (Instr.slice 9 (.string (bs b)) none (some (.int .i64 x)) none).run Try.prog w = .ok (.string (bs (b.take k))) w := by
  subst hx
  rw [run_slice_string_h (P := Try.prog) w 9 (bs b) Try.underlying9 .i64 (k : Int) (by omega) (by rw [bs_size]; omega)]
  congr 2
  apply ByteArray.ext
  rw [ByteArray.data_extract]
  simp [bs]
set_option maxRecDepth 100000 in
theorem shortB_any (s : ByteArray) (hs : s.size ≤ maxLen) (n : Nat) (hn : n ≤ 1000000) (x : Int) (hx : x = (n : Int)) (w : World) :
    Calls Try.prog 24 #[.string s, .int .i64 x] w fun e w' => e = .returned (.string (bs (s.data.toList.take n))) ∧ w = w' := by
  unfold maxLen at hs
  subst hx
  obtain ⟨k, hk⟩ : ∃ k : Nat, (k : Int) = min (s.size : Int) (n : Int) := ⟨min s.size n, by omega⟩
  have hmn := fun w ts t => min2' (P := Try.prog) w ts t (s.size : Int) (n : Int) (k : Int) hk
  have hsl := cutS s.data.toList k (k : Int) rfl (by simp; omega)
  rw [bs_list] at hsl
  have HE := Lib.hid (show s.data.toList.take k = s.data.toList.take n by
    by_cases h : s.size ≤ n
    · rw [List.take_of_length_le (show s.data.toList.length ≤ n by simpa using h), List.take_of_length_le (by simp; omega)]
    · rw [show k = n by omega])
  clear hk
  go_enter Try.func24, Try.ntmps24
  go_wp2
  go_ret
  rw [HE.out]
  exact ⟨rfl, rfl⟩
theorem dropS (b : List UInt8) (k : Nat) (x : Int) (hx : x = (k : Int)) (hk : k ≤ b.length) (w : World) : (Instr.slice 9 (.string (bs b)) (some (.int .i64 x)) none none).run Try.prog w = .ok (.string (bs (b.drop k))) w := by
  subst hx
  rw [run_slice_string_l (P := Try.prog) w 9 (bs b) Try.underlying9 .i64 (k : Int) (by omega) (by rw [bs_size]; omega)]
  congr 2
  apply ByteArray.ext
  rw [ByteArray.data_extract]
  simp [bs]
  exact List.take_of_length_le (by rw [List.length_drop]; exact Nat.le_refl _)
theorem cutSS (b : List UInt8) (l h : Nat) (x y : Int) (hx : x = (l : Int)) (hy : y = (h : Int)) (h1 : l ≤ h) (h2 : h ≤ b.length) (w : World) : (Instr.slice 9 (.string (bs b)) (some (.int .i64 x)) (some (.int .i64 y)) none).run Try.prog w = .ok (.string (bs (cut b l (h - l)))) w := by
  subst hx hy
  rw [run_slice_string (P := Try.prog) w 9 (bs b) .i64 .i64 (l : Int) (h : Int) Try.underlying9 (by omega) (by omega) (by rw [bs_size]; omega)]
  congr 2
  apply ByteArray.ext
  rw [ByteArray.data_extract]
  simp [bs, cut]
end Go.Proofs.Ytdbfclngllhdlaa.Txt
