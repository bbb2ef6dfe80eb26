/-
  What the book's Pick answers.
-/
import Derived.Test.YtmkdhehdfdkbjaaCommon
set_option linter.unusedVariables false
set_option linter.unusedSimpArgs false
namespace Go.Proofs.Ytmkdhehdfdkbjaa.Book
open Go.RowKit
theorem ret_int {k : IntKind} {a b : Int} (h : a = b) : Ending.returned (.int k a) = .returned (.int k b) := by rw [h]
theorem pick_any (n : Int) (m : Nat) (hm : 0 < m) (hm2 : m ≤ 2000000) (w : World) : Calls Try.prog 26 #[.int .i64 n, .int .i64 (m : Int)] w fun e w' => e = .returned (.int .i64 (n % (m : Int))) ∧ w = w' := by
  have h0 : ((m : Int) == 0) = false := by simp; omega
  have hp : 0 ≤ n % (m : Int) := Int.emod_nonneg _ (by omega)
  have hlt : n % (m : Int) < (m : Int) := Int.emod_lt_of_pos _ (by omega)
  have e : n.tmod (m : Int) = n % (m : Int) ∨ n.tmod (m : Int) = n % (m : Int) - (m : Int) := by
    have h := Int.tmod_eq_emod (a := n) (b := (m : Int))
    split at h
    · left; omega
    · right; rw [h]; simp
  have hlo : -(m : Int) ≤ n.tmod (m : Int) ∧ n.tmod (m : Int) < (m : Int) := by omega
  by_cases hn : n.tmod (m : Int) < 0
  · have HE := Lib.hid (show n.tmod (m : Int) + (m : Int) = n % (m : Int) by omega)
    clear e
    go_enter Try.func26, Try.ntmps26
    go_wp2
    go_ret
    exact ⟨ret_int HE.out, rfl⟩
  · have HE := Lib.hid (show n.tmod (m : Int) = n % (m : Int) by omega)
    clear e
    go_enter Try.func26, Try.ntmps26
    go_wp2
    go_ret
    exact ⟨ret_int HE.out, rfl⟩
end Go.Proofs.Ytmkdhehdfdkbjaa.Book
