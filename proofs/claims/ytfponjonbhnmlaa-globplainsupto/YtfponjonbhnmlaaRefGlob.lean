/-
  What the document's own reading of patterns answers: the ends of a set's items.
-/
import Derived.Test.YtfponjonbhnmlaaRefRunes
import Derived.Test.YtfponjonbhnmlaaGlobMath
namespace Go.Proofs.Ytfponjonbhnmlaa.RefGlob
open Go.RowKit
open RuneM RefRune Own RefKeys GlobM

/-- numbers as values -/
def ns (l : List Nat) : List Value := l.map I
theorem ns_len (l : List Nat) : (ns l).length = l.length := by simp [ns]
theorem ns_at (l : List Nat) (k : Nat) (h : k < l.length) : (ns l)[k]? = some (.int .i64 ((l[k] : Nat) : Int)) := by simp [ns, I, h]
theorem ns_nums (s : ByteArray) : numsOf (runes s) = ns (nums s) := by simp [numsOf, ns, nums]
/-- what end answers -/
def endV (l : List Nat) (i : Nat) : Value := match endL (l.drop i) with
  | none => .tuple #[.int .i64 0, .int .i64 (i : Int), .bool false]
  | some (c, t) => .tuple #[.int .i64 (c : Int), .int .i64 ((l.length - t.length : Nat) : Int), .bool true]
theorem endV_end {l : List Nat} {i : Nat} (h : ¬ i < l.length) : endV l i = .tuple #[.int .i64 0, .int .i64 (i : Int), .bool false] := by
  unfold endV; rw [List.drop_of_length_le (by omega)]; rfl
theorem endV_no {l : List Nat} {i : Nat} (h : i < l.length) (hc : l[i] = 93 ∨ l[i] = 45) : endV l i = .tuple #[.int .i64 0, .int .i64 (i : Int), .bool false] := by
  unfold endV; rw [List.drop_eq_getElem_cons h]; simp [endL, hc]
theorem endV_one {l : List Nat} {i : Nat} (h : i < l.length) (hc : ¬ (l[i] = 93 ∨ l[i] = 45)) (h2 : l[i] ≠ 92) : endV l i = .tuple #[.int .i64 (l[i] : Int), .int .i64 ((i + 1 : Nat) : Int), .bool true] := by
  unfold endV; rw [List.drop_eq_getElem_cons h]; simp only [endL, hc, if_false, h2, if_true, ne_eq, not_false_eq_true]
  simp; omega
theorem endV_last {l : List Nat} {i : Nat} (h : i < l.length) (h2 : l[i] = 92) (h3 : ¬ i + 1 < l.length) : endV l i = .tuple #[.int .i64 0, .int .i64 (i : Int), .bool false] := by
  unfold endV; rw [List.drop_eq_getElem_cons h, List.drop_of_length_le (by omega : l.length ≤ i + 1)]; simp [endL, h2]
theorem endV_two {l : List Nat} {i : Nat} (h : i < l.length) (h2 : l[i] = 92) (h3 : i + 1 < l.length) : endV l i = .tuple #[.int .i64 (l[i + 1] : Int), .int .i64 ((i + 2 : Nat) : Int), .bool true] := by
  unfold endV; rw [List.drop_eq_getElem_cons h, List.drop_eq_getElem_cons h3]; simp only [endL, h2]
  simp; omega
set_option maxHeartbeats 1000000 in
theorem end_any (a : Option Addr) (l : List Nat) (cap i : Nat) (hl : l.length ≤ 1000000) (hi : i ≤ l.length) (w : World) (hc : Cells w a (ns l)) :
    Calls Try.prog 42 #[.slice a l.length cap, .int .i64 (i : Int)] w fun e w' => e = .returned (endV l i) ∧ w' = w := by
  by_cases h : i < l.length
  · obtain ⟨g, rfl, e1⟩ := hc.at (ns_at l i h)
    have l1 : (i : Int) < (l.length : Int) := by omega
    by_cases h1 : l[i] = 93 ∨ l[i] = 45
    · have HE := Lib.hid (endV_no h h1)
      clear hc
      rcases h1 with h1 | h1
      · rw [h1] at e1
        go_enter Try.func42, Try.ntmps42
        go_wp2
        go_ret3
        exact ⟨by rw [HE.out]; rfl, rfl⟩
      · rw [h1] at e1
        go_enter Try.func42, Try.ntmps42
        go_wp2
        go_ret3
        exact ⟨by rw [HE.out]; rfl, rfl⟩
    · by_cases h2 : l[i] = 92
      · by_cases h3 : i + 1 < l.length
        · obtain ⟨g', e0, e2⟩ := hc.at (ns_at l (i + 1) h3)
          cases e0
          have HE := Lib.hid (endV_two h h2 h3)
          rw [h2] at e1
          have l2 : (i : Int) + 1 < (l.length : Int) := by omega
          have e2' : w.cell? ⟨g, i + 1, none⟩ = some (.int .i64 (l[i + 1] : Int)) := e2
          clear hc h1 e2
          generalize l[i + 1] = d at e2' HE
          go_enter Try.func42, Try.ntmps42
          go_wp2
          go_ret3
          exact ⟨by rw [HE.out]; rfl, rfl⟩
        · have HE := Lib.hid (endV_last h h2 h3)
          rw [h2] at e1
          have l2 : ¬ (i : Int) + 1 < (l.length : Int) := by omega
          clear hc h1
          go_enter Try.func42, Try.ntmps42
          go_wp2
          go_ret3
          exact ⟨by rw [HE.out]; rfl, rfl⟩
      · have HE := Lib.hid (endV_one h h1 h2)
        have q1 : (((l[i] : Nat) : Int) == 93) = false := by simp; omega
        have q2 : (((l[i] : Nat) : Int) == 45) = false := by simp; omega
        have q3 : (((l[i] : Nat) : Int) != 92) = true := by simp; omega
        clear hc h1 h2
        generalize l[i] = d at e1 HE q1 q2 q3
        go_enter Try.func42, Try.ntmps42
        go_wp2
        go_ret3
        exact ⟨by rw [HE.out]; rfl, rfl⟩
  · have HE := Lib.hid (endV_end h)
    have l1 : ¬ (i : Int) < (l.length : Int) := by omega
    clear hc
    go_enter Try.func42, Try.ntmps42
    go_wp2
    go_ret3
    exact ⟨by rw [HE.out]; rfl, rfl⟩
end Go.Proofs.Ytfponjonbhnmlaa.RefGlob
