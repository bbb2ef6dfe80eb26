/-
  Whether a text is a pattern; whether a part has a rune.
-/
import Derived.Test.YtfponjonbhnmlaaGlobF
import Derived.Test.YtfponjonbhnmlaaMatchMath
namespace Go.Proofs.Ytfponjonbhnmlaa.Glob
open Go.RowKit
open RuneM RefRune Own RefKeys GlobM Keys RefGlob

theorem right_any (p : ByteArray) (hp : p.size ≤ lim) (w : World) : Calls Try.prog 10 #[.string p] w fun e w' => e = .returned (.bool (itemsL (nums p)).isSome) ∧ Below w.heap.size w w' := by
  have HPA := Lib.hid (parts_any p hp w)
  cases hq : itemsL (nums p) with
  | none =>
    go_enter Try.func10, Try.ntmps10
    go_wp2_with fail
    go_at_call 20
    with_reducible refine HPA.out.mono ?_
    rintro e w1 ⟨hb, hm⟩
    rw [hq] at hm
    subst hm
    have HB := Lib.hid hb
    clear hb hq
    go_wp2
    go_ret
    exact ⟨rfl, HB.out⟩
  | some its =>
    go_enter Try.func10, Try.ntmps10
    go_wp2_with fail
    go_at_call 20
    with_reducible refine HPA.out.mono ?_
    rintro e w1 ⟨hb, hm⟩
    rw [hq] at hm
    obtain ⟨v, ps, rfl, hM, _⟩ := hm
    obtain ⟨pv, rfl⟩ := owns_slice hM.row
    have HB := Lib.hid hb
    clear hb hq hM
    go_wp2
    go_ret
    exact ⟨rfl, HB.out⟩
theorem spans_at {w : World} {v : Value} {sp : List (Nat × Nat)} (h : SpansM w 0 v sp) {k : Nat} (hk : k < sp.length) : ∃ g cap, v = .slice (some ⟨g, 0, none⟩) sp.length cap ∧ g < w.heap.size ∧ w.cell? ⟨g, k * 2, none⟩ = some (.int .i32 (sp[k].1 : Int)) ∧ w.cell? ⟨g, k * 2 + 1, none⟩ = some (.int .i32 (sp[k].2 : Int)) := by
  have h1 := flat_at sp k sp[k] (by simp [hk])
  rw [Nat.mul_comm] at h1
  obtain ⟨g, cap, e, _, hg, _, c1⟩ := owns_cell h h1.1
  obtain ⟨g2, cap2, e2, _, _, _, c2⟩ := owns_cell h h1.2
  rw [e] at e2
  cases e2
  exact ⟨g, cap, e, hg, c1, c2⟩
theorem has_says {it : It} {r : Nat} (hk : it.kind = 2 → it.sp = []) : hasI it r = if it.sp.any (inSpan r) = true then !notOf it else notOf it := by
  have h0 : hasI it r = (decide (it.kind = 2) || (it.sp.any (inSpan r) != it.neg)) := rfl
  rw [h0]
  by_cases h2 : it.kind = 2
  · simp [h2, hk h2, notOf]
  · simp only [h2, decide_false, Bool.false_or, notOf, Bool.or_false]
    cases it.sp.any (inSpan r) <;> cases it.neg <;> rfl
set_option maxHeartbeats 2000000 in
theorem has_any (it : It) (spv : Value) (r : Nat) (w : World) (hS : SpansM w 0 spv it.sp) (hk : it.kind = 2 → it.sp = []) (hl : it.sp.length ≤ 1000000) :
    Calls Try.prog 35 #[.agg #[.bool (starOf it), .bool (notOf it), spv], .int .i32 (r : Int)] w fun e w' => e = .returned (.bool (hasI it r)) ∧ Below w.heap.size w w' := by
  have HI := Lib.hid (has_says (r := r) hk)
  obtain ⟨p, rfl⟩ := owns_slice hS
  have HC := Lib.hid (fun k (hk : k < it.sp.length) => spans_at hS hk)
  obtain ⟨b1, hb1⟩ : ∃ b1, b1 = starOf it := ⟨_, rfl⟩
  obtain ⟨b2, hb2⟩ : ∃ b2, b2 = notOf it := ⟨_, rfl⟩
  rw [← hb2] at HI
  rw [← hb1, ← hb2]
  have HT : Hid (Three (w.alloc (Obj.cells #[.bool b1, .bool b2, .slice p.1 it.sp.length p.2] 65)) w.heap.size 65 (.bool b1) (.bool b2) (.slice p.1 it.sp.length p.2)) := heap_new w _
  have HA := Lib.hid (bel_alloc w (Obj.cells #[.bool b1, .bool b2, .slice p.1 it.sp.length p.2] 65))
  clear hS hk hb1 hb2
  go_enter Try.func35, Try.ntmps35
  go_wp2
  go_loopw [10] (fun x wr => ∃ k : Nat, k ≤ it.sp.length ∧ x = .int .i64 (k : Int) ∧ (it.sp.take k).any (inSpan r) = false ∧ Below (w.heap.size + 1) (w.alloc (Obj.cells #[.bool b1, .bool b2, .slice p.1 it.sp.length p.2] 65)) wr) (fun x _ => it.sp.length - (intOf x).toNat)
  case atStart => exact ⟨0, Nat.zero_le _, rfl, rfl, Below.refl _ _⟩
  case round =>
    obtain ⟨k, hk, rfl, hno, hbl⟩ := hrel
    have HNO := Lib.hid hno
    have HBL := Lib.hid hbl
    have hz := hbl.size
    rw [size_alloc] at hz
    obtain ⟨x0, x1, x2, y0, y1, y2⟩ := (HT.out.below hbl (Nat.lt_succ_self _)).facts
    clear hno hbl
    by_cases hlt : k < it.sp.length
    · obtain ⟨g, cap, e, hg, c1, c2⟩ := HC.out k hlt
      have c1 := HBL.out.cell (p := ⟨g, k * 2, none⟩) (Nat.lt_succ_of_lt hg) ▸ (HA.out.cell (p := ⟨g, k * 2, none⟩) hg).trans c1
      have c2 := HBL.out.cell (p := ⟨g, k * 2 + 1, none⟩) (Nat.lt_succ_of_lt hg) ▸ (HA.out.cell (p := ⟨g, k * 2 + 1, none⟩) hg).trans c2
      have HTk := Lib.hid (any_take (r := r) hlt)
      obtain ⟨pa, pc⟩ := p
      simp only [Value.slice.injEq, true_and] at e
      obtain ⟨rfl, rfl⟩ := e
      have l1 : (k : Int) < (it.sp.length : Int) := by omega
      have m1 : g ≠ wr.heap.size := by omega
      have m2 : w.heap.size ≠ wr.heap.size := by omega
      have HIN : Hid (inSpan r it.sp[k] = (decide (it.sp[k].1 ≤ r) && decide (r ≤ it.sp[k].2))) := rfl
      have HAN : Hid (inSpan r it.sp[k] = true → it.sp.any (inSpan r) = true) := fun h => List.any_eq_true.2 ⟨_, List.getElem_mem hlt, h⟩
      generalize it.sp[k] = s at c1 c2 HTk HIN HAN
      by_cases a1 : s.1 ≤ r
      · have d1 : decide ((s.1 : Int) ≤ (r : Int)) = true := by simp; omega
        by_cases a2 : r ≤ s.2
        · have d2 : decide ((r : Int) ≤ (s.2 : Int)) = true := by simp; omega
          have e1 : (wr.alloc (Obj.cells #[Value.int IntKind.i32 (s.1 : Int), Value.int IntKind.i32 (s.2 : Int)] 77)).cell? ⟨w.heap.size, 1, none⟩ = some (.bool b2) := cell_alloc x1 _
          go_wp2
          go_ret
          exact ⟨ret_bool (by rw [HI.out, HAN.out (by rw [HIN.out]; simp [a1, a2])]; rfl), HA.out.trans ((HBL.out.alloc hz _).mono (Nat.le_succ _))⟩
        · have d2 : decide ((r : Int) ≤ (s.2 : Int)) = false := by simp; omega
          go_wp2
          go_roundw
          case rel => exact ⟨k + 1, by omega, by go_num, by rw [HTk.out, HNO.out, HIN.out]; simp [a2], (HBL.out.alloc hz _)⟩
          case measure => simp [intOf]; omega
      · have d1 : decide ((s.1 : Int) ≤ (r : Int)) = false := by simp; omega
        go_wp2
        go_roundw
        case rel => exact ⟨k + 1, by omega, by go_num, by rw [HTk.out, HNO.out, HIN.out]; simp [a1], (HBL.out.alloc hz _)⟩
        case measure => simp [intOf]; omega
    · have l1 : ¬ (k : Int) < (it.sp.length : Int) := by omega
      have HE := Lib.hid (show it.sp.any (inSpan r) = false by rw [← HNO.out, List.take_of_length_le (by omega)])
      go_wp2
      go_ret
      exact ⟨ret_bool (by rw [HI.out, HE.out]; rfl), HA.out.trans (HBL.out.mono (Nat.le_succ _))⟩
end Go.Proofs.Ytfponjonbhnmlaa.Glob
