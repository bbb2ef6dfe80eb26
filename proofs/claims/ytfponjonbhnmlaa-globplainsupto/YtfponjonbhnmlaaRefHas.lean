/-
  Whether an item of a pattern has a rune, by the document's own answer.
-/
import Derived.Test.YtfponjonbhnmlaaRefParts
import Derived.Test.YtfponjonbhnmlaaMatchMath
namespace Go.Proofs.Ytfponjonbhnmlaa.RefGlob
open Go.RowKit
open RuneM RefRune Own RefKeys GlobM

theorem row_at {w : World} {p : Option Addr × Nat × Nat} {l : List Nat} (h : Mine w 0 3 (.slice p.1 p.2.1 p.2.2) (ns l)) : p.2.1 = l.length ∧ ∀ k, k < l.length → ∃ g, p.1 = some ⟨g, 0, none⟩ ∧ ∃ (hk : k < l.length), w.cell? ⟨g, k, none⟩ = some (.int .i64 ((l[k] : Nat) : Int)) := by
  obtain ⟨a, cap, e, hc⟩ := h.row
  simp only [Value.slice.injEq] at e
  refine ⟨by rw [e.2.1, ns_len], fun k hk => ?_⟩
  obtain ⟨g, ha, hcell⟩ := Cells.at (show Cells w a (ns l) from hc) (ns_at l k hk)
  exact ⟨g, by rw [e.1, ha], hk, hcell⟩
set_option maxHeartbeats 2000000 in
theorem has_any (it : It) (p q : Option Addr × Nat × Nat) (r : Nat) (w : World) (h1 : Mine w 0 3 (.slice p.1 p.2.1 p.2.2) (ns (it.sp.map (·.1)))) (h2 : Mine w 0 3 (.slice q.1 q.2.1 q.2.2) (ns (it.sp.map (·.2)))) (hl : it.sp.length ≤ 1000000) :
    Calls Try.prog 25 #[.agg #[.int .i64 (it.kind : Int), .bool it.neg, .slice p.1 p.2.1 p.2.2, .slice q.1 q.2.1 q.2.2], .int .i64 (r : Int)] w fun e w' => e = .returned (.bool (hasI it r)) ∧ Below w.heap.size w w' := by
  obtain ⟨n1, c1⟩ := row_at h1
  obtain ⟨n2, c2⟩ := row_at h2
  rw [List.length_map] at n1 n2
  obtain ⟨pa, pn, pc⟩ := p
  obtain ⟨qa, qn, qc⟩ := q
  simp only at n1 n2 c1 c2 h1 h2
  subst n1 n2
  have HI : Hid (hasI it r = (decide (it.kind = 2) || (it.sp.any (inSpan r) != it.neg))) := rfl
  have HC1 := Lib.hid c1
  have HC2 := Lib.hid c2
  clear c1 c2 h1 h2
  by_cases hk2 : it.kind = 2
  · have q2 : ((it.kind : Int) == 2) = true := by simp; omega
    go_enter Try.func25, Try.ntmps25
    go_wp2
    go_ret
    exact ⟨ret_bool (by rw [HI.out]; simp [hk2]), (Below.refl _ _).alloc (Nat.le_refl _) _⟩
  · have q2 : ((it.kind : Int) == 2) = false := by simp; omega
    go_enter Try.func25, Try.ntmps25
    go_wp2
    go_loop [5, 6] (fun x5 x6 => ∃ k : Nat, k ≤ it.sp.length ∧ x6 = .int .i64 (k : Int) ∧ x5 = .bool ((it.sp.take k).any (inSpan r))) (fun _ x6 => it.sp.length - (intOf x6).toNat)
    case atStart => exact ⟨0, Nat.zero_le _, rfl, rfl⟩
    case round =>
      obtain ⟨k, hk, rfl, rfl⟩ := hrel
      by_cases hlt : k < it.sp.length
      · obtain ⟨g1, rfl, hk1, e1⟩ := HC1.out k (by simpa using hlt)
        obtain ⟨g2, rfl, hk2', e2⟩ := HC2.out k (by simpa using hlt)
        have HT := Lib.hid (any_take (r := r) hlt)
        have l1 : (k : Int) < (it.sp.length : Int) := by omega
        have b1 := block_lt_of_cell e1
        have b2 := block_lt_of_cell e2
        have m1 : g1 ≠ w.heap.size := Nat.ne_of_lt b1
        have m2 : g2 ≠ w.heap.size := Nat.ne_of_lt b2
        simp only [List.getElem_map] at e1 e2
        have HIN : Hid (inSpan r it.sp[k] = (decide (it.sp[k].1 ≤ r) && decide (r ≤ it.sp[k].2))) := rfl
        generalize it.sp[k] = s at e1 e2 HT HIN
        generalize (it.sp.take k).any (inSpan r) = b0 at HT
        by_cases a1 : s.1 ≤ r
        · have d1 : decide ((s.1 : Int) ≤ (r : Int)) = true := by simp; omega
          by_cases a2 : r ≤ s.2
          · have d2 : decide ((r : Int) ≤ (s.2 : Int)) = true := by simp; omega
            go_wp2
            go_round
            case rel => exact ⟨k + 1, by omega, by go_num, by rw [HT.out, HIN.out]; simp [a1, a2]⟩
            case measure => simp [intOf]; omega
          · have d2 : decide ((r : Int) ≤ (s.2 : Int)) = false := by simp; omega
            go_wp2
            go_round
            case rel => exact ⟨k + 1, by omega, by go_num, by rw [HT.out, HIN.out]; simp [a1, a2]⟩
            case measure => simp [intOf]; omega
        · have d1 : decide ((s.1 : Int) ≤ (r : Int)) = false := by simp; omega
          go_wp2
          go_round
          case rel => exact ⟨k + 1, by omega, by go_num, by rw [HT.out, HIN.out]; simp [a1]⟩
          case measure => simp [intOf]; omega
      · have l1 : ¬ (k : Int) < (it.sp.length : Int) := by omega
        have HE := Lib.hid (show (it.sp.take k).any (inSpan r) = it.sp.any (inSpan r) by rw [List.take_of_length_le (by omega)])
        generalize (it.sp.take k).any (inSpan r) = b0 at HE
        go_wp2
        go_ret
        exact ⟨ret_bool (by rw [HI.out, ← HE.out]; simp only [hk2]; cases b0 <;> cases it.neg <;> rfl), (Below.refl _ _).alloc (Nat.le_refl _) _⟩
end Go.Proofs.Ytfponjonbhnmlaa.RefGlob
