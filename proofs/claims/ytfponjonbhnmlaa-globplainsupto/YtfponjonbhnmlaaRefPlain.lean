/-
  What the document's own answer is to a pattern that says one text.
-/
import Derived.Test.YtfponjonbhnmlaaRefRight
import Derived.Test.YtfponjonbhnmlaaPlainMath
namespace Go.Proofs.Ytfponjonbhnmlaa.RefGlob
open Go.RowKit
open RuneM RefRune Own RefKeys GlobM

/-- where it stands -/
def PlainIn (s : ByteArray) (x6 x7 x8 : Value) : Prop :=
  ∃ i out f g its, x8 = .int .i64 ((i : Nat) : Int) ∧ x7 = .int .i64 ((width ((runes s).take i) : Nat) : Int) ∧ x6 = .string out ∧ i ≤ (runes s).length ∧ (runes s).length - i < f ∧ (runes s).length - i < g ∧
    plainF s ((runes s).length + 1) 0 (runes s) ByteArray.empty = plainF s f (width ((runes s).take i)) ((runes s).drop i) out ∧ itemsL (nums s) = (itemsF g ((nums s).drop i)).map (its ++ ·) ∧ out.size ≤ width ((runes s).take i)
theorem nums_at' (s : ByteArray) (k : Nat) (h : k < (runes s).length) : (nums s)[k]'(by rw [nums_length]; exact h) = (runes s)[k].1 := by simp [nums]
set_option maxHeartbeats 4000000 in
theorem plain_any (s : ByteArray) (hs : s.size ≤ 8796093022208) (w : World) : Calls Try.prog 15 #[.string s] w (PlainSays s w) := by
  have HPS : Hid (∀ e w', Below w.heap.size w w' → (∀ t, globPlain s = some t → e = .returned (.tuple #[.string t, .bool true])) → (globPlain s = none → e = .returned (.tuple #[.string ByteArray.empty, .bool false])) → PlainSays s w e w') := by
    intro e w' h1 h2 h3
    refine ⟨h1, ?_⟩
    cases hq : globPlain s with
    | none => exact h3 hq
    | some t => exact h2 t hq
  have hR := right_any s hs w
  have HRU := Lib.hid (fun w => runes_flat s hs w)
  have hn : (runes s).length ≤ 8796093022208 := Nat.le_trans (runes_length s) hs
  cases hg : globRight s with
  | false =>
    rw [hg] at hR
    have HR := Lib.hid hR
    have HG := Lib.hid (show globPlain s = none by simp [globPlain, hg])
    clear hg hR HRU
    go_enter Try.func15, Try.ntmps15
    go_wp2_with fail
    go_at_call 11
    with_reducible refine HR.out.mono ?_
    rintro e w1 ⟨rfl, hb⟩
    go_wp2
    go_ret2
    exact HPS.out _ _ hb (fun t h => by rw [HG.out] at h; cases h) (fun _ => rfl)
  | true =>
    rw [hg] at hR
    have HR := Lib.hid hR
    have HG := Lib.hid (show globPlain s = plainF s ((runes s).length + 1) 0 (runes s) ByteArray.empty by simp [globPlain, hg])
    have HSM := Lib.hid (show itemsL (nums s) ≠ none by intro h; simp [globRight, h] at hg)
    have HST := Lib.hid (show itemsL (nums s) = (itemsF ((runes s).length + 1) ((nums s).drop 0)).map ([] ++ ·) by
      have := HSM.out
      unfold itemsL at this ⊢
      split at this
      · exact absurd rfl this
      · rename_i h; rw [if_neg h, nums_length]; simp)
    clear hg hR
    go_enter Try.func15, Try.ntmps15
    go_wp2_with fail
    go_at_call 11
    with_reducible refine HR.out.mono ?_
    rintro e w1 ⟨rfl, hb⟩
    have HB1 := Lib.hid hb
    clear hb
    go_wp2_with fail
    go_at_call 24
    with_reducible refine (HRU.out _).mono ?_
    rintro e w2 ⟨ra, rcap, rb, rd, rfl, hca, hcb, hbw⟩
    have HBW := Lib.hid (HB1.out.trans (hbw.mono HB1.out.size))
    have HCA := Lib.hid hca
    have HCB := Lib.hid hcb
    clear hca hcb hbw HB1 HRU HR
    go_wp2
    go_loop [6, 7, 8] (fun x6 x7 x8 => PlainIn s x6 x7 x8) (fun _ _ x8 => (runes s).length - (intOf x8).toNat)
    case atStart => exact ⟨0, ByteArray.empty, (runes s).length + 1, (runes s).length + 1, [], rfl, rfl, rfl, Nat.zero_le _, by omega, by omega, rfl, HST.out, Nat.zero_le _⟩
    case round =>
      obtain ⟨i, out, f, g, its, rfl, rfl, rfl, hi, hf, hgl, hP, hS, ho⟩ := hrel
      obtain ⟨f, rfl⟩ : ∃ m, f = m + 1 := ⟨f - 1, by omega⟩
      obtain ⟨g, rfl⟩ : ∃ m, g = m + 1 := ⟨g - 1, by omega⟩
      have hwl : width ((runes s).take i) ≤ s.size := by have := width_take_le (runes s) i; rw [runes_width] at this; exact this
      have HS := Lib.hid hS
      clear hS
      by_cases hlt : i < (runes s).length
      · obtain ⟨ga, rfl, c1⟩ := HCA.out.at (nums_at _ i hlt)
        obtain ⟨gb, rfl, c2⟩ := HCB.out.at (sizes_at _ i hlt)
        have hr : i < (nums s).length := by rw [nums_length]; exact hlt
        have HIT := item_of hr
        rw [nums_at' s i hlt] at HIT
        have HIT := Lib.hid HIT
        have HW := Lib.hid (width_take_succ _ i hlt)
        have hx : width ((runes s).take i) + (runes s)[i].2 ≤ s.size := by rw [← HW.out]; have := width_take_le (runes s) (i + 1); rw [runes_width] at this; exact this
        have l1 : (i : Int) < ((runes s).length : Int) := by omega
        rw [List.drop_eq_getElem_cons hlt] at hP
        by_cases h3 : (runes s)[i].1 = 42 ∨ (runes s)[i].1 = 63 ∨ (runes s)[i].1 = 91
        · rw [plainF_no _ _ _ _ _ _ h3, ← HG.out] at hP
          have HP := Lib.hid hP
          clear hP HIT
          rcases h3 with h | h | h
          · rw [h] at c1
            clear h
            go_wp2
            go_ret2
            exact HPS.out _ _ HBW.out (fun t h => by rw [HP.out] at h; cases h) (fun _ => rfl)
          · rw [h] at c1
            clear h
            go_wp2
            go_ret2
            exact HPS.out _ _ HBW.out (fun t h => by rw [HP.out] at h; cases h) (fun _ => rfl)
          · rw [h] at c1
            clear h
            go_wp2
            go_ret2
            exact HPS.out _ _ HBW.out (fun t h => by rw [HP.out] at h; cases h) (fun _ => rfl)
        · have h42 : ¬ (runes s)[i].1 = 42 := fun h => h3 (.inl h)
          have h63 : ¬ (runes s)[i].1 = 63 := fun h => h3 (.inr (.inl h))
          have h91 : ¬ (runes s)[i].1 = 91 := fun h => h3 (.inr (.inr h))
          by_cases h92 : (runes s)[i].1 = 92
          · by_cases hlt2 : i + 1 < (runes s).length
            · have hr2 : i + 1 < (nums s).length := by rw [nums_length]; exact hlt2
              obtain ⟨gb', e0, c3⟩ := HCB.out.at (sizes_at _ (i + 1) hlt2)
              cases e0
              have HSTEP := Lib.hid (items_step (n := i + 2) (it := one (nums s)[i + 1]) HS.out hr (by rw [HIT.out, if_neg h42, if_neg h63, if_pos h92, List.drop_eq_getElem_cons hr2]))
              rw [List.drop_eq_getElem_cons hlt2, plainF_two _ _ _ _ _ _ _ h92] at hP
              have HW2 := Lib.hid (width_take_succ _ (i + 1) hlt2)
              have hx2 : width ((runes s).take i) + (runes s)[i].2 + (runes s)[i + 1].2 ≤ s.size := by rw [← HW.out, ← HW2.out]; have := width_take_le (runes s) (i + 2); rw [runes_width] at this; exact this
              have l2 : (i : Int) + 1 < ((runes s).length : Int) := by omega
              have HP := Lib.hid hP
              rw [h92] at c1
              clear hP h3 h42 h63 h91 h92 HIT HS
              generalize (nums s)[i + 1] = cc at HSTEP
              generalize (runes s)[i] = x at c1 c2 HW HW2 hx hx2 HP
              generalize (runes s)[i + 1] = y at c3 HW2 hx2 HP
              rw [HW.out] at HW2
              generalize width ((runes s).take i) = p at HW HW2 hx hx2 hwl ho HP
              have HO := Lib.hid ho
              have z4 : ¬ 9223372036854775807 < out.size + y.2 := by omega
              clear ho HW
              have z1 : (0 : Int) ≤ (p : Int) + (x.2 : Int) := by omega
              have z2 : (p : Int) + (x.2 : Int) ≤ (p : Int) + (x.2 : Int) + (y.2 : Int) := by omega
              have z3 : (p : Int) + (x.2 : Int) + (y.2 : Int) ≤ (s.size : Int) := by omega
              go_wp2
              go_round
              case rel => exact ⟨i + 2, out ++ s.extract (p + x.2) (p + x.2 + y.2), f, g, its ++ [one cc], by go_num, by rw [HW2.out]; go_num, rfl, by omega, by omega, by omega, by rw [HW2.out]; exact HP.out, HSTEP.out, by rw [HW2.out]; have := HO.out; simp; omega⟩
              case measure => simp [intOf]; omega
            · exact absurd (items_stop HS.out hr (by rw [HIT.out, if_neg h42, if_neg h63, if_pos h92, List.drop_of_length_le (by rw [nums_length]; omega)])) HSM.out
          · have HSTEP := Lib.hid (items_step (n := i + 1) (it := one (runes s)[i].1) HS.out hr (by rw [HIT.out, if_neg h42, if_neg h63, if_neg h92, if_neg h91]))
            rw [plainF_one _ _ _ _ _ _ h3 h92] at hP
            have HP := Lib.hid hP
            have q42 : (((runes s)[i].1 : Int) == 42) = false := by simp; omega
            have q63 : (((runes s)[i].1 : Int) == 63) = false := by simp; omega
            have q91 : (((runes s)[i].1 : Int) == 91) = false := by simp; omega
            have q92 : (((runes s)[i].1 : Int) == 92) = false := by simp; omega
            clear hP h3 h42 h63 h91 h92 HIT HS
            generalize (runes s)[i] = x at c1 c2 HW hx HP HSTEP q42 q63 q91 q92
            generalize width ((runes s).take i) = p at HW hx hwl ho HP
            have HO := Lib.hid ho
            have z4 : ¬ 9223372036854775807 < out.size + x.2 := by omega
            clear ho
            have z1 : (0 : Int) ≤ (p : Int) := by omega
            have z2 : (p : Int) ≤ (p : Int) + (x.2 : Int) := by omega
            have z3 : (p : Int) + (x.2 : Int) ≤ (s.size : Int) := by omega
            go_wp2
            go_round
            case rel => exact ⟨i + 1, out ++ s.extract p (p + x.2), f, g, its ++ [one x.1], by go_num, by rw [HW.out]; go_num, rfl, by omega, by omega, by omega, by rw [HW.out]; exact HP.out, HSTEP.out, by rw [HW.out]; have := HO.out; simp; omega⟩
            case measure => simp [intOf]; omega
      · have l1 : ¬ (i : Int) < ((runes s).length : Int) := by omega
        rw [List.drop_of_length_le (by omega), plainF_end, ← HG.out] at hP
        have HP := Lib.hid hP
        clear hP
        go_wp2
        go_ret2
        exact HPS.out _ _ HBW.out (fun t h => by rw [HP.out] at h; cases h; rfl) (fun h => by rw [HP.out] at h; cases h)
end Go.Proofs.Ytfponjonbhnmlaa.RefGlob
