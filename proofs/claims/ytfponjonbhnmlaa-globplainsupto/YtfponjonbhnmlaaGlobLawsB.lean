/-
  The walks of the other laws of chapter 3: the one text that a pattern says, sets, counts.
-/
import Derived.Test.YtfponjonbhnmlaaGlobLaws
import Derived.Test.YtfponjonbhnmlaaGlobMathD
import Derived.Test.YtfponjonbhnmlaaKeysB
namespace Go.Proofs.Ytfponjonbhnmlaa.Glob
open Go.RowKit
open RuneM RefRune Own RefKeys GlobM Keys RefGlob

/-- is each byte part of a rune that stands there? -/
def badB (x : Nat × Nat) : Bool := decide (x.1 = 65533) && decide (x.2 = 1)
def wholeB (s : ByteArray) : Bool := (runes s).all fun x => !badB x
theorem wholeB_whole {s : ByteArray} (h : wholeB s = true) : ∀ x ∈ runes s, whole x := by
  intro x hx ⟨e1, e2⟩
  have := List.all_eq_true.1 h x hx
  simp [badB, e1, e2] at this
set_option maxHeartbeats 2000000 in
theorem whole_any (s : ByteArray) (hs : s.size ≤ 8796093022208) (w : World) : Calls Try.prog 16 #[.string s] w fun e w' => e = .returned (.bool (wholeB s)) ∧ Below w.heap.size w w' := by
  have HRU := Lib.hid (runes_flat s hs w)
  have hn : (runes s).length ≤ 8796093022208 := Nat.le_trans (runes_length s) hs
  go_enter Try.func16, Try.ntmps16
  go_wp2_with fail
  go_at_call 24
  with_reducible refine HRU.out.mono ?_
  rintro e w1 ⟨a, c, b, d, rfl, ha, hb, hbel⟩
  have HA := Lib.hid ha
  have HB := Lib.hid hb
  have HBL := Lib.hid hbel
  clear ha hb hbel HRU
  go_wp2
  go_loop [5] (fun x5 => ∃ i : Nat, i ≤ (runes s).length ∧ x5 = .int .i64 (i : Int) ∧ ((runes s).take i).all (fun x => !badB x) = true) (fun x5 => (runes s).length - (intOf x5).toNat)
  case atStart => exact ⟨0, Nat.zero_le _, rfl, rfl⟩
  case round =>
    obtain ⟨i, hi, rfl, hall⟩ := hrel
    have HALL := Lib.hid hall
    clear hall
    by_cases hlt : i < (runes s).length
    · obtain ⟨g1, rfl, c1⟩ := HA.out.at (nums_at (runes s) i hlt)
      obtain ⟨g2, rfl, c2⟩ := HB.out.at (sizes_at (runes s) i hlt)
      have l1 : (i : Int) < ((runes s).length : Int) := by omega
      have HT := Lib.hid (show ((runes s).take (i + 1)).all (fun x => !badB x) = (((runes s).take i).all (fun x => !badB x) && !badB (runes s)[i]) by
        rw [List.take_succ_eq_append_getElem hlt, List.all_append]; simp)
      have HNO : Hid (badB (runes s)[i] = true → wholeB s = false) := fun h => by
        rw [wholeB, List.all_eq_false]; exact ⟨_, List.getElem_mem hlt, by simp [h]⟩
      have HBD : Hid (badB (runes s)[i] = (decide ((runes s)[i].1 = 65533) && decide ((runes s)[i].2 = 1))) := rfl
      generalize (runes s)[i] = x at c1 c2 HT HNO HBD
      by_cases h1 : x.1 = 65533
      · have q1 : ((x.1 : Int) == 65533) = true := by simp; omega
        by_cases h2 : x.2 = 1
        · have q2 : ((x.2 : Int) == 1) = true := by simp; omega
          go_wp2
          go_ret
          exact ⟨ret_bool (HNO.out (by rw [HBD.out]; simp [h1, h2])).symm, HBL.out⟩
        · have q2 : ((x.2 : Int) == 1) = false := by simp; omega
          go_wp2
          go_round
          case rel => exact ⟨i + 1, by omega, by go_num, by rw [HT.out, HALL.out, HBD.out]; simp [h2]⟩
          case measure => simp [intOf]; omega
      · have q1 : ((x.1 : Int) == 65533) = false := by simp; omega
        go_wp2
        go_round
        case rel => exact ⟨i + 1, by omega, by go_num, by rw [HT.out, HALL.out, HBD.out]; simp [h1]⟩
        case measure => simp [intOf]; omega
    · have l1 : ¬ (i : Int) < ((runes s).length : Int) := by omega
      have HE := Lib.hid (show wholeB s = true by rw [wholeB, ← HALL.out, List.take_of_length_le (by omega)])
      go_wp2
      go_ret
      exact ⟨ret_bool HE.out.symm, HBL.out⟩
theorem plainF_size (s : ByteArray) : ∀ f p out t, p ≤ s.size → plainF s f p (rest s p) out = some t → t.size ≤ out.size + (s.size - p) := by
  intro f
  induction f with
  | zero => intro p out t _ h; simp [plainF] at h
  | succ f ih =>
    intro p out t hp h
    by_cases hi : p < s.size
    · have hw := dec_width s p hi
      rw [rest_cons s p hi] at h
      by_cases hno : (Utf8.decode s p).1 = 42 ∨ (Utf8.decode s p).1 = 63 ∨ (Utf8.decode s p).1 = 91
      · rw [plainF_no s f p _ _ _ hno] at h; cases h
      by_cases h92 : (Utf8.decode s p).1 = 92
      · by_cases hj : p + (Utf8.decode s p).2 < s.size
        · have hw2 := dec_width s _ hj
          rw [rest_cons s _ hj, plainF_two s f p _ _ _ _ h92] at h
          have := ih _ _ t (by omega) h
          rw [ByteArray.size_append, ByteArray.size_extract] at this
          omega
        · rw [rest_end s _ (by omega)] at h
          generalize Utf8.decode s p = d at h h92 hno
          obtain ⟨c, n⟩ := d
          have h92 : c = 92 := h92
          subst h92
          simp [plainF] at h
      · rw [plainF_one s f p _ _ _ hno h92] at h
        have := ih _ _ t (by omega) h
        rw [ByteArray.size_append, ByteArray.size_extract] at this
        omega
    · rw [rest_end s p (by omega), plainF_end] at h
      cases h; omega
theorem plain_size {s t : ByteArray} (h : globPlain s = some t) : t.size ≤ s.size := by
  unfold globPlain at h
  split at h
  · have := plainF_size s _ 0 _ t (Nat.zero_le _) h
    have h0 : ByteArray.empty.size = 0 := rfl
    omega
  · cases h
set_option maxHeartbeats 2000000 in
theorem walk_plains (p : ByteArray) (hp : p.size ≤ 8796093022208) (w : World) : Calls Try.prog 5 #[.string p] w fun e w' => e = .returned (.bool true) ∧ Below w.heap.size w w' := by
  have hB := Below.refl w.heap.size w
  have HW := Lib.hid (fun w => whole_any p hp w)
  cases hg : globPlain p with
  | none =>
    have HP : Hid (∀ w, Calls Try.prog 14 #[.string p] w fun e w' => e = .returned (.tuple #[.string ByteArray.empty, .bool false]) ∧ Below w.heap.size w w') := fun w => (plain_any p hp w).mono (fun e w' h => by
      obtain ⟨h1, h2⟩ := h
      rw [hg] at h2
      exact ⟨h2, h1⟩)
    have HRP : Hid (∀ w, Calls Try.prog 15 #[.string p] w fun e w' => e = .returned (.tuple #[.string ByteArray.empty, .bool false]) ∧ Below w.heap.size w w') := fun w => (RefGlob.plain_any p hp w).mono (fun e w' h => by
      obtain ⟨h1, h2⟩ := h
      rw [hg] at h2
      exact ⟨h2, h1⟩)
    clear hg
    go_enter Try.func5, Try.ntmps5
    go_wp2_with fail
    go_at_call 14
    with_reducible refine (HP.out _).mono ?_
    rintro e w1 ⟨rfl, hn⟩
    replace hB := bel hB hn
    clear hn
    go_wp2_with fail
    go_at_call 15
    with_reducible refine (HRP.out _).mono ?_
    rintro e w2 ⟨rfl, hn⟩
    replace hB := bel hB hn
    clear hn
    go_wp2_with fail
    go_at_call 9
    with_reducible refine (alive_any _).mono ?_
    rintro e w3 ⟨rfl, hn⟩
    replace hB := bel hB hn
    clear hn
    go_wp2
    go_ret
    exact ⟨rfl, hB⟩
  | some t =>
    have HP : Hid (∀ w, Calls Try.prog 14 #[.string p] w fun e w' => e = .returned (.tuple #[.string t, .bool true]) ∧ Below w.heap.size w w') := fun w => (plain_any p hp w).mono (fun e w' h => by
      obtain ⟨h1, h2⟩ := h
      rw [hg] at h2
      exact ⟨h2, h1⟩)
    have HRP : Hid (∀ w, Calls Try.prog 15 #[.string p] w fun e w' => e = .returned (.tuple #[.string t, .bool true]) ∧ Below w.heap.size w w') := fun w => (RefGlob.plain_any p hp w).mono (fun e w' h => by
      obtain ⟨h1, h2⟩ := h
      rw [hg] at h2
      exact ⟨h2, h1⟩)
    cases hwh : wholeB p with
    | false =>
      rw [hwh] at HW
      clear hg hwh
      go_enter Try.func5, Try.ntmps5
      go_wp2_with fail
      go_at_call 14
      with_reducible refine (HP.out _).mono ?_
      rintro e w1 ⟨rfl, hn⟩
      replace hB := bel hB hn
      clear hn
      go_wp2_with fail
      go_at_call 15
      with_reducible refine (HRP.out _).mono ?_
      rintro e w2 ⟨rfl, hn⟩
      replace hB := bel hB hn
      clear hn
      go_wp2_with fail
      go_at_call 9
      with_reducible refine (alive_any _).mono ?_
      rintro e w3 ⟨rfl, hn⟩
      replace hB := bel hB hn
      clear hn
      go_wp2_with fail
      go_at_call 16
      with_reducible refine (HW.out _).mono ?_
      rintro e w4 ⟨rfl, hn⟩
      replace hB := bel hB hn
      clear hn
      go_wp2
      go_ret
      exact ⟨rfl, hB⟩
    | true =>
      rw [hwh] at HW
      have ht : t.size ≤ lim := by have := plain_size hg; unfold lim; omega
      have HM := Lib.hid (fun w => match_any p t (by unfold lim; omega) ht w)
      rw [plain_match (wholeB_whole hwh) hg] at HM
      clear hg hwh ht
      go_enter Try.func5, Try.ntmps5
      go_wp2_with fail
      go_at_call 14
      with_reducible refine (HP.out _).mono ?_
      rintro e w1 ⟨rfl, hn⟩
      replace hB := bel hB hn
      clear hn
      go_wp2_with fail
      go_at_call 15
      with_reducible refine (HRP.out _).mono ?_
      rintro e w2 ⟨rfl, hn⟩
      replace hB := bel hB hn
      clear hn
      go_wp2_with fail
      go_at_call 9
      with_reducible refine (alive_any _).mono ?_
      rintro e w3 ⟨rfl, hn⟩
      replace hB := bel hB hn
      clear hn
      go_wp2_with fail
      go_at_call 16
      with_reducible refine (HW.out _).mono ?_
      rintro e w4 ⟨rfl, hn⟩
      replace hB := bel hB hn
      clear hn
      go_wp2_with fail
      go_at_call 12
      with_reducible refine (HM.out _).mono ?_
      rintro e w5 ⟨rfl, hn⟩
      replace hB := bel hB hn
      clear hn
      go_wp2
      go_ret
      exact ⟨rfl, hB⟩
end Go.Proofs.Ytfponjonbhnmlaa.Glob
