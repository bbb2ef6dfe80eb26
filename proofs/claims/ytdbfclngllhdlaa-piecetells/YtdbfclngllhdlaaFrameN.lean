/-
  A page of which a byte is turned; a page that is torn. Nothing of the program's functions.
-/
import Derived.Test.YtdbfclngllhdlaaFrameM
set_option linter.unusedVariables false
set_option linter.unusedSimpArgs false
namespace Go.Proofs.Ytdbfclngllhdlaa.Frame
open CrcM (W)
open Crc (le4 sumOf vl wd)

theorem run_one (c : W) (p r : List UInt8) (s t : UInt8) (h : CrcM.run c (p ++ s :: r) = CrcM.run c (p ++ t :: r)) : s = t := by
  rw [CrcM.run_append, CrcM.run_append, CrcM.run_cons, CrcM.run_cons] at h
  have h1 := CrcM.run_inj _ _ _ h
  unfold CrcM.step at h1
  have h2 := CrcM.rnds_inj 8 _ _ h1
  generalize CrcM.run c p = d at h2
  have h3 := congrArg (d ^^^ ·) h2
  simp only [← BitVec.xor_assoc, BitVec.xor_self, BitVec.zero_xor] at h3
  have h4 := congrArg BitVec.toNat h3
  have hs := s.toNat_lt; have ht := t.toNat_lt
  simp only [BitVec.toNat_ofNat] at h4
  apply UInt8.toNat_inj.1
  omega
theorem sum_inj {a b : List UInt8} (h : sumOf a = sumOf b) : CrcM.run 4294967295#32 a = CrcM.run 4294967295#32 b := by
  have h1 := Crc.vl_inj h
  unfold CrcM.sum at h1
  have h2 := congrArg (· ^^^ (4294967295#32 : W)) h1
  simpa [BitVec.xor_assoc] using h2
theorem le4_inj {a b : List UInt8} {k : Nat} (h : le4 a k = le4 b k) : ∀ j, j < 4 → a.getD (k + j) 0 = b.getD (k + j) 0 := by
  have bd : ∀ (l : List UInt8) j, (l.getD j 0).toNat < 256 := fun l j => UInt8.toNat_lt _
  unfold le4 at h
  have a0 := bd a k; have a1 := bd a (k + 1); have a2 := bd a (k + 2); have a3 := bd a (k + 3)
  have b0 := bd b k; have b1 := bd b (k + 1); have b2 := bd b (k + 2); have b3 := bd b (k + 3)
  intro j hj
  apply UInt8.toNat_inj.1
  match j, hj with
  | 0, _ => rw [Nat.add_zero]; omega
  | 1, _ => omega
  | 2, _ => omega
  | 3, _ => omega
theorem getD_set (l : List UInt8) (i j : Nat) (c : UInt8) : (l.set i c).getD j 0 = if i = j ∧ i < l.length then c else l.getD j 0 := by
  rw [List.getD_eq_getElem?_getD, List.getD_eq_getElem?_getD, List.getElem?_set]
  by_cases h : i = j
  · subst h
    by_cases h2 : i < l.length
    · simp [h2]
    · simp [h2]
  · simp [h]
theorem not_blank_of {l : List UInt8} {j : Nat} (hj : j < l.length) (h : l.getD j 0 ≠ 255) : Flash.blank l = false := by
  unfold Flash.blank
  rw [List.all_eq_false]
  refine ⟨l[j], List.getElem_mem hj, ?_⟩
  rw [List.getD_eq_getElem?_getD, List.getElem?_eq_getElem hj] at h
  simpa using h
/-- a page of which one byte is turned is no frame -/
theorem read_turned {f : Fr} {pg : Nat} (h : f.Ok pg) {i : Nat} (hi : i < pg) {x : UInt8} (hx : x ≠ 0) : readF ((page pg f).set i ((page pg f).getD i 0 ^^^ x)) = (zeroF, 5) := by
  have hp0 := h.p0; have hp1 := h.p1; have hfit := h.fits
  have hl := page_length h
  obtain ⟨l, hle⟩ : ∃ l, l = page pg f := ⟨_, rfl⟩
  have h9 := page_9 pg f
  have hsum := page_sum h
  rw [← hle] at hl h9 hsum ⊢
  have hne : l.getD i 0 ^^^ x ≠ l.getD i 0 := by
    intro e
    have := congrArg (l.getD i 0 ^^^ ·) e
    simp only [← UInt8.xor_assoc, UInt8.xor_self, UInt8.zero_xor] at this
    exact hx this
  generalize hc : l.getD i 0 ^^^ x = c at hne ⊢
  have hl2 : (l.set i c).length = pg := by rw [List.length_set, hl]
  have hnb : Flash.blank (l.set i c) = false := by
    by_cases e : i = 10
    · refine not_blank_of (j := 9) (by rw [hl2]; omega) ?_
      rw [getD_set, if_neg (by omega), h9.1]
      intro e2
      have := congrArg UInt8.toNat e2
      rw [u8_toNat (Nat.mod_lt _ (by decide))] at this
      have h255 : (255 : UInt8).toNat = 255 := rfl
      omega
    · refine not_blank_of (j := 10) (by rw [hl2]; omega) ?_
      rw [getD_set, if_neg (by omega), h9.2]
      intro e2
      have := congrArg UInt8.toNat e2
      rw [u8_toNat (by omega)] at this
      have h255 : (255 : UInt8).toNat = 255 := rfl
      omega
  have hns : le4 (l.set i c) (pg - 4) ≠ sumOf ((l.set i c).take (pg - 4)) := by
    by_cases hi4 : i < pg - 4
    · have e1 : le4 (l.set i c) (pg - 4) = le4 l (pg - 4) := by
        unfold le4
        rw [getD_set, getD_set, getD_set, getD_set, if_neg (by omega), if_neg (by omega), if_neg (by omega), if_neg (by omega)]
      rw [e1, hsum]
      intro e
      have hr := sum_inj e
      have il : i < l.length := by omega
      have s1 : (l.take (pg - 4)) = l.take i ++ l[i] :: (l.drop (i + 1)).take (pg - 4 - (i + 1)) := by
        have h3 : l = l.take i ++ l[i] :: l.drop (i + 1) := by rw [← List.drop_eq_getElem_cons il]; exact (List.take_append_drop i l).symm
        have h4 : (l.take i ++ l[i] :: l.drop (i + 1)).take (pg - 4) = l.take i ++ l[i] :: (l.drop (i + 1)).take (pg - 4 - (i + 1)) := by
          rw [List.take_append, List.take_of_length_le (by rw [List.length_take]; omega), List.length_take, Nat.min_eq_left (by omega), show pg - 4 - i = (pg - 4 - (i + 1)) + 1 by omega, List.take_succ_cons]
        rw [← h4, ← h3]
      have s2 : ((l.set i c).take (pg - 4)) = l.take i ++ c :: (l.drop (i + 1)).take (pg - 4 - (i + 1)) := by
        have h3 : l.set i c = l.take i ++ c :: l.drop (i + 1) := List.set_eq_take_append_cons_drop.trans (by rw [if_pos il])
        rw [h3, List.take_append, List.take_of_length_le (by rw [List.length_take]; omega), List.length_take, Nat.min_eq_left (by omega), show pg - 4 - i = (pg - 4 - (i + 1)) + 1 by omega, List.take_succ_cons]
      rw [s1, s2] at hr
      have := run_one _ _ _ _ _ hr
      apply hne
      rw [List.getD_eq_getElem?_getD, List.getElem?_eq_getElem il]
      exact this.symm
    · have e1 : (l.set i c).take (pg - 4) = l.take (pg - 4) := List.take_set_of_le (by omega)
      rw [e1, ← hsum]
      intro e
      have := le4_inj e (i - (pg - 4)) (by omega)
      rw [show pg - 4 + (i - (pg - 4)) = i by omega, getD_set, if_pos ⟨rfl, by omega⟩] at this
      exact hne this
  unfold readF
  rw [hl2, if_neg (by omega), hnb, if_neg (by simp), if_pos hns]
/-- a page that is torn, of a frame whose body leaves room, is no frame, if it is not all there -/
theorem read_torn {f : Fr} {pg : Nat} (h : f.Ok pg) (hb : f.body.length + 16 ≤ pg) {k : Nat} (hk : k < pg) : (page pg f).take k ++ List.replicate (pg - k) 255 = page pg f ∨ (readF ((page pg f).take k ++ List.replicate (pg - k) 255)).2 ≠ 0 := by
  have hp0 := h.p0; have hp1 := h.p1
  have hl := page_length h
  have hsz := page_size h
  have hsum := page_sum h
  obtain ⟨l, hle⟩ : ∃ l, l = page pg f := ⟨_, rfl⟩
  rw [← hle] at hl hsz hsum ⊢
  obtain ⟨s, hs⟩ : ∃ s, s = l.take k ++ List.replicate (pg - k) 255 := ⟨_, rfl⟩
  rw [← hs]
  have hsl : s.length = pg := by rw [hs, List.length_append, List.length_take, List.length_replicate]; omega
  have g1 : ∀ j, j < k → s.getD j 0 = l.getD j 0 := fun j hj => by
    rw [hs, getD_app_left (by rw [List.length_take]; omega), List.getD_eq_getElem?_getD, List.getElem?_take_of_lt hj, ← List.getD_eq_getElem?_getD]
  have g2 : ∀ j, k ≤ j → j < pg → s.getD j 0 = 255 := fun j hj hp => by
    have hlt : (l.take k).length = k := by rw [List.length_take]; omega
    have := getD_app_right (a := l.take k) (b := List.replicate (pg - k) 255) (k := j - k)
    rw [hlt, show k + (j - k) = j by omega] at this
    rw [hs, this, List.getD_eq_getElem?_getD, List.getElem?_replicate, if_pos (by omega)]; rfl
  by_cases hr : (readF s).2 = 0
  · left
    have hlen : ¬ (s.length < 32 ∨ 128 < s.length) := by omega
    unfold readF at hr
    rw [if_neg hlen] at hr
    split at hr
    · simp at hr
    split at hr
    · simp at hr
    rename_i hsm
    split at hr
    · simp at hr
    rename_i hf
    simp only [Decidable.not_not, Bool.not_eq_false] at hsm hf
    rw [hsl] at hsm
    by_cases hkn : k < pg - 4
    · exfalso
      unfold formed at hf
      simp only [Bool.and_eq_true, decide_eq_true_eq] at hf
      obtain ⟨⟨_, hf1⟩, hf2⟩ := hf
      rw [hsl] at hf1 hf2
      by_cases hk11 : 11 ≤ k
      · have hsz2 : sizeAt s = f.body.length := by
          rw [← hsz]
          unfold sizeAt
          rw [g1 9 (by omega), g1 10 (by omega)]
        rw [hsz2] at hf2
        rw [List.all_eq_true] at hf2
        have hm : (255 : UInt8) ∈ (s.take (pg - 4)).drop (11 + f.body.length) := by
          have hj : pg - 5 < s.length := by omega
          have e : s[pg - 5] = 255 := by
            have := g2 (pg - 5) (by omega) (by omega)
            rw [List.getD_eq_getElem?_getD, List.getElem?_eq_getElem hj] at this
            exact this
          rw [← e]
          refine List.mem_of_getElem? (i := pg - 5 - (11 + f.body.length)) ?_
          rw [List.getElem?_drop, show 11 + f.body.length + (pg - 5 - (11 + f.body.length)) = pg - 5 by omega, List.getElem?_take_of_lt (by omega), List.getElem?_eq_getElem hj]
        have := hf2 _ hm
        simp at this
      · have : sizeAt s ≥ 65280 := by
          unfold sizeAt
          rw [g2 10 (by omega) (by omega)]
          have h255 : (255 : UInt8).toNat = 255 := rfl
          omega
        omega
    · have ht : s.take (pg - 4) = l.take (pg - 4) := by
        rw [hs, List.take_append_of_le_length (by rw [List.length_take]; omega), List.take_take, Nat.min_eq_left (by omega)]
      rw [ht, ← hsum] at hsm
      have hb4 := le4_inj hsm
      apply List.ext_getElem (by omega)
      intro j h1 h2
      have e : s.getD j 0 = l.getD j 0 := by
        by_cases hj : j < k
        · exact g1 j hj
        · have := hb4 (j - (pg - 4)) (by omega)
          rwa [show pg - 4 + (j - (pg - 4)) = j by omega] at this
      rw [List.getD_eq_getElem?_getD, List.getD_eq_getElem?_getD, List.getElem?_eq_getElem h1, List.getElem?_eq_getElem h2] at e
      exact e
  · exact .inr hr
end Go.Proofs.Ytdbfclngllhdlaa.Frame
