/-
  The first call of every law of chapter 2, and what the walks of its laws share.
-/
import Derived.Test.YtejhkpdpmjhbcaaDoorKeysC
import Derived.Test.YtejhkpdpmjhbcaaDoorKeyMathC
namespace Go.Proofs.YtejhkpdpmjhbcaaDoor.Keys
open Go.RowKit
open RuneM RefRune Own RefKeys

theorem bel {a w1 w2 : World} (h : Below a.heap.size a w1) (k : Below w1.heap.size w1 w2) : Below a.heap.size a w2 := h.trans (k.mono h.size)
theorem lim_small {s : ByteArray} (h : s.size ≤ 100) : s.size ≤ lim := by unfold lim; omega
theorem known1 : keyRight ⟨#[97]⟩ = true := by decide +kernel
theorem known2 : keyRight ⟨#[97, 32, 98]⟩ = false := by decide +kernel
theorem known3 : (runes ⟨#[195]⟩).length = 1 := by decide +kernel
theorem known4 : cmpS ⟨#[97]⟩ ⟨#[97, 98]⟩ = -1 := by decide +kernel
theorem known5 : headOf ⟨#[195, 169, 97]⟩ 1 = ⟨#[195, 169]⟩ := by decide +kernel
theorem right_known1 (w : World) : Calls Tryd.prog 12 #[.string ⟨#[97]⟩] w fun e w' => e = .returned (.bool true) ∧ Below w.heap.size w w' := by
  have := right_any ⟨#[97]⟩ (lim_small (by decide)) w; rw [known1] at this; exact this
theorem right_known2 (w : World) : Calls Tryd.prog 12 #[.string ⟨#[97, 32, 98]⟩] w fun e w' => e = .returned (.bool false) ∧ Below w.heap.size w w' := by
  have := right_any ⟨#[97, 32, 98]⟩ (lim_small (by decide)) w; rw [known2] at this; exact this
theorem count_known (w : World) : Calls Tryd.prog 14 #[.string ⟨#[195]⟩] w fun e w' => e = .returned (.int .i64 1) ∧ Below w.heap.size w w' := by
  have := count_any ⟨#[195]⟩ (lim_small (by decide)) w; rw [known3] at this; exact this
theorem cmp_known (w : World) (hT : Tabs w) : Calls Tryd.prog 17 #[.string ⟨#[97]⟩, .string ⟨#[97, 98]⟩] w fun e w' => e = .returned (.int .i64 (-1)) ∧ Below w.heap.size w w' := by
  have := cmp_any ⟨#[97]⟩ ⟨#[97, 98]⟩ (lim_small (by decide)) (lim_small (by decide)) w hT; rw [known4] at this; exact this
theorem head_known (w : World) : Calls Tryd.prog 15 #[.string ⟨#[195, 169, 97]⟩, .int .i64 1] w fun e w' => e = .returned (.string ⟨#[195, 169]⟩) ∧ Below w.heap.size w w' := by
  have := head_any ⟨#[195, 169, 97]⟩ 1 (lim_small (by decide)) (by decide) w; rw [known5] at this; exact this
set_option maxHeartbeats 1000000 in
theorem alive_any (w : World) (hT : Tabs w) : Calls Tryd.prog 11 #[] w fun e w' => e = .returned (.bool true) ∧ Below w.heap.size w w' := by
  have hB := Below.refl w.heap.size w
  go_enter Tryd.func11, Tryd.ntmps11
  go_wp2_with (first
    | (go_at_call 12; (with_reducible refine (right_known1 _).mono ?_); rintro e w2 ⟨rfl, hn⟩; replace hB := bel hB hn; clear hn)
    | (go_at_call 12; (with_reducible refine (right_known2 _).mono ?_); rintro e w2 ⟨rfl, hn⟩; replace hB := bel hB hn; clear hn)
    | (go_at_call 14; (with_reducible refine (count_known _).mono ?_); rintro e w2 ⟨rfl, hn⟩; replace hB := bel hB hn; clear hn)
    | (go_at_call 17; (with_reducible refine (cmp_known _ (hT.below hB)).mono ?_); rintro e w2 ⟨rfl, hn⟩; replace hB := bel hB hn; clear hn)
    | (go_at_call 15; (with_reducible refine (head_known _).mono ?_); rintro e w2 ⟨rfl, hn⟩; replace hB := bel hB hn; clear hn))
  go_ret
  exact ⟨rfl, hB⟩

set_option maxHeartbeats 1000000 in
theorem walk_right (s : ByteArray) (hs : s.size ≤ lim) (hs2 : s.size ≤ 8796093022208) (w : World) (hT : Tabs w) : Calls Tryd.prog 3 #[.string s] w fun e w' => e = .returned (.bool true) ∧ Below w.heap.size w w' := by
  have hB := Below.refl w.heap.size w
  go_enter Tryd.func3, Tryd.ntmps3
  go_wp2_with (first
    | (go_at_call 10; (with_reducible refine (runes_flat s hs2 _).mono ?_); rintro e w2 ⟨a, c, b, d, rfl, ha, hb, hn⟩; replace hB := bel hB hn; clear hn ha hb)
    | (go_at_call 11; (with_reducible refine (alive_any _ (hT.below hB)).mono ?_); rintro e w2 ⟨rfl, hn⟩; replace hB := bel hB hn; clear hn)
    | (go_at_call 12; (with_reducible refine (right_any s hs _).mono ?_); rintro e w2 ⟨rfl, hn⟩; replace hB := bel hB hn; clear hn)
    | (go_at_call 13; (with_reducible refine (keyRight_any s hs2 _).mono ?_); rintro e w2 ⟨rfl, hn⟩; replace hB := bel hB hn; clear hn)
    | (go_at_call 14; (with_reducible refine (count_any s hs _).mono ?_); rintro e w2 ⟨rfl, hn⟩; replace hB := bel hB hn; clear hn))
  all_goals go_ret
  all_goals exact ⟨by simp, hB⟩

theorem head_size (s : ByteArray) (n : Int) : (headOf s n).size ≤ s.size ∧ s.extract 0 (headOf s n).size = headOf s n := by
  have h : width ((runes s).take n.toNat) ≤ s.size := by have := width_take_le (runes s) n.toNat; rw [runes_width] at this; exact this
  have e : (headOf s n).size = width ((runes s).take n.toNat) := by unfold headOf; simp; omega
  exact ⟨by omega, by rw [e]; rfl⟩
theorem head_runes (s : ByteArray) (n : Int) : runes (headOf s n) = (runes s).take n.toNat := runes_extract s n.toNat
set_option maxHeartbeats 2000000 in
theorem walk_heads (s : ByteArray) (n : Int) (hi : -9223372036854775808 ≤ n ∧ n ≤ 9223372036854775807) (hs : s.size ≤ lim) (hs2 : s.size ≤ 8796093022208) (w : World) (hT : Tabs w) : Calls Tryd.prog 4 #[.string s, .int .i64 n] w fun e w' => e = .returned (.bool true) ∧ Below w.heap.size w w' := by
  have hB := Below.refl w.heap.size w
  have hz := head_size s n
  have hc : (runes (headOf s n)).length = min n.toNat (runes s).length := by rw [head_runes]; simp
  have HH := Lib.hid (fun w => head_any s n hs hi w)
  have HK := Lib.hid (fun w => keyHead_any s hs2 n w)
  have hs3 : (headOf s n).size ≤ lim := Nat.le_trans hz.1 hs
  have q : ((headOf s n).toList == (s.extract 0 (headOf s n).size).toList) = true := by rw [hz.2]; simp
  have hzz := hz.1
  clear hz
  generalize headOf s n = H at hc HH HK hs3 q hzz
  have HC1 := Lib.hid (fun w => count_any H hs3 w)
  have HC2 := Lib.hid (fun w => count_any s hs w)
  generalize (runes H).length = x at hc HC1
  generalize (runes s).length = y at hc HC2
  have d1 : decide ((H.size : Int) ≤ (s.size : Int)) = true := by simp; omega
  have d2 : decide (H.size ≤ s.size) = true := by simp; omega
  have HCC := Lib.hid (show (x : Int) = min (max n 0) (y : Int) by omega)
  by_cases h0 : n < 0
  · have q2 : ((x : Int) == 0) = true := by simp; omega
    have q3 : ¬ (y : Int) < 0 := by omega
    clear hc
    go_enter Tryd.func4, Tryd.ntmps4
    go_wp2_with (first
      | (go_at_call 11; (with_reducible refine (alive_any _ (hT.below hB)).mono ?_); rintro e w2 ⟨rfl, hn⟩; replace hB := bel hB hn; clear hn)
      | (go_at_call 15; (with_reducible refine (HH.out _).mono ?_); rintro e w2 ⟨rfl, hn⟩; replace hB := bel hB hn; clear hn)
      | (go_at_call 16; (with_reducible refine (HK.out _).mono ?_); rintro e w2 ⟨rfl, hn⟩; replace hB := bel hB hn; clear hn)
      | (go_at_call 14; (with_reducible refine (HC1.out _).mono ?_); rintro e w2 ⟨rfl, hn⟩; replace hB := bel hB hn; clear hn)
      | (go_at_call 14; (with_reducible refine (HC2.out _).mono ?_); rintro e w2 ⟨rfl, hn⟩; replace hB := bel hB hn; clear hn))
    all_goals go_ret
    all_goals exact ⟨by simp; first | done | omega | exact HCC.out, hB⟩
  · have h0' : ¬ (0 : Int) > n := by omega
    by_cases h1 : (y : Int) < n
    · have q2 : ((x : Int) == (y : Int)) = true := by simp only [beq_iff_eq]; omega
      clear hc
      go_enter Tryd.func4, Tryd.ntmps4
      go_wp2_with (first
        | (go_at_call 11; (with_reducible refine (alive_any _ (hT.below hB)).mono ?_); rintro e w2 ⟨rfl, hn⟩; replace hB := bel hB hn; clear hn)
        | (go_at_call 15; (with_reducible refine (HH.out _).mono ?_); rintro e w2 ⟨rfl, hn⟩; replace hB := bel hB hn; clear hn)
        | (go_at_call 16; (with_reducible refine (HK.out _).mono ?_); rintro e w2 ⟨rfl, hn⟩; replace hB := bel hB hn; clear hn)
        | (go_at_call 14; (with_reducible refine (HC1.out _).mono ?_); rintro e w2 ⟨rfl, hn⟩; replace hB := bel hB hn; clear hn)
        | (go_at_call 14; (with_reducible refine (HC2.out _).mono ?_); rintro e w2 ⟨rfl, hn⟩; replace hB := bel hB hn; clear hn))
      all_goals go_ret
      all_goals exact ⟨by simp; first | done | omega | exact HCC.out, hB⟩
    · have q2 : ((x : Int) == n) = true := by simp only [beq_iff_eq]; omega
      clear hc
      go_enter Tryd.func4, Tryd.ntmps4
      go_wp2_with (first
        | (go_at_call 11; (with_reducible refine (alive_any _ (hT.below hB)).mono ?_); rintro e w2 ⟨rfl, hn⟩; replace hB := bel hB hn; clear hn)
        | (go_at_call 15; (with_reducible refine (HH.out _).mono ?_); rintro e w2 ⟨rfl, hn⟩; replace hB := bel hB hn; clear hn)
        | (go_at_call 16; (with_reducible refine (HK.out _).mono ?_); rintro e w2 ⟨rfl, hn⟩; replace hB := bel hB hn; clear hn)
        | (go_at_call 14; (with_reducible refine (HC1.out _).mono ?_); rintro e w2 ⟨rfl, hn⟩; replace hB := bel hB hn; clear hn)
        | (go_at_call 14; (with_reducible refine (HC2.out _).mono ?_); rintro e w2 ⟨rfl, hn⟩; replace hB := bel hB hn; clear hn))
      all_goals go_ret
      all_goals exact ⟨by simp; first | done | omega | exact HCC.out, hB⟩

theorem cmpS_swap (a b : ByteArray) : cmpS b a = - cmpS a b := cmpL_swap _ _
set_option maxHeartbeats 2000000 in
theorem walk_order (a b : ByteArray) (ha : a.size ≤ lim) (hb : b.size ≤ lim) (ha2 : a.size ≤ 8796093022208) (hb2 : b.size ≤ 8796093022208) (w : World) (hT : Tabs w) : Calls Tryd.prog 5 #[.string a, .string b] w fun e w' => e = .returned (.bool true) ∧ Below w.heap.size w w' := by
  have hB := Below.refl w.heap.size w
  have H1 := Lib.hid (fun w (h : Tabs w) => cmp_any a b ha hb w h)
  have H2 := Lib.hid (fun w => keyCmp_any a b ha2 hb2 w)
  have H3 := Lib.hid (fun w (h : Tabs w) => common_any a b ha hb w h)
  have H4 := Lib.hid (fun w => keyCommon_any a b ha2 hb2 w)
  have H5 := Lib.hid (fun w (h : Tabs w) => cmp_any b a hb ha w h)
  have H6 := Lib.hid (fun w (h : Tabs w) => common_any b a hb ha w h)
  rw [common_comm (nums b) (nums a)] at H6
  rw [cmpS_swap a b] at H5
  have h3 : cmpS a b = -1 ∨ cmpS a b = 0 ∨ cmpS a b = 1 := cmpL_three' _ _
  generalize cmpS a b = c at H1 H2 H5 h3
  generalize common (nums a) (nums b) = m at H3 H4 H6
  have hc : -1 ≤ c ∧ c ≤ 1 := by omega
  clear h3
  go_enter Tryd.func5, Tryd.ntmps5
  go_wp2_with (first
    | (go_at_call 11; (with_reducible refine (alive_any _ (hT.below hB)).mono ?_); rintro e w2 ⟨rfl, hn⟩; replace hB := bel hB hn; clear hn)
    | (go_at_call 17; (with_reducible refine (H1.out _ (hT.below hB)).mono ?_); rintro e w2 ⟨rfl, hn⟩; replace hB := bel hB hn; clear hn)
    | (go_at_call 17; (with_reducible refine (H5.out _ (hT.below hB)).mono ?_); rintro e w2 ⟨rfl, hn⟩; replace hB := bel hB hn; clear hn)
    | (go_at_call 18; (with_reducible refine (H2.out _).mono ?_); rintro e w2 ⟨rfl, hn⟩; replace hB := bel hB hn; clear hn)
    | (go_at_call 19; (with_reducible refine (H3.out _ (hT.below hB)).mono ?_); rintro e w2 ⟨rfl, hn⟩; replace hB := bel hB hn; clear hn)
    | (go_at_call 19; (with_reducible refine (H6.out _ (hT.below hB)).mono ?_); rintro e w2 ⟨rfl, hn⟩; replace hB := bel hB hn; clear hn)
    | (go_at_call 20; (with_reducible refine (H4.out _).mono ?_); rintro e w2 ⟨rfl, hn⟩; replace hB := bel hB hn; clear hn))
  all_goals go_ret
  all_goals exact ⟨by simp, hB⟩

theorem cmpS_self (a : ByteArray) : cmpS a a = 0 := cmpL_self _
set_option maxHeartbeats 4000000 in
theorem walk_chain (a b c : ByteArray) (ha : a.size ≤ lim) (hb : b.size ≤ lim) (hc : c.size ≤ lim) (w : World) (hT : Tabs w) :
    Calls Tryd.prog 7 #[.string a, .string b, .string c] w fun e w' => e = .returned (.bool true) ∧ Below w.heap.size w w' := by
  have hB := Below.refl w.heap.size w
  have H1 := Lib.hid (fun w (h : Tabs w) => cmp_any a b ha hb w h)
  have H2 := Lib.hid (fun w (h : Tabs w) => cmp_any b c hb hc w h)
  have H3 := Lib.hid (fun w (h : Tabs w) => cmp_any a c ha hc w h)
  have H4 := Lib.hid (fun w (h : Tabs w) => common_any a c ha hc w h)
  have H5 := Lib.hid (fun w (h : Tabs w) => common_any a b ha hb w h)
  have H6 := Lib.hid (fun w (h : Tabs w) => common_any b c hb hc w h)
  have H7 := Lib.hid (fun w (h : Tabs w) => cmp_any a a ha ha w h)
  rw [cmpS_self] at H7
  have HT := fun h1 h2 => cmpL_trans (x := nums a) (y := nums b) (z := nums c) h1 h2
  have hl1 := common_le (nums a) (nums b)
  have hl2 := common_le (nums b) (nums c)
  unfold cmpS at H1 H2 H3
  generalize cmpL (nums a) (nums b) = x at H1 HT
  generalize cmpL (nums b) (nums c) = y at H2 HT
  generalize cmpL (nums a) (nums c) = z at H3 HT
  generalize common (nums a) (nums c) = p at H4 HT
  generalize common (nums a) (nums b) = q at H5 HT
  generalize common (nums b) (nums c) = r at H6 HT
  clear hl1 hl2
  by_cases h1 : x ≤ 0
  · by_cases h2 : y ≤ 0
    · have ht := HT h1 h2
      clear HT
      have hz := ht.1
      have e1 : decide (x ≤ 0) = true := by simp; omega
      have e2 : decide (y ≤ 0) = true := by simp; omega
      have e3 : decide (z ≤ 0) = true := by simp; omega
      by_cases h3 : (r : Int) < (q : Int)
      · have e4 : (r : Int) ≤ (p : Int) := by omega
        clear ht
        go_enter Tryd.func7, Tryd.ntmps7
        go_wp2_with (first | (go_at_call 11; (with_reducible refine (alive_any _ (hT.below hB)).mono ?_); rintro e w2 ⟨rfl, hn⟩; replace hB := bel hB hn; clear hn) | (go_at_call 17; (with_reducible refine (H1.out _ (hT.below hB)).mono ?_); rintro e w2 ⟨rfl, hn⟩; replace hB := bel hB hn; clear hn) | (go_at_call 17; (with_reducible refine (H2.out _ (hT.below hB)).mono ?_); rintro e w2 ⟨rfl, hn⟩; replace hB := bel hB hn; clear hn) | (go_at_call 17; (with_reducible refine (H3.out _ (hT.below hB)).mono ?_); rintro e w2 ⟨rfl, hn⟩; replace hB := bel hB hn; clear hn) | (go_at_call 19; (with_reducible refine (H4.out _ (hT.below hB)).mono ?_); rintro e w2 ⟨rfl, hn⟩; replace hB := bel hB hn; clear hn) | (go_at_call 19; (with_reducible refine (H5.out _ (hT.below hB)).mono ?_); rintro e w2 ⟨rfl, hn⟩; replace hB := bel hB hn; clear hn) | (go_at_call 19; (with_reducible refine (H6.out _ (hT.below hB)).mono ?_); rintro e w2 ⟨rfl, hn⟩; replace hB := bel hB hn; clear hn))
        all_goals go_ret
        all_goals exact ⟨by simp; try omega, hB⟩
      · have e4 : (q : Int) ≤ (p : Int) := by omega
        clear ht
        go_enter Tryd.func7, Tryd.ntmps7
        go_wp2_with (first | (go_at_call 11; (with_reducible refine (alive_any _ (hT.below hB)).mono ?_); rintro e w2 ⟨rfl, hn⟩; replace hB := bel hB hn; clear hn) | (go_at_call 17; (with_reducible refine (H1.out _ (hT.below hB)).mono ?_); rintro e w2 ⟨rfl, hn⟩; replace hB := bel hB hn; clear hn) | (go_at_call 17; (with_reducible refine (H2.out _ (hT.below hB)).mono ?_); rintro e w2 ⟨rfl, hn⟩; replace hB := bel hB hn; clear hn) | (go_at_call 17; (with_reducible refine (H3.out _ (hT.below hB)).mono ?_); rintro e w2 ⟨rfl, hn⟩; replace hB := bel hB hn; clear hn) | (go_at_call 19; (with_reducible refine (H4.out _ (hT.below hB)).mono ?_); rintro e w2 ⟨rfl, hn⟩; replace hB := bel hB hn; clear hn) | (go_at_call 19; (with_reducible refine (H5.out _ (hT.below hB)).mono ?_); rintro e w2 ⟨rfl, hn⟩; replace hB := bel hB hn; clear hn) | (go_at_call 19; (with_reducible refine (H6.out _ (hT.below hB)).mono ?_); rintro e w2 ⟨rfl, hn⟩; replace hB := bel hB hn; clear hn))
        all_goals go_ret
        all_goals exact ⟨by simp; try omega, hB⟩
    · clear HT
      have e1 : decide (x ≤ 0) = true := by simp; omega
      have e2 : decide (y ≤ 0) = false := by simp; omega
      go_enter Tryd.func7, Tryd.ntmps7
      go_wp2_with (first | (go_at_call 11; (with_reducible refine (alive_any _ (hT.below hB)).mono ?_); rintro e w2 ⟨rfl, hn⟩; replace hB := bel hB hn; clear hn) | (go_at_call 17; (with_reducible refine (H1.out _ (hT.below hB)).mono ?_); rintro e w2 ⟨rfl, hn⟩; replace hB := bel hB hn; clear hn) | (go_at_call 17; (with_reducible refine (H2.out _ (hT.below hB)).mono ?_); rintro e w2 ⟨rfl, hn⟩; replace hB := bel hB hn; clear hn) | (go_at_call 17; (with_reducible refine (H7.out _ (hT.below hB)).mono ?_); rintro e w2 ⟨rfl, hn⟩; replace hB := bel hB hn; clear hn))
      all_goals go_ret
      all_goals exact ⟨by simp, hB⟩
  · clear HT
    have e1 : decide (x ≤ 0) = false := by simp; omega
    go_enter Tryd.func7, Tryd.ntmps7
    go_wp2_with (first | (go_at_call 11; (with_reducible refine (alive_any _ (hT.below hB)).mono ?_); rintro e w2 ⟨rfl, hn⟩; replace hB := bel hB hn; clear hn) | (go_at_call 17; (with_reducible refine (H1.out _ (hT.below hB)).mono ?_); rintro e w2 ⟨rfl, hn⟩; replace hB := bel hB hn; clear hn) | (go_at_call 17; (with_reducible refine (H7.out _ (hT.below hB)).mono ?_); rintro e w2 ⟨rfl, hn⟩; replace hB := bel hB hn; clear hn))
    all_goals go_ret
    all_goals exact ⟨by simp, hB⟩

theorem key_parts {s : ByteArray} (h : keyRight s = true) : (∀ x ∈ runes s, plainB x = true) ∧ 1 ≤ (runes s).length ∧ (runes s).length ≤ 12 := by
  unfold keyRight at h
  simp only [Bool.and_eq_true, List.all_eq_true, decide_eq_true_eq] at h
  exact ⟨h.1.1, h.1.2, h.2⟩
theorem plain_whole {x : Nat × Nat} (h : plainB x = true) : whole x := by
  unfold plainB at h
  simp only [Bool.and_eq_true, Bool.not_eq_true', Bool.and_eq_false_imp, decide_eq_true_eq, decide_eq_false_iff_not] at h
  intro hx
  exact h.2 hx.1 hx.2
theorem key_whole {s : ByteArray} (h : keyRight s = true) : ∀ x ∈ runes s, whole x := fun x hx => plain_whole ((key_parts h).1 x hx)
theorem key_size {s : ByteArray} (h : keyRight s = true) : s.size ≤ 48 := by
  have := runes_size_le s; have := (key_parts h).2.2; omega
theorem key_less {a b : ByteArray} (ha : keyRight a = true) (hb : keyRight b = true) : Op.bytesLess a.toList b.toList = decide (cmpS a b < 0) := by
  rw [ByteArray.toList_eq, ByteArray.toList_eq]; exact less_whole a b (key_whole ha) (key_whole hb)
theorem str_eq (a b : ByteArray) : (a.toList == b.toList) = decide (a = b) := by
  rw [ByteArray.toList_eq, ByteArray.toList_eq, Bool.eq_iff_iff]
  simp only [beq_iff_eq, decide_eq_true_eq]
  exact ⟨fun h => ByteArray.ext (Array.toList_inj.1 h), fun h => by rw [h]⟩
theorem key_same {a b : ByteArray} (ha : keyRight a = true) (hb : keyRight b = true) : (a.toList == b.toList) = decide (cmpS a b = 0) := by
  rw [str_eq]
  by_cases h : a = b
  · subst h; simp [cmpS_self]
  · have : ¬ cmpS a b = 0 := fun h0 => h (same_whole a b (key_whole ha) (key_whole hb) h0)
    simp [h, this]
theorem head_key {a : ByteArray} (ha : keyRight a = true) (n : Int) (hne : (headOf a n).toList.isEmpty = false) : keyRight (headOf a n) = true := by
  have hp := key_parts ha
  have hr := head_runes a n
  unfold keyRight
  rw [hr]
  simp only [Bool.and_eq_true, List.all_eq_true, decide_eq_true_eq, List.length_take]
  refine ⟨⟨fun x hx => hp.1 x (List.mem_of_mem_take hx), ?_⟩, by omega⟩
  have hz : 0 < (headOf a n).size := by
    rcases Nat.eq_zero_or_pos (headOf a n).size with h0 | h0
    · exfalso
      rw [ByteArray.toList_eq] at hne
      have : (headOf a n).data.toList = [] := List.length_eq_zero_iff.1 (by simpa using h0)
      rw [this] at hne; simp at hne
    · exact h0
  have := runes_size_le (headOf a n)
  rw [hr, List.length_take] at this
  omega
theorem head_cmp (a : ByteArray) (n : Int) : cmpS (headOf a n) a ≤ 0 := by
  unfold cmpS nums
  rw [head_runes, List.map_take]
  exact cmpL_take _ _

set_option maxHeartbeats 2000000 in
theorem walk_bytes_no1 (a b : ByteArray) (n : Int) (ha : a.size ≤ lim) (hra : keyRight a = false) (w : World) (hT : Tabs w) : Calls Tryd.prog 8 #[.string a, .string b, .int .i64 n] w fun e w' => e = .returned (.bool true) ∧ Below w.heap.size w w' := by
  have hB := Below.refl w.heap.size w
  have H1 := Lib.hid (fun w => right_any a ha w)
  rw [hra] at H1
  go_enter Tryd.func8, Tryd.ntmps8
  go_wp2_with (first | (go_at_call 11; (with_reducible refine (alive_any _ (hT.below hB)).mono ?_); rintro e w2 ⟨rfl, hn⟩; replace hB := bel hB hn; clear hn) | (go_at_call 12; (with_reducible refine (H1.out _).mono ?_); rintro e w2 ⟨rfl, hn⟩; replace hB := bel hB hn; clear hn))
  all_goals go_ret
  all_goals exact ⟨rfl, hB⟩
set_option maxHeartbeats 2000000 in
theorem walk_bytes_no2 (a b : ByteArray) (n : Int) (ha : a.size ≤ lim) (hb : b.size ≤ lim) (hra : keyRight a = true) (hrb : keyRight b = false) (w : World) (hT : Tabs w) : Calls Tryd.prog 8 #[.string a, .string b, .int .i64 n] w fun e w' => e = .returned (.bool true) ∧ Below w.heap.size w w' := by
  have hB := Below.refl w.heap.size w
  have H1 := Lib.hid (fun w => right_any a ha w)
  have H2 := Lib.hid (fun w => right_any b hb w)
  rw [hra] at H1
  rw [hrb] at H2
  go_enter Tryd.func8, Tryd.ntmps8
  go_wp2_with (first | (go_at_call 11; (with_reducible refine (alive_any _ (hT.below hB)).mono ?_); rintro e w2 ⟨rfl, hn⟩; replace hB := bel hB hn; clear hn) | (go_at_call 12; (with_reducible refine (H1.out _).mono ?_); rintro e w2 ⟨rfl, hn⟩; replace hB := bel hB hn; clear hn) | (go_at_call 12; (with_reducible refine (H2.out _).mono ?_); rintro e w2 ⟨rfl, hn⟩; replace hB := bel hB hn; clear hn))
  all_goals go_ret
  all_goals exact ⟨rfl, hB⟩
set_option maxHeartbeats 4000000 in
theorem walk_bytes (a b : ByteArray) (n : Int) (hi : -9223372036854775808 ≤ n ∧ n ≤ 9223372036854775807) (ha : a.size ≤ lim) (hb : b.size ≤ lim) (hra : keyRight a = true) (hrb : keyRight b = true) (w : World) (hT : Tabs w) :
    Calls Tryd.prog 8 #[.string a, .string b, .int .i64 n] w fun e w' => e = .returned (.bool true) ∧ Below w.heap.size w w' := by
  have hB := Below.refl w.heap.size w
  have hz := key_size hra
  have q1 := key_less hra hrb
  have q2 := key_same hra hrb
  have hh := head_key hra n
  have hcm := head_cmp a n
  have hhz : (headOf a n).size ≤ lim := Nat.le_trans (head_size a n).1 ha
  have H1 := Lib.hid (fun w => right_any a ha w)
  have H2 := Lib.hid (fun w => right_any b hb w)
  rw [hra] at H1
  rw [hrb] at H2
  have H3 := Lib.hid (fun w (h : Tabs w) => cmp_any a b ha hb w h)
  have H4 := Lib.hid (fun w => head_any a n ha hi w)
  have H5 := Lib.hid (fun w => right_any (headOf a n) hhz w)
  have H6 := Lib.hid (fun w (h : Tabs w) => cmp_any (headOf a n) a hhz ha w h)
  generalize cmpS (headOf a n) a = d at H6 hcm
  have h3 : cmpS a b = -1 ∨ cmpS a b = 0 ∨ cmpS a b = 1 := cmpL_three' _ _
  have ways : (cmpS a b = -1 ∧ Op.bytesLess a.toList b.toList = true ∧ (a.toList == b.toList) = false) ∨ (cmpS a b = 0 ∧ Op.bytesLess a.toList b.toList = false ∧ (a.toList == b.toList) = true) ∨ (cmpS a b = 1 ∧ Op.bytesLess a.toList b.toList = false ∧ (a.toList == b.toList) = false) := by
    rw [q1, q2]
    rcases h3 with h | h | h <;> rw [h] <;> simp
  clear q1 q2 h3
  generalize cmpS a b = c at H3 ways
  generalize headOf a n = h at hh hhz H4 H5 H6
  clear hra hrb
  have hzz : ¬ (48 : Int) < (a.size : Int) := by omega
  have hzz' : decide ((48 : Int) < (a.size : Int)) = false := by simp; omega
  have hzz2 : decide (48 < a.size) = false := by simp; omega
  have e6 : decide (d ≤ 0) = true := by simpa using hcm
  cases he : h.toList.isEmpty with
  | true =>
    have he' : h.toList = [] := by simpa using he
    clear hh
    rcases ways with ⟨rfl, q1, q2⟩ | ⟨rfl, q1, q2⟩ | ⟨rfl, q1, q2⟩
    all_goals
      go_enter Tryd.func8, Tryd.ntmps8
      go_wp2_with (first | (go_at_call 11; (with_reducible refine (alive_any _ (hT.below hB)).mono ?_); rintro e w2 ⟨rfl, hn⟩; replace hB := bel hB hn; clear hn) | (go_at_call 12; (with_reducible refine (H1.out _).mono ?_); rintro e w2 ⟨rfl, hn⟩; replace hB := bel hB hn; clear hn) | (go_at_call 12; (with_reducible refine (H2.out _).mono ?_); rintro e w2 ⟨rfl, hn⟩; replace hB := bel hB hn; clear hn) | (go_at_call 17; (with_reducible refine (H3.out _ (hT.below hB)).mono ?_); rintro e w2 ⟨rfl, hn⟩; replace hB := bel hB hn; clear hn) | (go_at_call 15; (with_reducible refine (H4.out _).mono ?_); rintro e w2 ⟨rfl, hn⟩; replace hB := bel hB hn; clear hn))
      go_ret
      exact ⟨rfl, hB⟩
  | false =>
    have hk := hh he
    rw [hk] at H5
    have he2 : (!h.toList.isEmpty) = true := by rw [he]; rfl
    clear hh hk
    rcases ways with ⟨rfl, q1, q2⟩ | ⟨rfl, q1, q2⟩ | ⟨rfl, q1, q2⟩
    all_goals
      go_enter Tryd.func8, Tryd.ntmps8
      go_wp2_with (first | (go_at_call 11; (with_reducible refine (alive_any _ (hT.below hB)).mono ?_); rintro e w2 ⟨rfl, hn⟩; replace hB := bel hB hn; clear hn) | (go_at_call 12; (with_reducible refine (H1.out _).mono ?_); rintro e w2 ⟨rfl, hn⟩; replace hB := bel hB hn; clear hn) | (go_at_call 12; (with_reducible refine (H2.out _).mono ?_); rintro e w2 ⟨rfl, hn⟩; replace hB := bel hB hn; clear hn) | (go_at_call 12; (with_reducible refine (H5.out _).mono ?_); rintro e w2 ⟨rfl, hn⟩; replace hB := bel hB hn; clear hn) | (go_at_call 17; (with_reducible refine (H3.out _ (hT.below hB)).mono ?_); rintro e w2 ⟨rfl, hn⟩; replace hB := bel hB hn; clear hn) | (go_at_call 17; (with_reducible refine (H6.out _ (hT.below hB)).mono ?_); rintro e w2 ⟨rfl, hn⟩; replace hB := bel hB hn; clear hn) | (go_at_call 15; (with_reducible refine (H4.out _).mono ?_); rintro e w2 ⟨rfl, hn⟩; replace hB := bel hB hn; clear hn))
      go_ret
      exact ⟨by simp; try exact hcm, hB⟩

theorem join_runes {a : ByteArray} (ha : keyRight a = true) (b : ByteArray) : runes (a ++ b) = runes a ++ runes b := runes_append a b (key_whole ha)
theorem join_head {a : ByteArray} (ha : keyRight a = true) (b : ByteArray) : headOf (a ++ b) ((runes a).length : Int) = a := by
  unfold headOf
  rw [join_runes ha b, show ((runes a).length : Int).toNat = (runes a).length by omega, List.take_left, runes_width]
  apply ByteArray.ext
  apply Array.toList_inj.1
  simp [ByteArray.data_append]
  exact List.take_of_length_le (by simp)
theorem join_right {a b : ByteArray} (ha : keyRight a = true) (hb : keyRight b = true) : keyRight (a ++ b) = decide ((runes a).length + (runes b).length ≤ 12) := by
  have pa := key_parts ha
  have pb := key_parts hb
  unfold keyRight
  rw [join_runes ha b, List.all_append]
  have e1 : (runes a).all plainB = true := List.all_eq_true.2 pa.1
  have e2 : (runes b).all plainB = true := List.all_eq_true.2 pb.1
  rw [e1, e2, List.length_append]
  simp only [Bool.and_self, Bool.true_and]
  rw [show decide (1 ≤ (runes a).length + (runes b).length) = true by simp; omega]; rfl
set_option maxHeartbeats 2000000 in
theorem walk_joins_no1 (a b : ByteArray) (ha : a.size ≤ lim) (hra : keyRight a = false) (w : World) (hT : Tabs w) : Calls Tryd.prog 9 #[.string a, .string b] w fun e w' => e = .returned (.bool true) ∧ Below w.heap.size w w' := by
  have hB := Below.refl w.heap.size w
  have H1 := Lib.hid (fun w => right_any a ha w)
  rw [hra] at H1
  go_enter Tryd.func9, Tryd.ntmps9
  go_wp2_with (first | (go_at_call 11; (with_reducible refine (alive_any _ (hT.below hB)).mono ?_); rintro e w2 ⟨rfl, hn⟩; replace hB := bel hB hn; clear hn) | (go_at_call 12; (with_reducible refine (H1.out _).mono ?_); rintro e w2 ⟨rfl, hn⟩; replace hB := bel hB hn; clear hn))
  all_goals go_ret
  all_goals exact ⟨rfl, hB⟩
set_option maxHeartbeats 2000000 in
theorem walk_joins_no2 (a b : ByteArray) (ha : a.size ≤ lim) (hb : b.size ≤ lim) (hra : keyRight a = true) (hrb : keyRight b = false) (w : World) (hT : Tabs w) : Calls Tryd.prog 9 #[.string a, .string b] w fun e w' => e = .returned (.bool true) ∧ Below w.heap.size w w' := by
  have hB := Below.refl w.heap.size w
  have H1 := Lib.hid (fun w => right_any a ha w)
  have H2 := Lib.hid (fun w => right_any b hb w)
  rw [hra] at H1
  rw [hrb] at H2
  go_enter Tryd.func9, Tryd.ntmps9
  go_wp2_with (first | (go_at_call 11; (with_reducible refine (alive_any _ (hT.below hB)).mono ?_); rintro e w2 ⟨rfl, hn⟩; replace hB := bel hB hn; clear hn) | (go_at_call 12; (with_reducible refine (H1.out _).mono ?_); rintro e w2 ⟨rfl, hn⟩; replace hB := bel hB hn; clear hn) | (go_at_call 12; (with_reducible refine (H2.out _).mono ?_); rintro e w2 ⟨rfl, hn⟩; replace hB := bel hB hn; clear hn))
  all_goals go_ret
  all_goals exact ⟨rfl, hB⟩
set_option maxHeartbeats 4000000 in
theorem walk_joins (a b : ByteArray) (ha : a.size ≤ lim) (hb : b.size ≤ lim) (hra : keyRight a = true) (hrb : keyRight b = true) (w : World) (hT : Tabs w) :
    Calls Tryd.prog 9 #[.string a, .string b] w fun e w' => e = .returned (.bool true) ∧ Below w.heap.size w w' := by
  have hB := Below.refl w.heap.size w
  have hza := key_size hra
  have hzb := key_size hrb
  have hab : (a ++ b).size ≤ lim := lim_small (by rw [ByteArray.size_append]; omega)
  have hna := (key_parts hra).2.2
  have hnb := (key_parts hrb).2.2
  have H1 := Lib.hid (fun w => right_any a ha w)
  have H2 := Lib.hid (fun w => right_any b hb w)
  rw [hra] at H1
  rw [hrb] at H2
  have H3 := Lib.hid (fun w => count_any a ha w)
  have H4 := Lib.hid (fun w => count_any b hb w)
  have H5 := Lib.hid (fun w => count_any (a ++ b) hab w)
  have H6 := Lib.hid (fun w => head_any (a ++ b) ((runes a).length : Int) hab (by omega) w)
  have H7 := Lib.hid (fun w => right_any (a ++ b) hab w)
  rw [join_runes hra b, List.length_append] at H5
  rw [join_head hra b] at H6
  rw [join_right hra hrb] at H7
  generalize (runes a).length = x at H3 H5 H6 H7 hna
  generalize (runes b).length = y at H4 H5 H7 hnb
  have q1 : (((x + y : Nat) : Int) == (x : Int) + (y : Int)) = true := by simp
  clear hra hrb
  go_enter Tryd.func9, Tryd.ntmps9
  go_wp2_with (first | (go_at_call 11; (with_reducible refine (alive_any _ (hT.below hB)).mono ?_); rintro e w2 ⟨rfl, hn⟩; replace hB := bel hB hn; clear hn) | (go_at_call 12; (with_reducible refine (H1.out _).mono ?_); rintro e w2 ⟨rfl, hn⟩; replace hB := bel hB hn; clear hn) | (go_at_call 12; (with_reducible refine (H2.out _).mono ?_); rintro e w2 ⟨rfl, hn⟩; replace hB := bel hB hn; clear hn) | (go_at_call 12; (with_reducible refine (H7.out _).mono ?_); rintro e w2 ⟨rfl, hn⟩; replace hB := bel hB hn; clear hn) | (go_at_call 14; (with_reducible refine (H5.out _).mono ?_); rintro e w2 ⟨rfl, hn⟩; replace hB := bel hB hn; clear hn) | (go_at_call 14; (with_reducible refine (H3.out _).mono ?_); rintro e w2 ⟨rfl, hn⟩; replace hB := bel hB hn; clear hn) | (go_at_call 14; (with_reducible refine (H4.out _).mono ?_); rintro e w2 ⟨rfl, hn⟩; replace hB := bel hB hn; clear hn) | (go_at_call 15; (with_reducible refine (H6.out _).mono ?_); rintro e w2 ⟨rfl, hn⟩; replace hB := bel hB hn; clear hn))
  all_goals go_ret
  all_goals exact ⟨by simp; try omega, hB⟩
end Go.Proofs.YtejhkpdpmjhbcaaDoor.Keys
