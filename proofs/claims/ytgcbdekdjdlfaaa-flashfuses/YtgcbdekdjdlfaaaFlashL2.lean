/-
  FlashTorn's walk: of a page that was pending when it crashed.
-/
import Derived.Test.YtgcbdekdjdlfaaaFlashL
set_option linter.unusedVariables false
set_option linter.unusedSimpArgs false
namespace Go.Proofs.Ytgcbdekdjdlfaaa.Flash
open Go.RowKit
open Go.Proofs.Ytgcbdekdjdlfaaa.Own
open Tup Bytes Foot
open Go.Proofs.Ytgcbdekdjdlfaaa.Region (fill Then Deps Each wp_region_is wp_region_is_tail)
theorem min2' {P : Program} (w : World) (ts : Array TypeId) (t : TypeId) (x k m : Int) (hm : m = min x k) : (Builtin.min_ ts t #[.int .i64 x, .int .i64 k]).run P w = .ok (.int .i64 m) w := by
  have e : (Builtin.min_ ts t #[.int .i64 x, .int .i64 k]).run P w = .ok (.int .i64 (if k < x then k else x)) w := by
    simp [Builtin.min_, Builtin.min2]
  rw [e, hm]; congr 2; split <;> omega
theorem cutS (b : List UInt8) (k : Nat) (x : Int) (hx : x = (k : Int)) (hk : k ≤ b.length) (w : World) : (Instr.slice 9 (.string (bs b)) none (some (.int .i64 x)) none).run Try.prog w = .ok (.string (bs (b.take k))) w := by
  subst hx
  rw [run_slice_string_h (P := Try.prog) w 9 (bs b) Try.underlying9 .i64 (k : Int) (by omega) (by rw [bs_size]; omega)]
  congr 2
  apply ByteArray.ext
  rw [ByteArray.data_extract]
  simp [bs]
set_option maxRecDepth 100000 in
theorem shortB_any (s : ByteArray) (hs : s.size ≤ maxLen) (n : Nat) (hn : n ≤ 1000000) (x : Int) (hx : x = (n : Int)) (w : World) :
    Calls Try.prog 11 #[.string s, .int .i64 x] w fun e w' => e = .returned (.string (bs (s.data.toList.take n))) ∧ w = w' := by
  unfold maxLen at hs
  subst hx
  obtain ⟨k, hk⟩ : ∃ k : Nat, (k : Int) = min (s.size : Int) (n : Int) := ⟨min s.size n, by omega⟩
  have hmn := fun w ts t => min2' (P := Try.prog) w ts t (s.size : Int) (n : Int) (k : Int) hk
  have hsl := cutS s.data.toList k (k : Int) rfl (by simp; omega)
  rw [bs_list] at hsl
  have HE := Lib.hid (show s.data.toList.take k = s.data.toList.take n by
    by_cases h : s.size ≤ n
    · rw [List.take_of_length_le (show s.data.toList.length ≤ n by simpa using h), List.take_of_length_le (by simp; omega)]
    · rw [show k = n by omega])
  clear hk
  go_enter Try.func11, Try.ntmps11
  go_wp2
  go_ret
  rw [HE.out]
  exact ⟨rfl, rfl⟩
/-- a text's first bytes, filled up -/
def full (a : ByteArray) (n : Nat) (c : UInt8) : List UInt8 := a.data.toList.take n ++ rep (n - (a.data.toList.take n).length) c
theorem full_length (a : ByteArray) (n : Nat) (c : UInt8) : (full a n c).length = n := by
  unfold full rep
  rw [List.length_append, List.length_replicate, List.length_take]; omega
set_option maxRecDepth 100000 in
set_option maxHeartbeats 16000000 in
theorem torn_any (a b : ByteArray) (ha : a.size ≤ maxLen) (hb : b.size ≤ maxLen) (m : Int) (hm : m < 9223372036854775808) (w : World) : Calls Try.prog 5 #[.string a, .string b, .int .i64 m] w fun e w' => e = .returned (.bool true) ∧ Below w.heap.size w w' := by
  have HT := Lib.hid (fun w => tiny_any w)
  have HN := Lib.hid (fun w => fNew_tiny ⟨#[]⟩ (Nat.zero_le _) w)
  have HAL := Lib.hid (fun w => alive_any w)
  have HS1 := Lib.hid (fun w => shortB_any a ha 32 (by omega) 32 rfl w)
  have HS2 := Lib.hid (fun w => shortB_any b hb 32 (by omega) 32 rfl w)
  obtain ⟨a1, ha1⟩ : ∃ a1, a1 = a.data.toList.take 32 := ⟨_, rfl⟩
  obtain ⟨b1, hb1⟩ : ∃ b1, b1 = b.data.toList.take 32 := ⟨_, rfl⟩
  have la : a1.length ≤ 32 := by rw [ha1, List.length_take]; omega
  have lb : b1.length ≤ 32 := by rw [hb1, List.length_take]; omega
  rw [← ha1] at HS1
  rw [← hb1] at HS2
  have HF1 := Lib.hid (fun w => fillC 7 (32 - (a1.length : Int)) (32 - a1.length) (by omega) (by omega) 7 rfl w)
  have HF2 := Lib.hid (fun w => fillC 9 (32 - (b1.length : Int)) (32 - b1.length) (by omega) (by omega) 9 rfl w)
  obtain ⟨A, hA⟩ : ∃ A, A = a1 ++ rep (32 - a1.length) 7 := ⟨_, rfl⟩
  obtain ⟨B, hB⟩ : ∃ B, B = b1 ++ rep (32 - b1.length) 9 := ⟨_, rfl⟩
  have lA : A.length = 32 := by rw [hA, List.length_append, rep, List.length_replicate]; omega
  have lB : B.length = 32 := by rw [hB, List.length_append, rep, List.length_replicate]; omega
  have zA : bs a1 ++ bs (rep (32 - a1.length) 7) = bs A := by rw [bs_append, hA]
  have zB : bs b1 ++ bs (rep (32 - b1.length) 9) = bs B := by rw [bs_append, hB]
  have sa : (bs a1).size = a1.length := bs_size _
  have sb : (bs b1).size = b1.length := bs_size _
  have sa2 : (bs (rep (32 - a1.length) 7)).size = 32 - a1.length := by rw [bs_size]; simp [rep]
  have sb2 : (bs (rep (32 - b1.length) 9)).size = 32 - b1.length := by rw [bs_size]; simp [rep]
  have ok1 : (tinyD (ff 384) [(1, A)]).Ok := by have := program_keeps al_ok0 1 A; rw [torn_1 lA] at this; exact this
  have ok2 : (tinyD (over (ff 384) 32 A) []).Ok := by have := flush_keeps ok1; rw [torn_2] at this; exact this
  have ok3 : (tinyD (over (ff 384) 32 A) [(4, B)]).Ok := by have := program_keeps ok2 4 B; rw [torn_3 lA lB] at this; exact this
  have ok4 : (tinyD (tornI A B m) []).Ok := by have := crash_keeps ok3 [m]; rw [torn_4] at this; exact this
  have HP1 := Lib.hid (fun w p S (h : FHas w p (newD 32 3 4 []) S) => fProgram_any h al_ok0 1 (bs A))
  rw [list_bs, torn_1 lA] at HP1
  have HFl := Lib.hid (fun w p S (h : FHas w p (tinyD (ff 384) [(1, A)]) S) => fFlush_any h ok1)
  rw [torn_2] at HFl
  have HP2 := Lib.hid (fun w p S (h : FHas w p (tinyD (over (ff 384) 32 A) []) S) => fProgram_any h ok2 4 (bs B))
  rw [list_bs, torn_3 lA lB] at HP2
  have HC := Lib.hid (fun w p S (h : FHas w p (tinyD (over (ff 384) 32 A) [(4, B)]) S) ma mc hM => fCrash_any h ok3 ma [m] 1 mc rfl hM (by simpa using hm) (by simp [maxLen]))
  rw [torn_4] at HC
  have HR1 := Lib.hid (fun w p S (h : FHas w p (tinyD (tornI A B m) []) S) => fRead_any h ok4 1)
  rw [torn_5 lA] at HR1
  have HR4 := Lib.hid (fun w p S (h : FHas w p (tinyD (tornI A B m) []) S) => fRead_any h ok4 4)
  rw [torn_6 lA lB] at HR4
  have HPe := Lib.hid (fun w p S (h : FHas w p (tinyD (tornI A B m) []) S) => fPending_any h ok4)
  clear ok1 ok2 ok3 ok4 hA hB ha1 hb1 ha hb
  obtain ⟨k, hk⟩ : ∃ k, k = tornN 32 m := ⟨_, rfl⟩
  rw [← hk] at HR4
  have hk32 : k ≤ 32 := by rw [hk]; exact tornN_le 32 (by omega) m
  have lk : (B.take k).length = k := by rw [List.length_take]; omega
  have s1 : (bs (B.take k)).size = k := by rw [bs_size, lk]
  have s2 : (bs (rep (32 - k) 255)).size = 32 - k := by rw [bs_size]; simp [rep]
  have z3 : bs (B.take k) ++ bs (rep (32 - k) 255) = bs (B.take k ++ rep (32 - k) 255) := bs_append _ _
  rcases (show m = 1 ∨ 1 < m ∨ m < 1 by omega) with h1 | h1 | h1
  · have q1 : (m == 1) = true := by simp; exact h1
    have q2 : decide (1 < m) = false := by simp; omega
    have hk1 : k = 32 := by rw [hk, h1]; rfl
    subst hk1
    clear h1
    have HF3 := Lib.hid (fun w => fillC 255 0 (32 - 32) rfl (by omega) 255 rfl w)
    have hsl := cutS B 32 32 rfl (by omega)
    clear hk
    go_enter Try.func5, Try.ntmps5
    go_wp2_with (first
      | (go_at_call 25; (with_reducible refine (HT.out _).mono ?_); rintro e w1 ⟨rfl, b1⟩)
      | (go_at_call 13; (with_reducible refine (HN.out _).mono ?_); rintro e w2 ⟨p, S2, rfl, h2, b2, s2⟩; have t2 : Safe w.heap.size w w2 S2 := ⟨bel2 b1 b2, Nat.le_trans b1.size b2.size, fun k hk => Nat.le_trans b1.size (s2 k hk)⟩)
      | (go_at_call 14; (with_reducible refine (HAL.out _).mono ?_); rintro e w3 ⟨rfl, b3⟩; have h3 := h2.below b3; have t3 := t2.below b3; clear h2 t2)
      | (go_at_call 11; (with_reducible refine (HS1.out _).mono ?_); rintro e w4 ⟨rfl, rfl⟩)
      | (go_at_call 11; (with_reducible refine (HS2.out _).mono ?_); rintro e w5 ⟨rfl, rfl⟩)
      | (go_at_call 22; (with_reducible refine (HF1.out _).mono ?_); rintro e w6 ⟨rfl, b6⟩; have h6 := h3.below b6; have t6 := t3.below b6; clear h3 t3)
      | (go_at_call 22; (with_reducible refine (HF2.out _).mono ?_); rintro e w7 ⟨rfl, b7⟩; have h7 := h6.below b7; have t7 := t6.below b7; clear h6 t6)
      | (go_at_call 26; (with_reducible refine (HP1.out _ _ _ h7).mono ?_); rintro e w8 ⟨rfl, S8, h8, a8⟩; have t8 := t7.after a8; clear h7 t7)
      | (go_at_call 27; (with_reducible refine (HFl.out _ _ _ h8).mono ?_); rintro e w9 ⟨rfl, S9, h9, a9⟩; have t9 := t8.after a9; clear h8 t8)
      | (go_at_call 26; (with_reducible refine (HP2.out _ _ _ h9).mono ?_); rintro e w10 ⟨rfl, S10, h10, a10⟩; have t11 := (t9.after a10).below (Geom.bel_alloc w10 (.cells #[.int .i64 m] 3)); have m11 := mask_new w10 m 3 h10.lt; have h11 := h10.below (Geom.bel_alloc w10 (.cells #[.int .i64 m] 3)); clear h9 t9 h10)
      | (go_at_call 28; (with_reducible refine (HC.out _ _ _ h11 _ _ m11).mono ?_); rintro e w12 ⟨rfl, S12, h12, a12⟩; have t12 := t11.after a12; clear h11 t11 m11)
      | (go_at_call 29; (with_reducible refine (HR1.out _ _ _ h12).mono ?_); rintro e w13 ⟨rfl, b13⟩; have h13 := h12.below b13; have t13 := t12.below b13; clear h12 t12)
      | (go_at_call 29; (with_reducible refine (HR4.out _ _ _ h13).mono ?_); rintro e w14 ⟨rfl, b14⟩; have h14 := h13.below b14; have t14 := t13.below b14; clear h13 t13))
    have TS := Lib.hid t14
    have HH := Lib.hid h14
    clear h14 t14
    refine wp_region_is [75, 76, 77, 78, 79, 80, 81, 82, 83, 84, 85, 86, 87, 88, 89, 90, 91, 92, 93, 94, 95, 96, 97, 6] (fun w' => Below w14.heap.size w14 w')
      [.int .i64 0, .bool true, .bool true, .string (bs A), .string (bs A), .bool true, .bool true, .bool true, .string (bs (B.take (32) ++ rep (32 - 32) 255)), .string (bs B), .int .i64 (32), .string (bs (B.take (32))), .int .i64 (32), .int .i64 0, .string (bs (rep (32 - 32) 255)), .string (bs (B.take (32) ++ rep (32 - 32) 255)), .bool true, .bool true, .bool true, .pointer (some ⟨p, 0, none⟩), .int .i64 0, .bool true, .bool true, .bool true] (by kernel_rfl) (by kernel_rfl) rfl (by decide) (by simp) (Below.refl _ _).drew ?each ?done
    case each =>
      simp only [Each]
      repeat' (first | exact trivial | refine And.intro ?_ ?_)
      all_goals
        intro ys wx hBx hdeps
        simp only [Deps, Region.binds, List.getD_cons_zero, List.getD_cons_succ, forall_const, and_true] at hdeps
        skip
        simp only [hdeps, fill, List.foldl_cons, List.foldl_nil, Act.put, List.setIfInBounds_toArray, List.set_cons_succ, List.set_cons_zero]
        first
          | (go_wp2_with fail; exact ⟨_, rfl, rfl, hBx, Below.refl _ _⟩)
          | (go_wp2_with (go_at_call 22; (with_reducible refine (HF3.out _).mono ?_); rintro e w3 ⟨rfl, hm⟩); exact ⟨_, rfl, rfl, hBx.trans (hm.mono hBx.size), hm⟩)
          | (go_wp2_with (go_at_call 24; (with_reducible refine (HPe.out _ _ _ (HH.out.below hBx)).mono ?_); rintro e w3 ⟨rfl, hm⟩); exact ⟨_, rfl, rfl, hBx.trans (hm.mono hBx.size), hm⟩)
    case done =>
      intro ys wx hBx hV
      have h6 : ys 6 = .bool true := hV 23 (by decide)
      simp only [h6, fill, List.drop_succ_cons, List.drop_zero, List.foldl_cons, List.foldl_nil, Act.put, List.setIfInBounds_toArray, List.set_cons_succ, List.set_cons_zero]
      go_wp2
      go_ret
      exact ⟨rfl, (TS.out.below hBx).bel⟩
  · have q1 : (m == 1) = false := by simp; omega
    have q2 : decide (1 < m) = true := by simp; omega
    obtain ⟨t, ht⟩ : ∃ t : Nat, (t : Int) = (m - 2) % 31 := ⟨((m - 2) % 31).toNat, by omega⟩
    have ht2 : t < 31 := by omega
    have htm : (m - 2).tmod 31 = (t : Int) := by rw [ht]; exact Int.tmod_eq_emod_of_nonneg (by omega)
    have hk1 : k = 1 + t := by
      rw [hk]; unfold tornN
      rw [if_neg (by omega), if_neg (by omega)]
      have : (m - 2) % ((32 : Nat) - 1 : Int) = (t : Int) := by rw [ht]; rfl
      rw [this]; rfl
    subst hk1
    have HF3 := Lib.hid (fun w => fillC 255 (32 - (1 + (t : Int))) (32 - (1 + t)) (by omega) (by omega) 255 rfl w)
    have hsl := cutS B (1 + t) (1 + (t : Int)) (by omega) (by omega)
    clear hk ht
    go_enter Try.func5, Try.ntmps5
    go_wp2_with (first
      | (go_at_call 25; (with_reducible refine (HT.out _).mono ?_); rintro e w1 ⟨rfl, b1⟩)
      | (go_at_call 13; (with_reducible refine (HN.out _).mono ?_); rintro e w2 ⟨p, S2, rfl, h2, b2, s2⟩; have t2 : Safe w.heap.size w w2 S2 := ⟨bel2 b1 b2, Nat.le_trans b1.size b2.size, fun k hk => Nat.le_trans b1.size (s2 k hk)⟩)
      | (go_at_call 14; (with_reducible refine (HAL.out _).mono ?_); rintro e w3 ⟨rfl, b3⟩; have h3 := h2.below b3; have t3 := t2.below b3; clear h2 t2)
      | (go_at_call 11; (with_reducible refine (HS1.out _).mono ?_); rintro e w4 ⟨rfl, rfl⟩)
      | (go_at_call 11; (with_reducible refine (HS2.out _).mono ?_); rintro e w5 ⟨rfl, rfl⟩)
      | (go_at_call 22; (with_reducible refine (HF1.out _).mono ?_); rintro e w6 ⟨rfl, b6⟩; have h6 := h3.below b6; have t6 := t3.below b6; clear h3 t3)
      | (go_at_call 22; (with_reducible refine (HF2.out _).mono ?_); rintro e w7 ⟨rfl, b7⟩; have h7 := h6.below b7; have t7 := t6.below b7; clear h6 t6)
      | (go_at_call 26; (with_reducible refine (HP1.out _ _ _ h7).mono ?_); rintro e w8 ⟨rfl, S8, h8, a8⟩; have t8 := t7.after a8; clear h7 t7)
      | (go_at_call 27; (with_reducible refine (HFl.out _ _ _ h8).mono ?_); rintro e w9 ⟨rfl, S9, h9, a9⟩; have t9 := t8.after a9; clear h8 t8)
      | (go_at_call 26; (with_reducible refine (HP2.out _ _ _ h9).mono ?_); rintro e w10 ⟨rfl, S10, h10, a10⟩; have t11 := (t9.after a10).below (Geom.bel_alloc w10 (.cells #[.int .i64 m] 3)); have m11 := mask_new w10 m 3 h10.lt; have h11 := h10.below (Geom.bel_alloc w10 (.cells #[.int .i64 m] 3)); clear h9 t9 h10)
      | (go_at_call 28; (with_reducible refine (HC.out _ _ _ h11 _ _ m11).mono ?_); rintro e w12 ⟨rfl, S12, h12, a12⟩; have t12 := t11.after a12; clear h11 t11 m11)
      | (go_at_call 29; (with_reducible refine (HR1.out _ _ _ h12).mono ?_); rintro e w13 ⟨rfl, b13⟩; have h13 := h12.below b13; have t13 := t12.below b13; clear h12 t12)
      | (go_at_call 29; (with_reducible refine (HR4.out _ _ _ h13).mono ?_); rintro e w14 ⟨rfl, b14⟩; have h14 := h13.below b14; have t14 := t13.below b14; clear h13 t13))
    have TS := Lib.hid t14
    have HH := Lib.hid h14
    clear h14 t14
    refine wp_region_is [75, 76, 77, 78, 79, 80, 81, 82, 83, 84, 85, 86, 87, 88, 89, 90, 91, 92, 93, 94, 95, 96, 97, 6] (fun w' => Below w14.heap.size w14 w')
      [.int .i64 0, .bool true, .bool true, .string (bs A), .string (bs A), .bool true, .bool true, .bool true, .string (bs (B.take (1 + t) ++ rep (32 - (1 + t)) 255)), .string (bs B), .int .i64 (1 + (t : Int)), .string (bs (B.take (1 + t))), .int .i64 (1 + (t : Int)), .int .i64 (32 - (1 + (t : Int))), .string (bs (rep (32 - (1 + t)) 255)), .string (bs (B.take (1 + t) ++ rep (32 - (1 + t)) 255)), .bool true, .bool true, .bool true, .pointer (some ⟨p, 0, none⟩), .int .i64 0, .bool true, .bool true, .bool true] (by kernel_rfl) (by kernel_rfl) rfl (by decide) (by simp) (Below.refl _ _).drew ?each ?done
    case each =>
      simp only [Each]
      repeat' (first | exact trivial | refine And.intro ?_ ?_)
      all_goals
        intro ys wx hBx hdeps
        simp only [Deps, Region.binds, List.getD_cons_zero, List.getD_cons_succ, forall_const, and_true] at hdeps
        skip
        simp only [hdeps, fill, List.foldl_cons, List.foldl_nil, Act.put, List.setIfInBounds_toArray, List.set_cons_succ, List.set_cons_zero]
        first
          | (go_wp2_with fail; exact ⟨_, rfl, rfl, hBx, Below.refl _ _⟩)
          | (go_wp2_with (go_at_call 22; (with_reducible refine (HF3.out _).mono ?_); rintro e w3 ⟨rfl, hm⟩); exact ⟨_, rfl, rfl, hBx.trans (hm.mono hBx.size), hm⟩)
          | (go_wp2_with (go_at_call 24; (with_reducible refine (HPe.out _ _ _ (HH.out.below hBx)).mono ?_); rintro e w3 ⟨rfl, hm⟩); exact ⟨_, rfl, rfl, hBx.trans (hm.mono hBx.size), hm⟩)
    case done =>
      intro ys wx hBx hV
      have h6 : ys 6 = .bool true := hV 23 (by decide)
      simp only [h6, fill, List.drop_succ_cons, List.drop_zero, List.foldl_cons, List.foldl_nil, Act.put, List.setIfInBounds_toArray, List.set_cons_succ, List.set_cons_zero]
      go_wp2
      go_ret
      exact ⟨rfl, (TS.out.below hBx).bel⟩
  · have q1 : (m == 1) = false := by simp; omega
    have q2 : decide (1 < m) = false := by simp; omega
    have hk1 : k = 0 := by rw [hk]; unfold tornN; rw [if_pos (by omega)]
    subst hk1
    have HF3 := Lib.hid (fun w => fillC 255 32 (32 - 0) rfl (by omega) 255 rfl w)
    have hsl := cutS B 0 0 rfl (by omega)
    clear hk
    go_enter Try.func5, Try.ntmps5
    go_wp2_with (first
      | (go_at_call 25; (with_reducible refine (HT.out _).mono ?_); rintro e w1 ⟨rfl, b1⟩)
      | (go_at_call 13; (with_reducible refine (HN.out _).mono ?_); rintro e w2 ⟨p, S2, rfl, h2, b2, s2⟩; have t2 : Safe w.heap.size w w2 S2 := ⟨bel2 b1 b2, Nat.le_trans b1.size b2.size, fun k hk => Nat.le_trans b1.size (s2 k hk)⟩)
      | (go_at_call 14; (with_reducible refine (HAL.out _).mono ?_); rintro e w3 ⟨rfl, b3⟩; have h3 := h2.below b3; have t3 := t2.below b3; clear h2 t2)
      | (go_at_call 11; (with_reducible refine (HS1.out _).mono ?_); rintro e w4 ⟨rfl, rfl⟩)
      | (go_at_call 11; (with_reducible refine (HS2.out _).mono ?_); rintro e w5 ⟨rfl, rfl⟩)
      | (go_at_call 22; (with_reducible refine (HF1.out _).mono ?_); rintro e w6 ⟨rfl, b6⟩; have h6 := h3.below b6; have t6 := t3.below b6; clear h3 t3)
      | (go_at_call 22; (with_reducible refine (HF2.out _).mono ?_); rintro e w7 ⟨rfl, b7⟩; have h7 := h6.below b7; have t7 := t6.below b7; clear h6 t6)
      | (go_at_call 26; (with_reducible refine (HP1.out _ _ _ h7).mono ?_); rintro e w8 ⟨rfl, S8, h8, a8⟩; have t8 := t7.after a8; clear h7 t7)
      | (go_at_call 27; (with_reducible refine (HFl.out _ _ _ h8).mono ?_); rintro e w9 ⟨rfl, S9, h9, a9⟩; have t9 := t8.after a9; clear h8 t8)
      | (go_at_call 26; (with_reducible refine (HP2.out _ _ _ h9).mono ?_); rintro e w10 ⟨rfl, S10, h10, a10⟩; have t11 := (t9.after a10).below (Geom.bel_alloc w10 (.cells #[.int .i64 m] 3)); have m11 := mask_new w10 m 3 h10.lt; have h11 := h10.below (Geom.bel_alloc w10 (.cells #[.int .i64 m] 3)); clear h9 t9 h10)
      | (go_at_call 28; (with_reducible refine (HC.out _ _ _ h11 _ _ m11).mono ?_); rintro e w12 ⟨rfl, S12, h12, a12⟩; have t12 := t11.after a12; clear h11 t11 m11)
      | (go_at_call 29; (with_reducible refine (HR1.out _ _ _ h12).mono ?_); rintro e w13 ⟨rfl, b13⟩; have h13 := h12.below b13; have t13 := t12.below b13; clear h12 t12)
      | (go_at_call 29; (with_reducible refine (HR4.out _ _ _ h13).mono ?_); rintro e w14 ⟨rfl, b14⟩; have h14 := h13.below b14; have t14 := t13.below b14; clear h13 t13))
    have TS := Lib.hid t14
    have HH := Lib.hid h14
    clear h14 t14
    refine wp_region_is [75, 76, 77, 78, 79, 80, 81, 82, 83, 84, 85, 86, 87, 88, 89, 90, 91, 92, 93, 94, 95, 96, 97, 6] (fun w' => Below w14.heap.size w14 w')
      [.int .i64 0, .bool true, .bool true, .string (bs A), .string (bs A), .bool true, .bool true, .bool true, .string (bs (B.take (0) ++ rep (32 - (0)) 255)), .string (bs B), .int .i64 (0), .string (bs (B.take (0))), .int .i64 (0), .int .i64 32, .string (bs (rep (32 - (0)) 255)), .string (bs (B.take (0) ++ rep (32 - (0)) 255)), .bool true, .bool true, .bool true, .pointer (some ⟨p, 0, none⟩), .int .i64 0, .bool true, .bool true, .bool true] (by kernel_rfl) (by kernel_rfl) rfl (by decide) (by simp) (Below.refl _ _).drew ?each ?done
    case each =>
      simp only [Each]
      repeat' (first | exact trivial | refine And.intro ?_ ?_)
      all_goals
        intro ys wx hBx hdeps
        simp only [Deps, Region.binds, List.getD_cons_zero, List.getD_cons_succ, forall_const, and_true] at hdeps
        skip
        simp only [hdeps, fill, List.foldl_cons, List.foldl_nil, Act.put, List.setIfInBounds_toArray, List.set_cons_succ, List.set_cons_zero]
        first
          | (go_wp2_with fail; exact ⟨_, rfl, rfl, hBx, Below.refl _ _⟩)
          | (go_wp2_with (go_at_call 22; (with_reducible refine (HF3.out _).mono ?_); rintro e w3 ⟨rfl, hm⟩); exact ⟨_, rfl, rfl, hBx.trans (hm.mono hBx.size), hm⟩)
          | (go_wp2_with (go_at_call 24; (with_reducible refine (HPe.out _ _ _ (HH.out.below hBx)).mono ?_); rintro e w3 ⟨rfl, hm⟩); exact ⟨_, rfl, rfl, hBx.trans (hm.mono hBx.size), hm⟩)
    case done =>
      intro ys wx hBx hV
      have h6 : ys 6 = .bool true := hV 23 (by decide)
      simp only [h6, fill, List.drop_succ_cons, List.drop_zero, List.foldl_cons, List.foldl_nil, Act.put, List.setIfInBounds_toArray, List.set_cons_succ, List.set_cons_zero]
      go_wp2
      go_ret
      exact ⟨rfl, (TS.out.below hBx).bel⟩
end Go.Proofs.Ytgcbdekdjdlfaaa.Flash
