/-
  FlashOnce's walk: a page is programmed once.
-/
import Derived.Test.YtgcbdekdjdlfaaaFlashL2
import Derived.Test.YtgcbdekdjdlfaaaPick
set_option linter.unusedVariables false
set_option linter.unusedSimpArgs false
namespace Go.Proofs.Ytgcbdekdjdlfaaa.Flash
open Go.RowKit
open Go.Proofs.Ytgcbdekdjdlfaaa.Own
open Tup Bytes Foot
open Go.Proofs.Ytgcbdekdjdlfaaa.Region (fill Then Deps Each wp_region_is wp_region_is_tail)
set_option maxRecDepth 100000 in
set_option maxHeartbeats 16000000 in
theorem once_any (pp : Int) (a b : ByteArray) (ha : a.size ≤ maxLen) (hb : b.size ≤ maxLen) (w : World) : Calls Try.prog 8 #[.int .i64 pp, .string a, .string b] w fun e w' => e = .returned (.bool true) ∧ Below w.heap.size w w' := by
  have HT := Lib.hid (fun w => tiny_any w)
  have HN := Lib.hid (fun w => fNew_tiny ⟨#[]⟩ (Nat.zero_le _) w)
  have HAL := Lib.hid (fun w => alive_any w)
  have HS1 := Lib.hid (fun w => shortB_any a ha 32 (by omega) 32 rfl w)
  have HS2 := Lib.hid (fun w => shortB_any b hb 32 (by omega) 32 rfl w)
  obtain ⟨q, hq⟩ : ∃ q : Nat, (q : Int) = pp % 12 := ⟨(pp % 12).toNat, by omega⟩
  have hq12 : q < 12 := by omega
  have HK : Hid (∀ w, Calls Try.prog 19 #[.int .i64 pp, .int .i64 12] w fun e w' => e = .returned (.int .i64 (pp % 12)) ∧ w = w') := fun w => Book.pick_any pp 12 (by decide) (by decide) w
  rw [← hq] at HK
  obtain ⟨a1, ha1⟩ : ∃ a1, a1 = a.data.toList.take 32 := ⟨_, rfl⟩
  obtain ⟨b1, hb1⟩ : ∃ b1, b1 = b.data.toList.take 32 := ⟨_, rfl⟩
  have la : a1.length ≤ 32 := by rw [ha1, List.length_take]; omega
  have lb : b1.length ≤ 32 := by rw [hb1, List.length_take]; omega
  rw [← ha1] at HS1
  rw [← hb1] at HS2
  have HF1 := Lib.hid (fun w => fillC 255 (32 - (a1.length : Int)) (32 - a1.length) (by omega) (by omega) 255 rfl w)
  have HF2 := Lib.hid (fun w => fillC 0 (32 - (b1.length : Int)) (32 - b1.length) (by omega) (by omega) 0 rfl w)
  obtain ⟨A, hA⟩ : ∃ A, A = a1 ++ rep (32 - a1.length) 255 := ⟨_, rfl⟩
  obtain ⟨B, hB⟩ : ∃ B, B = b1 ++ rep (32 - b1.length) 0 := ⟨_, rfl⟩
  have lA : A.length = 32 := by rw [hA, List.length_append, rep, List.length_replicate]; omega
  have lB : B.length = 32 := by rw [hB, List.length_append, rep, List.length_replicate]; omega
  have zA : bs a1 ++ bs (rep (32 - a1.length) 255) = bs A := by rw [bs_append, hA]
  have zB : bs b1 ++ bs (rep (32 - b1.length) 0) = bs B := by rw [bs_append, hB]
  have sa : (bs a1).size = a1.length := bs_size _
  have sb : (bs b1).size = b1.length := bs_size _
  have sa2 : (bs (rep (32 - a1.length) 255)).size = 32 - a1.length := by rw [bs_size]; simp [rep]
  have sb2 : (bs (rep (32 - b1.length) 0)).size = 32 - b1.length := by rw [bs_size]; simp [rep]
  obtain ⟨r, hr⟩ : ∃ r, r = q / 3 := ⟨_, rfl⟩
  have htd : (q : Int).tdiv 3 = (r : Int) := by rw [Int.tdiv_eq_ediv_of_nonneg (by omega), hr]; rfl
  have htd2 : (q : Int) / 3 = (r : Int) := by rw [hr]; rfl
  have htd3 : q / 3 = r := hr.symm
  have e1 : programD (newD 32 3 4 []) q A = (0, tinyD (ff 384) [(q, A)]) := tiny_program (img := ff 384) hq12 lA (blank_ff (by omega))
  have e2 := once_y (a := A) (b := B) hq12 lB (ff 384)
  have e3 := once_z (a := A) hq12 (ff 384)
  rw [← hr] at e3
  have ok1 : (tinyD (ff 384) [(q, A)]).Ok := by have := program_keeps al_ok0 q A; rw [e1] at this; exact this
  obtain ⟨IM, hIM⟩ : ∃ IM, IM = over (ff 384) (q * 32) A := ⟨_, rfl⟩
  have e4 : flushD (tinyD (ff 384) [(q, A)]) = (0, tinyD IM []) := by rw [hIM]; rfl
  have ok2 : (tinyD IM []).Ok := by have := flush_keeps ok1; rw [e4] at this; exact this
  have HX := Lib.hid (fun w p S (h : FHas w p (newD 32 3 4 []) S) => fProgram_any h al_ok0 q (bs A))
  rw [list_bs, e1] at HX
  have HY := Lib.hid (fun w p S (h : FHas w p (tinyD (ff 384) [(q, A)]) S) => fProgram_any h ok1 q (bs B))
  rw [list_bs, e2] at HY
  have HZ := Lib.hid (fun w p S (h : FHas w p (tinyD (ff 384) [(q, A)]) S) => fErase_any h ok1 (r : Int))
  rw [e3] at HZ
  have HG := Lib.hid (fun w p S (h : FHas w p (tinyD (ff 384) [(q, A)]) S) => fFlush_any h ok1)
  rw [e4] at HG
  have HV := Lib.hid (fun w p S (h : FHas w p (tinyD IM []) S) => fProgram_any h ok2 q (bs B))
  rw [list_bs] at HV
  have HB1 := Lib.hid (fun w => refBlank_any (bs A) (by rw [bs_size]; unfold maxLen; omega) w)
  have HB2 := Lib.hid (fun w => refBlank_any (bs (ff 32)) (by rw [bs_size, ff_length]; unfold maxLen; omega) w)
  rw [list_bs] at HB1 HB2
  rw [show blank (ff 32) = true from blank_replicate 32] at HB2
  have s32 : (bs (ff 32)).size = 32 := by rw [bs_size, ff_length]
  have lI : IM.length = 384 := ok2.len
  clear hA hB ha1 hb1 ha hb hq
  rcases hbk : blank A with _ | _
  · rw [hbk] at HB1
    have e5 : programD (tinyD IM []) q B = (7, tinyD IM []) := by rw [hIM]; exact once_v1 hq12 lA lB hbk
    rw [e5] at HV
    have e6 : flushD (tinyD IM []) = (0, tinyD IM []) := rfl
    have e7 := once_w hq12 IM
    rw [← hr] at e7
    have ok3 : (tinyD (over IM (r * 3 * 32) (ff 96)) []).Ok := by have := erase_keeps ok2 (r : Int); rw [e7] at this; exact this
    have HG2 := Lib.hid (fun w p S (h : FHas w p (tinyD IM []) S) => fFlush_any h ok2)
    rw [e6] at HG2
    have HW := Lib.hid (fun w p S (h : FHas w p (tinyD IM []) S) => fErase_any h ok2 (r : Int))
    rw [e7] at HW
    have HR := Lib.hid (fun w p S (h : FHas w p (tinyD (over IM (r * 3 * 32) (ff 96)) []) S) => fRead_any h ok3 q)
    have es := once_s hq12 lI
    rw [← hr] at es
    rw [es] at HR
    have HQ := Lib.hid (fun w p S (h : FHas w p (tinyD (over IM (r * 3 * 32) (ff 96)) []) S) => fProgram_any h ok3 q (bs B))
    have et := once_end hq12 lI lB
    rw [← hr] at et
    rw [list_bs, et] at HQ
    clear es et hr e1 e2 e3 e4 e5 e6 e7 ok1 ok2 ok3 hbk hIM lI
    go_enter Try.func8, Try.ntmps8
    go_wp2_with (first
      | (go_at_call 25; (with_reducible refine (HT.out _).mono ?_); rintro e w1 ⟨rfl, b1⟩)
      | (go_at_call 13; (with_reducible refine (HN.out _).mono ?_); rintro e w2 ⟨p, S2, rfl, h2, b2, s2⟩; have t2 : Safe w.heap.size w w2 S2 := ⟨bel2 b1 b2, Nat.le_trans b1.size b2.size, fun k hk => Nat.le_trans b1.size (s2 k hk)⟩)
      | (go_at_call 14; (with_reducible refine (HAL.out _).mono ?_); rintro e w3 ⟨rfl, b3⟩; have h3 := h2.below b3; have t3 := t2.below b3; clear h2 t2)
      | (go_at_call 19; (with_reducible refine (HK.out _).mono ?_); rintro e w4 ⟨rfl, rfl⟩)
      | (go_at_call 11; (with_reducible refine (HS1.out _).mono ?_); rintro e w5 ⟨rfl, rfl⟩)
      | (go_at_call 11; (with_reducible refine (HS2.out _).mono ?_); rintro e w6 ⟨rfl, rfl⟩)
      | (go_at_call 22; (with_reducible refine (HF1.out _).mono ?_); rintro e w7 ⟨rfl, b7⟩; have h7 := h3.below b7; have t7 := t3.below b7; clear h3 t3)
      | (go_at_call 22; (with_reducible refine (HF2.out _).mono ?_); rintro e w8 ⟨rfl, b8⟩; have h8 := h7.below b8; have t8 := t7.below b8; clear h7 t7)
      | (go_at_call 26; (with_reducible refine (HX.out _ _ _ h8).mono ?_); rintro e w9 ⟨rfl, S9, h9, a9⟩; have t9 := t8.after a9; clear h8 t8)
      | (go_at_call 26; (with_reducible refine (HY.out _ _ _ h9).mono ?_); rintro e w10 ⟨rfl, S10, h10, a10⟩; have t10 := t9.after a10; clear h9 t9)
      | (go_at_call 31; (with_reducible refine (HZ.out _ _ _ h10).mono ?_); rintro e w11 ⟨rfl, S11, h11, a11⟩; have t11 := t10.after a11; clear h10 t10)
      | (go_at_call 27; (with_reducible refine (HG.out _ _ _ h11).mono ?_); rintro e w12 ⟨rfl, S12, h12, a12⟩; have t12 := t11.after a12; clear h11 t11)
      | (go_at_call 26; (with_reducible refine (HV.out _ _ _ h12).mono ?_); rintro e w13 ⟨rfl, S13, h13, a13⟩; have t13 := t12.after a13; clear h12 t12)
      | (go_at_call 27; (with_reducible refine (HG2.out _ _ _ h13).mono ?_); rintro e w14 ⟨rfl, S14, h14, a14⟩; have t14 := t13.after a14; clear h13 t13)
      | (go_at_call 31; (with_reducible refine (HW.out _ _ _ h14).mono ?_); rintro e w15 ⟨rfl, S15, h15, a15⟩; have t15 := t14.after a15; clear h14 t14)
      | (go_at_call 29; (with_reducible refine (HR.out _ _ _ h15).mono ?_); rintro e w16 ⟨rfl, b16⟩; have h16 := h15.below b16; have t16 := t15.below b16; clear h15 t15)
      | (go_at_call 32; (with_reducible refine (HB1.out _).mono ?_); rintro e w17 ⟨rfl, rfl⟩)
      | (go_at_call 32; (with_reducible refine (HB2.out _).mono ?_); rintro e w18 ⟨rfl, rfl⟩)
      | (go_at_call 26; (with_reducible refine (HQ.out _ _ _ h16).mono ?_); rintro e w19 ⟨rfl, S19, h19, a19⟩; have t19 := t16.after a19; clear h16 t16))
    go_ret
    exact ⟨rfl, t19.bel⟩
  · rw [hbk] at HB1
    have e5 : programD (tinyD IM []) q B = (0, tinyD IM [(q, B)]) := by rw [hIM]; exact once_v0 hq12 lA lB hbk
    rw [e5] at HV
    obtain ⟨I2, hI2⟩ : ∃ I2, I2 = over IM (q * 32) B := ⟨_, rfl⟩
    have ok4 : (tinyD IM [(q, B)]).Ok := by have := program_keeps ok2 q B; rw [e5] at this; exact this
    have e6 : flushD (tinyD IM [(q, B)]) = (0, tinyD I2 []) := by rw [hI2]; rfl
    have ok5 : (tinyD I2 []).Ok := by have := flush_keeps ok4; rw [e6] at this; exact this
    have lI2 : I2.length = 384 := ok5.len
    have e7 := once_w hq12 I2
    rw [← hr] at e7
    have ok3 : (tinyD (over I2 (r * 3 * 32) (ff 96)) []).Ok := by have := erase_keeps ok5 (r : Int); rw [e7] at this; exact this
    have HG2 := Lib.hid (fun w p S (h : FHas w p (tinyD IM [(q, B)]) S) => fFlush_any h ok4)
    rw [e6] at HG2
    have HW := Lib.hid (fun w p S (h : FHas w p (tinyD I2 []) S) => fErase_any h ok5 (r : Int))
    rw [e7] at HW
    have HR := Lib.hid (fun w p S (h : FHas w p (tinyD (over I2 (r * 3 * 32) (ff 96)) []) S) => fRead_any h ok3 q)
    have es := once_s hq12 lI2
    rw [← hr] at es
    rw [es] at HR
    have HQ := Lib.hid (fun w p S (h : FHas w p (tinyD (over I2 (r * 3 * 32) (ff 96)) []) S) => fProgram_any h ok3 q (bs B))
    have et := once_end hq12 lI2 lB
    rw [← hr] at et
    rw [list_bs, et] at HQ
    clear es et hr e1 e2 e3 e4 e5 e6 e7 ok1 ok2 ok3 ok4 ok5 hbk hIM hI2 lI lI2
    go_enter Try.func8, Try.ntmps8
    go_wp2_with (first
      | (go_at_call 25; (with_reducible refine (HT.out _).mono ?_); rintro e w1 ⟨rfl, b1⟩)
      | (go_at_call 13; (with_reducible refine (HN.out _).mono ?_); rintro e w2 ⟨p, S2, rfl, h2, b2, s2⟩; have t2 : Safe w.heap.size w w2 S2 := ⟨bel2 b1 b2, Nat.le_trans b1.size b2.size, fun k hk => Nat.le_trans b1.size (s2 k hk)⟩)
      | (go_at_call 14; (with_reducible refine (HAL.out _).mono ?_); rintro e w3 ⟨rfl, b3⟩; have h3 := h2.below b3; have t3 := t2.below b3; clear h2 t2)
      | (go_at_call 19; (with_reducible refine (HK.out _).mono ?_); rintro e w4 ⟨rfl, rfl⟩)
      | (go_at_call 11; (with_reducible refine (HS1.out _).mono ?_); rintro e w5 ⟨rfl, rfl⟩)
      | (go_at_call 11; (with_reducible refine (HS2.out _).mono ?_); rintro e w6 ⟨rfl, rfl⟩)
      | (go_at_call 22; (with_reducible refine (HF1.out _).mono ?_); rintro e w7 ⟨rfl, b7⟩; have h7 := h3.below b7; have t7 := t3.below b7; clear h3 t3)
      | (go_at_call 22; (with_reducible refine (HF2.out _).mono ?_); rintro e w8 ⟨rfl, b8⟩; have h8 := h7.below b8; have t8 := t7.below b8; clear h7 t7)
      | (go_at_call 26; (with_reducible refine (HX.out _ _ _ h8).mono ?_); rintro e w9 ⟨rfl, S9, h9, a9⟩; have t9 := t8.after a9; clear h8 t8)
      | (go_at_call 26; (with_reducible refine (HY.out _ _ _ h9).mono ?_); rintro e w10 ⟨rfl, S10, h10, a10⟩; have t10 := t9.after a10; clear h9 t9)
      | (go_at_call 31; (with_reducible refine (HZ.out _ _ _ h10).mono ?_); rintro e w11 ⟨rfl, S11, h11, a11⟩; have t11 := t10.after a11; clear h10 t10)
      | (go_at_call 27; (with_reducible refine (HG.out _ _ _ h11).mono ?_); rintro e w12 ⟨rfl, S12, h12, a12⟩; have t12 := t11.after a12; clear h11 t11)
      | (go_at_call 26; (with_reducible refine (HV.out _ _ _ h12).mono ?_); rintro e w13 ⟨rfl, S13, h13, a13⟩; have t13 := t12.after a13; clear h12 t12)
      | (go_at_call 27; (with_reducible refine (HG2.out _ _ _ h13).mono ?_); rintro e w14 ⟨rfl, S14, h14, a14⟩; have t14 := t13.after a14; clear h13 t13)
      | (go_at_call 31; (with_reducible refine (HW.out _ _ _ h14).mono ?_); rintro e w15 ⟨rfl, S15, h15, a15⟩; have t15 := t14.after a15; clear h14 t14)
      | (go_at_call 29; (with_reducible refine (HR.out _ _ _ h15).mono ?_); rintro e w16 ⟨rfl, b16⟩; have h16 := h15.below b16; have t16 := t15.below b16; clear h15 t15)
      | (go_at_call 32; (with_reducible refine (HB1.out _).mono ?_); rintro e w17 ⟨rfl, rfl⟩)
      | (go_at_call 32; (with_reducible refine (HB2.out _).mono ?_); rintro e w18 ⟨rfl, rfl⟩)
      | (go_at_call 26; (with_reducible refine (HQ.out _ _ _ h16).mono ?_); rintro e w19 ⟨rfl, S19, h19, a19⟩; have t19 := t16.after a19; clear h16 t16))
    go_ret
    exact ⟨rfl, t19.bel⟩
end Go.Proofs.Ytgcbdekdjdlfaaa.Flash
