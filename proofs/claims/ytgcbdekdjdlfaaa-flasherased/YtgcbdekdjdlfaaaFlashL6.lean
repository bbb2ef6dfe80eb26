/-
  FlashErased's walk: an erase that blows.
-/
import Derived.Test.YtgcbdekdjdlfaaaFlashL5
import Derived.Test.YtgcbdekdjdlfaaaPick
set_option linter.unusedVariables false
set_option linter.unusedSimpArgs false
namespace Go.Proofs.Ytgcbdekdjdlfaaa.Flash
open Go.RowKit
open Go.Proofs.Ytgcbdekdjdlfaaa.Own
open Tup Bytes Foot
open Go.Proofs.Ytgcbdekdjdlfaaa.Region (fill Then Deps Each wp_region_is wp_region_is_tail)
theorem dropS (b : List UInt8) (k : Nat) (x : Int) (hx : x = (k : Int)) (hk : k ≤ b.length) (w : World) : (Instr.slice 9 (.string (bs b)) (some (.int .i64 x)) none none).run Try.prog w = .ok (.string (bs (b.drop k))) w := by
  subst hx
  rw [run_slice_string_l (P := Try.prog) w 9 (bs b) Try.underlying9 .i64 (k : Int) (by omega) (by rw [bs_size]; omega)]
  congr 2
  apply ByteArray.ext
  rw [ByteArray.data_extract]
  simp [bs]
  exact List.take_of_length_le (by rw [List.length_drop]; exact Nat.le_refl _)
theorem cutSS (b : List UInt8) (l h : Nat) (x y : Int) (hx : x = (l : Int)) (hy : y = (h : Int)) (h1 : l ≤ h) (h2 : h ≤ b.length) (w : World) : (Instr.slice 9 (.string (bs b)) (some (.int .i64 x)) (some (.int .i64 y)) none).run Try.prog w = .ok (.string (bs (cut b l (h - l)))) w := by
  subst hx hy
  rw [run_slice_string (P := Try.prog) w 9 (bs b) .i64 .i64 (l : Int) (h : Int) Try.underlying9 (by omega) (by omega) (by rw [bs_size]; omega)]
  congr 2
  apply ByteArray.ext
  rw [ByteArray.data_extract]
  simp [bs, cut]
theorem Ints.mask {w w' : World} {ma : Option Addr} {mask : List Int} {S : Nat → Prop} (h : Ints w ma mask) (g : Below w.heap.size w w') (hs : ∀ k, S k → w.heap.size ≤ k) : MaskAt w' ma mask S := by
  rcases h with h | ⟨b, off, ha, hl⟩
  · exact .inl h
  · cases mask with
    | nil => exact .inl rfl
    | cons m r =>
      have hb : b < w.heap.size := hl.lt (by simp)
      exact .inr ⟨b, off, ha, hl.below g, fun x => by have := hs b x; omega⟩
theorem erased_fuse (img : List UInt8) : fuseD (tinyD img []) 0 = { tinyD img [] with fuse := some 0 } := rfl
set_option maxRecDepth 100000 in
set_option maxHeartbeats 16000000 in
theorem erased_any (s : ByteArray) (hs : s.size ≤ maxLen) (ma : Option Addr) (mask : List Int) (mc : Nat) (w : World) (hB : Ints w ma mask) (hml : mask.length ≤ maxLen) (hm : ∀ m ∈ mask, m < 9223372036854775808) : Calls Try.prog 7 #[.string s, .slice ma mask.length mc] w fun e w' => e = .returned (.bool true) ∧ Below w.heap.size w w' := by
  have HT := Lib.hid (fun w => tiny_any w)
  have HAL := Lib.hid (fun w => alive_any w)
  have HS1 := Lib.hid (fun w => shortB_any s hs 384 (by omega) 384 rfl w)
  obtain ⟨i1, hi1⟩ : ∃ i1, i1 = s.data.toList.take 384 := ⟨_, rfl⟩
  have li : i1.length ≤ 384 := by rw [hi1, List.length_take]; omega
  rw [← hi1] at HS1
  have HF0 := Lib.hid (fun w => fillC 3 (384 - (i1.length : Int)) (384 - i1.length) (by omega) (by omega) 3 rfl w)
  obtain ⟨IMG, hI⟩ : ∃ IMG, IMG = i1 ++ rep (384 - i1.length) 3 := ⟨_, rfl⟩
  have lI : IMG.length = 384 := by rw [hI, List.length_append, rep, List.length_replicate]; omega
  have zI : bs i1 ++ bs (rep (384 - i1.length) 3) = bs IMG := by rw [bs_append, hI]
  have si : (bs i1).size = i1.length := bs_size _
  have si2 : (bs (rep (384 - i1.length) 3)).size = 384 - i1.length := by rw [bs_size]; simp [rep]
  have HN := Lib.hid (fun w => fNew_tiny (bs IMG) (by rw [bs_size, lI]; omega) w)
  rw [list_bs, new_full lI] at HN
  have ok0 : (tinyD IMG []).Ok := by have := new_tiny_ok IMG (by omega); rw [new_full lI] at this; exact this
  have ok1 : (fuseD (tinyD IMG []) 0).Ok := fuse_keeps ok0 0
  have ok2 : (erasedD IMG).Ok := by have := erase_keeps ok1 2; rw [erased_1] at this; exact this
  obtain ⟨OUT, hO⟩ : ∃ OUT, OUT = erasedI IMG mask := ⟨_, rfl⟩
  have eC : crashD (erasedD IMG) mask = tinyD OUT [] := by rw [hO]; exact erased_2 IMG mask
  have ok3 : (tinyD OUT []).Ok := by have := crash_keeps ok2 mask; rw [eC] at this; exact this
  have lO : OUT.length = 384 := ok3.len
  have HFu := Lib.hid (fun w p S (h : FHas w p (tinyD IMG []) S) => fFuse_any h ok0 0 (by omega))
  have HEr := Lib.hid (fun w p S (h : FHas w p (fuseD (tinyD IMG []) 0) S) => fErase_any h ok1 2)
  rw [erased_1] at HEr
  have HI1 := Lib.hid (fun w p S (h : FHas w p (erasedD IMG) S) => fImage_any h ok2)
  rw [show (erasedD IMG).img = IMG from rfl] at HI1
  have HC := Lib.hid (fun w p S (h : FHas w p (erasedD IMG) S) hM => fCrash_any h ok2 ma mask mask.length mc rfl hM hm hml)
  rw [eC] at HC
  have HI2 := Lib.hid (fun w p S (h : FHas w p (tinyD OUT []) S) => fImage_any h ok3)
  rw [show (tinyD OUT []).img = OUT from rfl] at HI2
  have zt := cutS OUT 192 192 rfl (by omega)
  have zt2 := cutS IMG 192 192 rfl (by omega)
  rw [show OUT.take 192 = IMG.take 192 by rw [hO]; exact erased_take lI mask] at zt
  have zr := dropS OUT 288 288 rfl (by omega)
  have zr2 := dropS IMG 288 288 rfl (by omega)
  rw [show OUT.drop 288 = IMG.drop 288 by rw [hO]; exact erased_drop lI mask] at zr
  have sO : (bs OUT).size = 384 := by rw [bs_size, lO]
  have HBB := Lib.hid hB
  have HO := Lib.hid hO
  have HMM := Lib.hid hm
  unfold maxLen at hml
  clear ok0 ok1 ok2 ok3 eC hI hi1 hs hB hO hm
  go_enter Try.func7, Try.ntmps7
  go_wp2_with (first
    | (go_at_call 11; (with_reducible refine (HS1.out _).mono ?_); rintro e w0 ⟨rfl, rfl⟩)
    | (go_at_call 22; (with_reducible refine (HF0.out _).mono ?_); rintro e wf ⟨rfl, bf⟩)
    | (go_at_call 25; (with_reducible refine (HT.out _).mono ?_); rintro e w1 ⟨rfl, b1⟩)
    | (go_at_call 13; (with_reducible refine (HN.out _).mono ?_); rintro e w2 ⟨p, S2, rfl, h2, b2, s2⟩; have t2 : Safe w.heap.size w w2 S2 := ⟨bel2 (bel2 bf b1) b2, Nat.le_trans bf.size (Nat.le_trans b1.size b2.size), fun k hk => Nat.le_trans (Nat.le_trans bf.size b1.size) (s2 k hk)⟩)
    | (go_at_call 14; (with_reducible refine (HAL.out _).mono ?_); rintro e w3 ⟨rfl, b3⟩; have h3 := h2.below b3; have t3 := t2.below b3; clear h2 t2)
    | (go_at_call 30; (with_reducible refine (HFu.out _ _ _ h3).mono ?_); rintro e w5 ⟨rfl, S5, h5, a5⟩; have t5 := t3.after a5; clear h3 t3)
    | (go_at_call 31; (with_reducible refine (HEr.out _ _ _ h5).mono ?_); rintro e w6 ⟨rfl, S6, h6, a6⟩; have t6 := t5.after a6; clear h5 t5)
    | (go_at_call 21; (with_reducible refine (HI1.out _ _ _ h6).mono ?_); rintro e w7 ⟨rfl, b7⟩; have h7 := h6.below b7; have t7 := t6.below b7; clear h6 t6)
    | (go_at_call 28; (with_reducible refine (HC.out _ _ _ h7 (HBB.out.mask t7.bel t7.foot)).mono ?_); rintro e w8 ⟨rfl, S8, h8, a8⟩; have t8 := t7.after a8; clear h7 t7)
    | (go_at_call 21; (with_reducible refine (HI2.out _ _ _ h8).mono ?_); rintro e w9 ⟨rfl, b9⟩; have h9 := h8.below b9; have t9 := t8.below b9; clear h8 t8))
  have TB := Lib.hid t9.bel
  clear t9 h9
  go_quiet (fail)
  obtain ⟨w10, hw10⟩ : ∃ w10, w10 = w9.drewN nq := ⟨_, rfl⟩
  rw [← hw10]
  have TB2 := Lib.hid (show Below w.heap.size w w10 by rw [hw10]; exact TB.out.trans ((below_drewN w9 nq).mono TB.out.size))
  clear hw10 zt zt2 zr zr2
  go_wp2
  go_loopw [9] (fun v wr => ∃ i : Nat, v = .int .i64 (i : Int) ∧ i ≤ 3 ∧ Below w.heap.size w wr) (fun v _ => 3 - (intOf v).toNat)
  case atStart => exact ⟨0, rfl, by omega, TB2.out⟩
  case round =>
    obtain ⟨i, rfl, hi, hBr⟩ := hrel
    have HBr := Lib.hid hBr
    clear hBr TB TB2
    by_cases hi3 : i < 3
    · have d1 : decide ((i : Int) < 3) = true := by simp; omega
      have d2 : decide (i < 3) = true := by simp; omega
      obtain ⟨AT, hAT⟩ : ∃ AT, 192 + 32 * i = AT := ⟨_, rfl⟩
      have hAi : 192 + 32 * (i : Int) = (AT : Int) := by omega
      have hA3 : AT + 32 ≤ 288 := by omega
      by_cases him : i < mask.length
      · have d3 : decide ((i : Int) < (mask.length : Int)) = true := by simp; omega
        have d4 : decide (i < mask.length) = true := by simp; omega
        obtain ⟨mb, off, hma, ec⟩ := HBB.out.get HBr.out him
        subst hma
        obtain ⟨m, hmk⟩ : ∃ m, m = mask[i] := ⟨_, rfl⟩
        have hMD : mask.getD i 0 = m := by rw [hmk, List.getD_eq_getElem?_getD, List.getElem?_eq_getElem him]; rfl
        rw [← hmk] at ec
        have hmm : m < 9223372036854775808 := by rw [hmk]; exact HMM.out _ (List.getElem_mem him)
        clear hmk
        rcases (show m = 1 ∨ 1 < m ∨ m < 1 by omega) with h1 | h1 | h1
        · have q1 : (m == 1) = true := by simp; exact h1
          have q2 : decide (1 < m) = false := by simp; omega
          have HK := Lib.hid (show tornN 32 m = 32 by rw [h1]; rfl)
          clear h1
          have HX := Lib.hid (erased_cut lI mask hi3)
          rw [hMD] at HX
          rw [HK.out, hAT] at HX
          have zc := cutSS OUT AT (AT + 32) (AT : Int) ((AT : Int) + 32) rfl (by omega) (by omega) (by omega)
          have ze : cut OUT AT 32 = rep (32) 255 ++ cut IMG (AT + (32)) (32 - (32)) := by rw [HO.out]; exact HX.out
          rw [show AT + 32 - AT = 32 by omega, ze] at zc
          clear ze
          have zd := cutSS IMG (AT + (32)) (AT + 32) ((AT : Int) + 32) ((AT : Int) + 32) (by omega) (by omega) (by omega) (by omega)
          rw [show AT + 32 - (AT + (32)) = 32 - (32) by omega] at zd
          have HF := Lib.hid (fun w => fillC 255 (32) (32) (by omega) (by omega) 255 rfl w)
          have s1 : (bs (rep (32) 255)).size = 32 := by rw [bs_size]; simp [rep]
          have s2 : (bs (cut IMG (AT + (32)) (32 - (32)))).size = 32 - (32) := by rw [bs_size, cut_length (by omega)]
          have z3 : bs (rep (32) 255) ++ bs (cut IMG (AT + (32)) (32 - (32))) = bs (rep (32) 255 ++ cut IMG (AT + (32)) (32 - (32))) := bs_append _ _
          clear HX hMD
          go_wp2
          refine wp_region_is [93, 94, 95, 96, 97, 98, 99, 100, 101, 102, 103, 104, 105, 106, 107, 108] (fun w' => Below wr.heap.size wr w')
            [.string (bs OUT), .int .i64 (AT : Int), .int .i64 (AT : Int), .int .i64 ((AT : Int) + 32), .string (bs (rep (32) 255 ++ cut IMG (AT + (32)) (32 - (32)))), .int .i64 (32), .string (bs (rep (32) 255)), .string (bs IMG), .int .i64 (AT : Int), .int .i64 (32), .int .i64 ((AT : Int) + 32), .int .i64 (AT : Int), .int .i64 ((AT : Int) + 32), .string (bs (cut IMG (AT + (32)) (32 - (32)))), .string (bs (rep (32) 255 ++ cut IMG (AT + (32)) (32 - (32)))), .bool false] (by kernel_rfl) (by kernel_rfl) rfl (by decide) (by simp) (Below.refl _ _).drew ?each ?done
          case each =>
            simp only [Each]
            repeat' (first | exact trivial | refine And.intro ?_ ?_)
            all_goals
              intro ys wx hBx hdeps
              simp only [Deps, Region.binds, List.getD_cons_zero, List.getD_cons_succ, forall_const, and_true] at hdeps
              skip
              simp only [hdeps, fill, List.foldl_cons, List.foldl_nil, Act.put, List.setIfInBounds_toArray, List.set_cons_succ, List.set_cons_zero]
              first
                | (go_wp2_with fail; exact ⟨_, rfl, rfl, hBx, Below.refl _ _⟩)
                | (go_wp2_with (go_at_call 22; (with_reducible refine (HF.out _).mono ?_); rintro e w3 ⟨rfl, hm⟩); exact ⟨_, rfl, rfl, hBx.trans (hm.mono hBx.size), hm⟩)
          case done =>
            intro ys wx hBx hV
            have h108 : ys 108 = .bool false := hV 15 (by decide)
            simp only [h108, fill, List.drop_succ_cons, List.drop_zero, List.foldl_cons, List.foldl_nil, Act.put, List.setIfInBounds_toArray, List.set_cons_succ, List.set_cons_zero]
            go_wp2
            refine ⟨⟨i + 1, by go_num, by omega, bel2 HBr.out hBx⟩, by simp [intOf]; omega⟩
        · have q1 : (m == 1) = false := by simp; omega
          have q2 : decide (1 < m) = true := by simp; omega
          obtain ⟨t, ht⟩ : ∃ t : Nat, (t : Int) = (m - 2) % 31 := ⟨((m - 2) % 31).toNat, by omega⟩
          have ht2 : t < 31 := by omega
          have htm : (m - 2).tmod 31 = (t : Int) := by rw [ht]; exact Int.tmod_eq_emod_of_nonneg (by omega)
          have HK := Lib.hid (show tornN 32 m = 1 + t by
            unfold tornN
            rw [if_neg (by omega), if_neg (by omega)]
            have : (m - 2) % ((32 : Nat) - 1 : Int) = (t : Int) := by rw [ht]; rfl
            rw [this]; rfl)
          clear ht
          have HX := Lib.hid (erased_cut lI mask hi3)
          rw [hMD] at HX
          rw [HK.out, hAT] at HX
          have zc := cutSS OUT AT (AT + 32) (AT : Int) ((AT : Int) + 32) rfl (by omega) (by omega) (by omega)
          have ze : cut OUT AT 32 = rep (1 + t) 255 ++ cut IMG (AT + (1 + t)) (32 - (1 + t)) := by rw [HO.out]; exact HX.out
          rw [show AT + 32 - AT = 32 by omega, ze] at zc
          clear ze
          have zd := cutSS IMG (AT + (1 + t)) (AT + 32) ((AT : Int) + (1 + (t : Int))) ((AT : Int) + 32) (by omega) (by omega) (by omega) (by omega)
          rw [show AT + 32 - (AT + (1 + t)) = 32 - (1 + t) by omega] at zd
          have HF := Lib.hid (fun w => fillC 255 (1 + (t : Int)) (1 + t) (by omega) (by omega) 255 rfl w)
          have s1 : (bs (rep (1 + t) 255)).size = 1 + t := by rw [bs_size]; simp [rep]
          have s2 : (bs (cut IMG (AT + (1 + t)) (32 - (1 + t)))).size = 32 - (1 + t) := by rw [bs_size, cut_length (by omega)]
          have z3 : bs (rep (1 + t) 255) ++ bs (cut IMG (AT + (1 + t)) (32 - (1 + t))) = bs (rep (1 + t) 255 ++ cut IMG (AT + (1 + t)) (32 - (1 + t))) := bs_append _ _
          clear HX hMD
          go_wp2
          refine wp_region_is [93, 94, 95, 96, 97, 98, 99, 100, 101, 102, 103, 104, 105, 106, 107, 108] (fun w' => Below wr.heap.size wr w')
            [.string (bs OUT), .int .i64 (AT : Int), .int .i64 (AT : Int), .int .i64 ((AT : Int) + 32), .string (bs (rep (1 + t) 255 ++ cut IMG (AT + (1 + t)) (32 - (1 + t)))), .int .i64 (1 + (t : Int)), .string (bs (rep (1 + t) 255)), .string (bs IMG), .int .i64 (AT : Int), .int .i64 (1 + (t : Int)), .int .i64 ((AT : Int) + (1 + (t : Int))), .int .i64 (AT : Int), .int .i64 ((AT : Int) + 32), .string (bs (cut IMG (AT + (1 + t)) (32 - (1 + t)))), .string (bs (rep (1 + t) 255 ++ cut IMG (AT + (1 + t)) (32 - (1 + t)))), .bool false] (by kernel_rfl) (by kernel_rfl) rfl (by decide) (by simp) (Below.refl _ _).drew ?each ?done
          case each =>
            simp only [Each]
            repeat' (first | exact trivial | refine And.intro ?_ ?_)
            all_goals
              intro ys wx hBx hdeps
              simp only [Deps, Region.binds, List.getD_cons_zero, List.getD_cons_succ, forall_const, and_true] at hdeps
              skip
              simp only [hdeps, fill, List.foldl_cons, List.foldl_nil, Act.put, List.setIfInBounds_toArray, List.set_cons_succ, List.set_cons_zero]
              first
                | (go_wp2_with fail; exact ⟨_, rfl, rfl, hBx, Below.refl _ _⟩)
                | (go_wp2_with (go_at_call 22; (with_reducible refine (HF.out _).mono ?_); rintro e w3 ⟨rfl, hm⟩); exact ⟨_, rfl, rfl, hBx.trans (hm.mono hBx.size), hm⟩)
          case done =>
            intro ys wx hBx hV
            have h108 : ys 108 = .bool false := hV 15 (by decide)
            simp only [h108, fill, List.drop_succ_cons, List.drop_zero, List.foldl_cons, List.foldl_nil, Act.put, List.setIfInBounds_toArray, List.set_cons_succ, List.set_cons_zero]
            go_wp2
            refine ⟨⟨i + 1, by go_num, by omega, bel2 HBr.out hBx⟩, by simp [intOf]; omega⟩
        · have q1 : (m == 1) = false := by simp; omega
          have q2 : decide (1 < m) = false := by simp; omega
          obtain ⟨k0, hk0⟩ : ∃ k0 : Nat, k0 ≤ 0 := ⟨0, Nat.le_refl _⟩
          have HK := Lib.hid (show tornN 32 m = k0 by unfold tornN; rw [if_pos (by omega)]; omega)
          have HX := Lib.hid (erased_cut lI mask hi3)
          rw [hMD] at HX
          rw [HK.out, hAT] at HX
          have zc := cutSS OUT AT (AT + 32) (AT : Int) ((AT : Int) + 32) rfl (by omega) (by omega) (by omega)
          have ze : cut OUT AT 32 = rep (k0) 255 ++ cut IMG (AT + (k0)) (32 - (k0)) := by rw [HO.out]; exact HX.out
          rw [show AT + 32 - AT = 32 by omega, ze] at zc
          clear ze
          have zd := cutSS IMG (AT + (k0)) (AT + 32) ((AT : Int)) ((AT : Int) + 32) (by omega) (by omega) (by omega) (by omega)
          rw [show AT + 32 - (AT + (k0)) = 32 - (k0) by omega] at zd
          have HF := Lib.hid (fun w => fillC 255 (0) (k0) (by omega) (by omega) 255 rfl w)
          have s1 : (bs (rep (k0) 255)).size = k0 := by rw [bs_size]; simp [rep]
          have s2 : (bs (cut IMG (AT + (k0)) (32 - (k0)))).size = 32 - (k0) := by rw [bs_size, cut_length (by omega)]
          have z3 : bs (rep (k0) 255) ++ bs (cut IMG (AT + (k0)) (32 - (k0))) = bs (rep (k0) 255 ++ cut IMG (AT + (k0)) (32 - (k0))) := bs_append _ _
          clear HX hMD
          go_wp2
          refine wp_region_is [93, 94, 95, 96, 97, 98, 99, 100, 101, 102, 103, 104, 105, 106, 107, 108] (fun w' => Below wr.heap.size wr w')
            [.string (bs OUT), .int .i64 (AT : Int), .int .i64 (AT : Int), .int .i64 ((AT : Int) + 32), .string (bs (rep (k0) 255 ++ cut IMG (AT + (k0)) (32 - (k0)))), .int .i64 (0), .string (bs (rep (k0) 255)), .string (bs IMG), .int .i64 (AT : Int), .int .i64 (0), .int .i64 ((AT : Int)), .int .i64 (AT : Int), .int .i64 ((AT : Int) + 32), .string (bs (cut IMG (AT + (k0)) (32 - (k0)))), .string (bs (rep (k0) 255 ++ cut IMG (AT + (k0)) (32 - (k0)))), .bool false] (by kernel_rfl) (by kernel_rfl) rfl (by decide) (by simp) (Below.refl _ _).drew ?each ?done
          case each =>
            simp only [Each]
            repeat' (first | exact trivial | refine And.intro ?_ ?_)
            all_goals
              intro ys wx hBx hdeps
              simp only [Deps, Region.binds, List.getD_cons_zero, List.getD_cons_succ, forall_const, and_true] at hdeps
              skip
              simp only [hdeps, fill, List.foldl_cons, List.foldl_nil, Act.put, List.setIfInBounds_toArray, List.set_cons_succ, List.set_cons_zero]
              first
                | (go_wp2_with fail; exact ⟨_, rfl, rfl, hBx, Below.refl _ _⟩)
                | (go_wp2_with (go_at_call 22; (with_reducible refine (HF.out _).mono ?_); rintro e w3 ⟨rfl, hm⟩); exact ⟨_, rfl, rfl, hBx.trans (hm.mono hBx.size), hm⟩)
          case done =>
            intro ys wx hBx hV
            have h108 : ys 108 = .bool false := hV 15 (by decide)
            simp only [h108, fill, List.drop_succ_cons, List.drop_zero, List.foldl_cons, List.foldl_nil, Act.put, List.setIfInBounds_toArray, List.set_cons_succ, List.set_cons_zero]
            go_wp2
            refine ⟨⟨i + 1, by go_num, by omega, bel2 HBr.out hBx⟩, by simp [intOf]; omega⟩
      · have d3 : decide ((i : Int) < (mask.length : Int)) = false := by simp; omega
        have d4 : decide (i < mask.length) = false := by simp; omega
        have hMD : mask.getD i 0 = 0 := by rw [List.getD_eq_getElem?_getD, List.getElem?_eq_none (by omega)]; rfl
        obtain ⟨k0, hk0⟩ : ∃ k0 : Nat, k0 ≤ 0 := ⟨0, Nat.le_refl _⟩
        have HK := Lib.hid (show tornN 32 0 = k0 by rw [show tornN 32 0 = 0 from rfl]; omega)
        have HX := Lib.hid (erased_cut lI mask hi3)
        rw [hMD] at HX
        rw [HK.out, hAT] at HX
        have zc := cutSS OUT AT (AT + 32) (AT : Int) ((AT : Int) + 32) rfl (by omega) (by omega) (by omega)
        have ze : cut OUT AT 32 = rep (k0) 255 ++ cut IMG (AT + (k0)) (32 - (k0)) := by rw [HO.out]; exact HX.out
        rw [show AT + 32 - AT = 32 by omega, ze] at zc
        clear ze
        have zd := cutSS IMG (AT + (k0)) (AT + 32) ((AT : Int)) ((AT : Int) + 32) (by omega) (by omega) (by omega) (by omega)
        rw [show AT + 32 - (AT + (k0)) = 32 - (k0) by omega] at zd
        have HF := Lib.hid (fun w => fillC 255 (0) (k0) (by omega) (by omega) 255 rfl w)
        have s1 : (bs (rep (k0) 255)).size = k0 := by rw [bs_size]; simp [rep]
        have s2 : (bs (cut IMG (AT + (k0)) (32 - (k0)))).size = 32 - (k0) := by rw [bs_size, cut_length (by omega)]
        have z3 : bs (rep (k0) 255) ++ bs (cut IMG (AT + (k0)) (32 - (k0))) = bs (rep (k0) 255 ++ cut IMG (AT + (k0)) (32 - (k0))) := bs_append _ _
        clear HX hMD
        go_wp2
        refine wp_region_is [93, 94, 95, 96, 97, 98, 99, 100, 101, 102, 103, 104, 105, 106, 107, 108] (fun w' => Below wr.heap.size wr w')
          [.string (bs OUT), .int .i64 (AT : Int), .int .i64 (AT : Int), .int .i64 ((AT : Int) + 32), .string (bs (rep (k0) 255 ++ cut IMG (AT + (k0)) (32 - (k0)))), .int .i64 (0), .string (bs (rep (k0) 255)), .string (bs IMG), .int .i64 (AT : Int), .int .i64 (0), .int .i64 ((AT : Int)), .int .i64 (AT : Int), .int .i64 ((AT : Int) + 32), .string (bs (cut IMG (AT + (k0)) (32 - (k0)))), .string (bs (rep (k0) 255 ++ cut IMG (AT + (k0)) (32 - (k0)))), .bool false] (by kernel_rfl) (by kernel_rfl) rfl (by decide) (by simp) (Below.refl _ _).drew ?each ?done
        case each =>
          simp only [Each]
          repeat' (first | exact trivial | refine And.intro ?_ ?_)
          all_goals
            intro ys wx hBx hdeps
            simp only [Deps, Region.binds, List.getD_cons_zero, List.getD_cons_succ, forall_const, and_true] at hdeps
            skip
            simp only [hdeps, fill, List.foldl_cons, List.foldl_nil, Act.put, List.setIfInBounds_toArray, List.set_cons_succ, List.set_cons_zero]
            first
              | (go_wp2_with fail; exact ⟨_, rfl, rfl, hBx, Below.refl _ _⟩)
              | (go_wp2_with (go_at_call 22; (with_reducible refine (HF.out _).mono ?_); rintro e w3 ⟨rfl, hm⟩); exact ⟨_, rfl, rfl, hBx.trans (hm.mono hBx.size), hm⟩)
        case done =>
          intro ys wx hBx hV
          have h108 : ys 108 = .bool false := hV 15 (by decide)
          simp only [h108, fill, List.drop_succ_cons, List.drop_zero, List.foldl_cons, List.foldl_nil, Act.put, List.setIfInBounds_toArray, List.set_cons_succ, List.set_cons_zero]
          go_wp2
          refine ⟨⟨i + 1, by go_num, by omega, bel2 HBr.out hBx⟩, by simp [intOf]; omega⟩
    · have d1 : decide ((i : Int) < 3) = false := by simp; omega
      have d2 : decide (i < 3) = false := by simp; omega
      go_wp2
      go_ret
      exact ⟨rfl, HBr.out⟩
end Go.Proofs.Ytgcbdekdjdlfaaa.Flash
