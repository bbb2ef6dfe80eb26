/-
  The walks of BatchBack and BatchMakes.
-/
import Derived.Test.YtjbgiolcfammkaaDoorBatchLaws
import Derived.Test.YtjbgiolcfammkaaDoorBatchXk
import Derived.Test.YtjbgiolcfammkaaDoorBatchXm
import Derived.Test.YtjbgiolcfammkaaDoorKeysB
namespace Go.Proofs.YtjbgiolcfammkaaDoor.Batch
open Go.RowKit
open Own Tup RefKeys RefSort Lay LayM
set_option maxRecDepth 100000 in
set_option maxHeartbeats 2000000 in
theorem back_any (a : Option Addr) (l : List Wr) (cap : Nat) (hl : l.length ≤ maxLen) (w : World) (hT : Tb w) (hr : WAt w a l) :
    Calls Tryd.prog 9 #[.slice a l.length cap] w fun e w' => e = .returned (.bool true) ∧ Below w.heap.size w w' := by
  have HW : Hid (∀ w, WAt w a l → Calls Tryd.prog 13 #[.slice a l.length cap, .int .i64 8] w fun e w' => ∃ v, e = .returned v ∧ WMine w' w.heap.size v (writesOf l 8) ∧ Below w.heap.size w w') := fun w hr => writes_any a l cap 8 (by decide) hl w hr
  have HZ := Lib.hid (fine_writes l 8)
  have HN := writes_len l 8
  have HR := Lib.hid hr
  generalize writesOf l 8 = L at *
  clear hl hr
  go_enter Tryd.func9, Tryd.ntmps9
  go_wp2_with fail
  go_at_call 10
  with_reducible refine (alive_any w hT).mono ?_
  rintro e w1 ⟨rfl, hb1⟩
  go_wp2_with fail
  go_at_call 13
  with_reducible refine (HW.out w1 (WAt.below HR.out hb1)).mono ?_
  rintro e w2 ⟨v2, rfl, hv, hb2⟩
  have HB2 := Lib.hid (bel0 hb1 hb2)
  clear hb1 hb2 HW HR
  with_reducible refine Exists.elim (WMine.slice hv) ?_
  intro va hh
  with_reducible refine Exists.elim hh ?_
  intro vc hh2
  have hve := hh2.1
  have HV2 := Lib.hid hh2.2
  clear hh hh2 hv
  subst hve
  go_wp2
  go_loopw [3] (fun i wr => ∃ k : Nat, i = .int .i64 (k : Int) ∧ k ≤ L.length ∧ (∀ x ∈ L.take k, keyRight x.key = true ∧ x.val.size ≤ 48) ∧ Below w2.heap.size w2 wr) (fun i _ => L.length - (intOf i).toNat)
  case atStart => exact ⟨0, rfl, Nat.zero_le _, by simp, Below.refl _ _⟩
  case round =>
    obtain ⟨k, rfl, hk, hok, hbel⟩ := hrel
    have HOK := Lib.hid hok
    have HB := Lib.hid hbel
    have HBW := Lib.hid (bel0 HB2.out hbel)
    have HV := Lib.hid (WAt.below HV2.out hbel)
    clear hok hbel
    by_cases hlt : k < L.length
    · have d1 : decide ((k : Int) < (L.length : Int)) = true := by simp; omega
      have d2 : decide (k < L.length) = true := by simp; omega
      obtain ⟨b, off, ha, c0, c1, c2⟩ := WAt.get HV.out (List.getElem?_eq_getElem hlt)
      have HKR := Lib.hid (fun w => Keys.right_any L[k].key (by have := HZ.out _ (List.getElem_mem hlt); unfold Keys.lim; omega) w)
      have HTK : Hid (keyRight L[k].key = true → L[k].val.size ≤ 48 → ∀ x ∈ L.take (k + 1), keyRight x.key = true ∧ x.val.size ≤ 48) := fun h1 h2 x hx => by
        rw [List.take_succ_eq_append_getElem hlt] at hx
        rcases List.mem_append.1 hx with hx | hx
        · exact HOK.out x hx
        · rw [List.mem_singleton.1 hx]; exact ⟨h1, h2⟩
      generalize L[k] = x at *
      subst ha
      cases hkr : keyRight x.key with
      | false =>
        rw [hkr] at HKR
        go_wp2_with (go_at_call 27; (with_reducible refine (HKR.out _).mono ?_); rintro e w3 ⟨rfl, hb3⟩)
        go_ret
        exact ⟨rfl, bel0 HBW.out hb3⟩
      | true =>
        rw [hkr] at HKR
        go_wp2_with fail
        go_at_call 27
        with_reducible refine (HKR.out _).mono ?_
        rintro e w3 ⟨rfl, hb3⟩
        have c2' : w3.cell? ⟨b, off + k * 3 + 2, none⟩ = some (.string x.val) := by rw [hb3.cell (p := ⟨b, off + k * 3 + 2, none⟩) (block_lt_of_cell c2)]; exact c2
        clear c0 c1 c2
        by_cases hv : 48 < x.val.size
        · have d3 : decide ((48 : Int) < (x.val.size : Int)) = true := by simp; omega
          go_wp2
          go_ret
          exact ⟨rfl, bel0 HBW.out hb3⟩
        · have d3 : decide ((48 : Int) < (x.val.size : Int)) = false := by simp; omega
          go_wp2
          go_roundw
          case rel => exact ⟨k + 1, by go_num, by omega, HTK.out hkr (by omega), bel0 HB.out hb3⟩
          case measure => simp [intOf]; omega
    · have d1 : decide ((k : Int) < (L.length : Int)) = false := by simp; omega
      have d2 : decide (k < L.length) = false := by simp; omega
      have HALL : Hid (∀ x ∈ L, keyRight x.key = true ∧ x.val.size ≤ 48) := fun x hx => HOK.out x (by rw [List.take_of_length_le (by omega)]; exact hx)
      clear HOK
      go_wp2_with fail
      go_at_call 14
      with_reducible refine (make_any va L vc (by omega) HZ.out wr (hT.below HBW.out) HV.out).mono ?_
      rintro e w3 ⟨v3, rfl, hv, hb3⟩
      have HB3 := Lib.hid (bel0 HBW.out hb3)
      have HV3 := Lib.hid (WAt.below HV.out hb3)
      clear hb3 HV HBW HB HV2 HB2
      with_reducible refine Exists.elim (WMine.slice hv) ?_
      intro ma hh
      with_reducible refine Exists.elim hh ?_
      intro mc hh2
      have hve := hh2.1
      have HM3 := Lib.hid hh2.2
      clear hh hh2 hv
      subst hve
      by_cases h0 : L = []
      · have q0 : ((L.length : Int) == 0) = true := by rw [h0]; rfl
        have q1 : (((makeW L).length : Int) == 0) = true := by rw [h0]; rfl
        clear h0
        go_wp2
        go_ret
        exact ⟨rfl, HB3.out⟩
      · have hpos : 0 < L.length := List.length_pos_iff.2 h0
        have q0 : ((L.length : Int) == 0) = false := by simp; omega
        have HRW := Lib.hid (make_right h0 (by omega) HALL.out)
        have HML := Lib.hid (make_len L)
        have HMM := Lib.hid (make_make L)
        have hml : (makeW L).length ≤ 8 := by have := keys_len (l := L); rw [make_len]; omega
        have HMZ : Hid (∀ x ∈ makeW L, x.key.size ≤ 8796093022208) := fun x hx => Nat.le_trans (rightGo_fine _ none (rightW_ok HRW.out).2.2 x hx).1 (by decide)
        generalize makeW L = M at *
        have HBY := Lib.hid (show bytesW M = (layB M, 0) by unfold bytesW; rw [if_neg (by simp [HRW.out])])
        have HRB := Lib.hid (read_back HRW.out)
        have hsz : (layB M).size ≤ 9000000000000000000 := by
          have := layTo_size M (fun x hx => ⟨(rightGo_fine _ none (rightW_ok HRW.out).2.2 x hx).1, (rightGo_fine _ none (rightW_ok HRW.out).2.2 x hx).2.1⟩) M.length (Nat.le_refl _)
          unfold layB; omega
        clear h0
        have HC1 := Lib.hid (bytes_any ma M mc (by omega) HMZ.out w3 (hT.below HB3.out) HM3.out)
        rw [HBY.out] at HC1
        go_wp2_with fail
        go_at_call 22
        with_reducible refine HC1.out.mono ?_
        rintro e w4 ⟨rfl, hb4⟩
        have HB4 := Lib.hid (bel0 HB3.out hb4)
        have HV4 := Lib.hid (WAt.below HV3.out hb4)
        have HM4 := Lib.hid (WAt.below HM3.out hb4)
        clear hb4 HB3 HV3 HM3 HC1
        have HC2 := Lib.hid (read_any (layB M) hsz w4 (hT.below HB4.out))
        rw [HRB.out] at HC2
        unfold ReadSays at HC2
        go_wp2_with fail
        go_at_call 24
        with_reducible refine HC2.out.mono ?_
        rintro e w5 ⟨v5, rfl, hv, hb5⟩
        have HB5 := Lib.hid (bel0 HB4.out hb5)
        have HV5 := Lib.hid (WAt.below HV4.out hb5)
        have HM5 := Lib.hid (WAt.below HM4.out hb5)
        clear hb5 HB4 HV4 HM4 HC2
        with_reducible refine Exists.elim (WMine.slice hv) ?_
        intro na hh
        with_reducible refine Exists.elim hh ?_
        intro nc hh2
        have hve := hh2.1
        have HN5 := Lib.hid hh2.2
        clear hh hh2 hv
        subst hve
        have HC3 := Lib.hid (right_any ma M mc (by simp only [maxLen]; omega) HMZ.out w5 (hT.below HB5.out) HM5.out)
        rw [HRW.out] at HC3
        go_wp2_with fail
        go_at_call 11
        with_reducible refine HC3.out.mono ?_
        rintro e w6 ⟨rfl, hb6⟩
        have HB6 := Lib.hid (bel0 HB5.out hb6)
        have HV6 := Lib.hid (WAt.below HV5.out hb6)
        have HM6 := Lib.hid (WAt.below HM5.out hb6)
        have HN6 := Lib.hid (WAt.below HN5.out hb6)
        clear hb6 HB5 HV5 HM5 HN5 HC3
        have HC4 : Hid (Calls Tryd.prog 15 #[.slice na M.length nc, .slice ma M.length mc] w6 fun e w' => e = .returned (.bool true) ∧ ∃ n, w' = w6.drewN n) := by
          have := sameW_any na ma M M nc mc (by omega) (by omega) w6 HN6.out HM6.out
          rw [decide_eq_true rfl] at this
          exact this
        go_wp2_with fail
        go_at_call 15
        with_reducible refine HC4.out.mono ?_
        rintro e w7 ⟨rfl, hd7⟩
        have hb7 : Below w6.heap.size w6 w7 := below_draw (Below.refl _ _) hd7
        have HB7 := Lib.hid (bel0 HB6.out hb7)
        have HV7 := Lib.hid (WAt.below HV6.out hb7)
        have HM7 := Lib.hid (WAt.below HM6.out hb7)
        clear hd7 hb7 HB6 HV6 HM6 HN6 HC4
        have HC5 := Lib.hid (make_any ma M mc (by omega) HMZ.out w7 (hT.below HB7.out) HM7.out)
        rw [HMM.out] at HC5
        go_wp2_with fail
        go_at_call 14
        with_reducible refine HC5.out.mono ?_
        rintro e w8 ⟨v8, rfl, hv, hb8⟩
        have HB8 := Lib.hid (bel0 HB7.out hb8)
        have HV8 := Lib.hid (WAt.below HV7.out hb8)
        have HM8 := Lib.hid (WAt.below HM7.out hb8)
        clear hb8 HB7 HV7 HM7 HC5
        with_reducible refine Exists.elim (WMine.slice hv) ?_
        intro pa hh
        with_reducible refine Exists.elim hh ?_
        intro pc hh2
        have hve := hh2.1
        have HP8 := Lib.hid hh2.2
        clear hh hh2 hv
        subst hve
        have HC6 : Hid (Calls Tryd.prog 15 #[.slice pa M.length pc, .slice ma M.length mc] w8 fun e w' => e = .returned (.bool true) ∧ ∃ n, w' = w8.drewN n) := by
          have := sameW_any pa ma M M pc mc (by omega) (by omega) w8 HP8.out HM8.out
          rw [decide_eq_true rfl] at this
          exact this
        go_wp2_with fail
        go_at_call 15
        with_reducible refine HC6.out.mono ?_
        rintro e w9 ⟨rfl, hd9⟩
        have hb9 : Below w8.heap.size w8 w9 := below_draw (Below.refl _ _) hd9
        have HB9 := Lib.hid (bel0 HB8.out hb9)
        have HV9 := Lib.hid (WAt.below HV8.out hb9)
        clear hd9 hb9 HB8 HV8 HM8 HP8 HC6
        go_wp2_with fail
        go_at_call 20
        with_reducible refine (keys_any va L vc (by omega) HZ.out w9 (hT.below HB9.out) HV9.out).mono ?_
        rintro e w10 ⟨v10, rfl, hr10, hb10⟩
        have HB10 := Lib.hid (bel0 HB9.out hb10)
        with_reducible refine Exists.elim (row_strs hr10) ?_
        intro k1 hh1
        with_reducible refine Exists.elim hh1 ?_
        intro k2 hh2
        have hk := hh2.1
        clear hr10 hh1 hh2 hb10
        subst hk
        have q2 : ((M.length : Int) == ((keysW L).length : Int)) = true := by rw [HML.out]; simp
        go_wp2
        go_ret
        exact ⟨by simp, HB10.out⟩
end Go.Proofs.YtjbgiolcfammkaaDoor.Batch
