/-
  The walk of BatchFinds.
-/
import Derived.Test.YtjbgiolcfammkaaDoorBatchLaws
import Derived.Test.YtjbgiolcfammkaaDoorBatchXk
import Derived.Test.YtjbgiolcfammkaaDoorBatchXf
namespace Go.Proofs.YtjbgiolcfammkaaDoor.Batch
open Go.RowKit
open Go.Proofs.YtjbgiolcfammkaaDoor.Own
open Tup RefKeys RefSort Lay LayM

set_option maxRecDepth 100000 in
theorem finds_any (a : Option Addr) (l : List Wr) (cap : Nat) (key : ByteArray) (at_ : Int) (hl : l.length ≤ maxLen) (w : World) (hT : Tb w) (hr : WAt w a l) :
    Calls Tryd.prog 5 #[.slice a l.length cap, .string key, .int .i64 at_] w fun e w' => e = .returned (.bool true) ∧ Below w.heap.size w w' := by
  have HW : Hid (Calls Tryd.prog 13 #[.slice a l.length cap, .int .i64 30] w fun e w' => ∃ v, e = .returned v ∧ WMine w' w.heap.size v (writesOf l 30) ∧ Below w.heap.size w w') := writes_any a l cap 30 (by decide) hl w hr
  have HZ := Lib.hid (fine_writes l 30)
  have HN := writes_len l 30
  generalize writesOf l 30 = L at *
  clear hl hr
  go_enter Tryd.func5, Tryd.ntmps5
  go_wp2_with fail
  go_at_call 13
  with_reducible refine HW.out.mono ?_
  rintro e w1 ⟨v1, rfl, hv1, hb1⟩
  with_reducible refine Exists.elim hv1.slice ?_
  intro va hh
  with_reducible refine Exists.elim hh ?_
  intro vc hh2
  have hve := hh2.1
  have HW1 := Lib.hid hh2.2
  have HM1 := Lib.hid hv1
  clear hh hh2 hv1
  subst hve
  have HF1 : Hid (∀ key w, Tb w → WAt w va L → Calls Tryd.prog 17 #[.slice va L.length vc, .string key] w fun e w' => e = .returned (.tuple #[.agg #[.string ((findW L key).getD zeroW).key, .bool ((findW L key).getD zeroW).del, .string ((findW L key).getD zeroW).val], .bool (findW L key).isSome]) ∧ Below w.heap.size w w') :=
    fun key w hT hr => findB_any va L vc key (by omega) w hT hr
  have HF2 : Hid (∀ key w, WAt w va L → Calls Tryd.prog 18 #[.slice va L.length vc, .string key] w fun e w' => e = .returned (.tuple #[.agg #[.string ((findW L key).getD zeroW).key, .bool ((findW L key).getD zeroW).del, .string ((findW L key).getD zeroW).val], .bool (findW L key).isSome]) ∧ Below w.heap.size w w') :=
    fun key w hr => find_any va L vc key (by omega) w hr
  by_cases h0 : 0 < L.length
  · have f1 : decide (0 < L.length) = true := by simpa using h0
    have f1' : decide ((0 : Int) < (L.length : Int)) = true := by simp; omega
    by_cases h1 : 0 ≤ at_
    · have f2 : decide (0 ≤ at_) = true := by simpa using h1
      obtain ⟨j, hj⟩ : ∃ j : Nat, Int.tmod at_ (L.length : Int) = j := ⟨(Int.tmod at_ (L.length : Int)).toNat, by have := Int.tmod_nonneg (L.length : Int) h1; omega⟩
      have hjl : j < L.length := by
        have := Int.tmod_lt_of_pos at_ (show (0 : Int) < (L.length : Int) by omega)
        omega
      obtain ⟨b, off, ha, c0, -, -⟩ := WAt.get HW1.out (List.getElem?_eq_getElem hjl)
      subst ha
      generalize L[j].key = key2 at *
      have hjm : at_ % (L.length : Int) = (j : Int) := by rw [← hj, Int.tmod_eq_emod_of_nonneg h1]
      go_wp2_with fail
      go_at_call 17
      with_reducible refine (HF1.out key2 w1 (hT.below hb1) HW1.out).mono ?_
      rintro e w2 ⟨rfl, hb2⟩
      have HB2 := Lib.hid (bel0 hb1 hb2)
      have HV2 := Lib.hid (WAt.below HW1.out hb2)
      clear hb2
      go_wp2_with fail
      go_at_call 18
      with_reducible refine (HF2.out key2 _ (WAt.below HV2.out (bel_alloc _ _))).mono ?_
      rintro e w3 ⟨rfl, hb3⟩
      have HB3 := Lib.hid (bel0 (HB2.out.alloc HB2.out.size (.cells #[.string ((findW L key2).getD zeroW).key, .bool ((findW L key2).getD zeroW).del, .string ((findW L key2).getD zeroW).val] 31)) hb3)
      have HV3 := Lib.hid (WAt.below (WAt.below HV2.out (bel_alloc _ _)) hb3)
      have HX3 := Lib.hid ((Var.new w2 31 [.string ((findW L key2).getD zeroW).key, .bool ((findW L key2).getD zeroW).del, .string ((findW L key2).getD zeroW).val]).below hb3 (by simp))
      clear hb3 HB2 HV2
      generalize (findW L key2).getD zeroW = x at *
      generalize (findW L key2).isSome = ok at *
      have HB4 := Lib.hid (HB3.out.alloc HB3.out.size (.cells #[.string x.key, .bool x.del, .string x.val] 31))
      have HV4 := Lib.hid (WAt.below HV3.out (bel_alloc w3 (.cells #[.string x.key, .bool x.del, .string x.val] 31)))
      have HX4 := Lib.hid (HX3.out.alloc (.cells #[.string x.key, .bool x.del, .string x.val] 31))
      have HY4 := Lib.hid (Var.new w3 31 [.string x.key, .bool x.del, .string x.val])
      go_wp2_with fail
      go_at_call 10
      with_reducible refine (alive_any _ (hT.below HB4.out)).mono ?_
      rintro e w5 ⟨rfl, hb5⟩
      have HB5 := Lib.hid (bel0 HB4.out hb5)
      have HV5 := Lib.hid (WAt.below HV4.out hb5)
      have HX5 := Lib.hid (HX4.out.below hb5 HX4.out.lt)
      have HY5 := Lib.hid (HY4.out.below hb5 HY4.out.lt)
      have x0 := HX5.out.cell (j := 0) rfl
      have x1 := HX5.out.cell (j := 1) rfl
      have x2 := HX5.out.cell (j := 2) rfl
      have y0 := HY5.out.cell (j := 0) rfl
      have y1 := HY5.out.cell (j := 1) rfl
      have y2 := HY5.out.cell (j := 2) rfl
      clear hb5 HB4 HV4 HX4 HY4 HX3 HB3 HV3
      go_wp2_with fail
      go_at_call 20
      with_reducible refine (keys_any (some ⟨b, off, none⟩) L vc (by omega) HZ.out w5 (hT.below HB5.out) HV5.out).mono ?_
      rintro e w6 ⟨v6, rfl, hr6, hb6⟩
      have HB6 := Lib.hid (bel0 HB5.out hb6)
      have HV6 := Lib.hid (WAt.below HV5.out hb6)
      with_reducible refine Exists.elim (row_strs hr6) ?_
      intro k1 hh1
      with_reducible refine Exists.elim hh1 ?_
      intro k2 hh2
      have hk6 := hh2.1
      have HC6 := Lib.hid hh2.2
      clear hr6 hh1 hh2 hb6 HB5 HV5 x0 x1 x2 y0 y1 y2 HX5 HY5
      subst hk6
      go_wp2_with fail
      go_at_call 21
      with_reducible refine (refKeys_any (some ⟨b, off, none⟩) L vc (by omega) HZ.out w6 HV6.out).mono ?_
      rintro e w7 ⟨v7, rfl, hr7, hb7⟩
      have HB7 := Lib.hid (bel0 HB6.out hb7)
      have HC7 := Lib.hid (HC6.out.below hb7)
      with_reducible refine Exists.elim (row_strs hr7) ?_
      intro k3 hh1
      with_reducible refine Exists.elim hh1 ?_
      intro k4 hh2
      have hk7 := hh2.1
      have HD7 := Lib.hid hh2.2
      clear hr7 hh1 hh2 hb7 HB6 HV6 HC6
      subst hk7
      have HS : Hid (Calls Tryd.prog 19 #[.slice k1 (keysW L).length k2, .slice k3 (keysW L).length k4] w7 fun e w' => e = .returned (.bool true) ∧ Below w7.heap.size w7 w') := by
        have := same_any k1 k3 (keysW L) (keysW L) k2 k4 (by have := keys_len (l := L); omega) w7 HC7.out HD7.out
        rw [decide_eq_true rfl] at this
        exact this
      go_wp2_with fail
      go_at_call 19
      with_reducible refine HS.out.mono ?_
      rintro e w8 ⟨rfl, hb8⟩
      have HB8 := Lib.hid (bel0 HB7.out hb8)
      clear hb8
      go_wp2
      go_ret
      exact ⟨by simp, HB8.out⟩
    · have f2 : decide (0 ≤ at_) = false := by simpa using h1
      go_wp2_with fail
      go_at_call 17
      with_reducible refine (HF1.out key w1 (hT.below hb1) HW1.out).mono ?_
      rintro e w2 ⟨rfl, hb2⟩
      have HB2 := Lib.hid (bel0 hb1 hb2)
      have HV2 := Lib.hid (WAt.below HW1.out hb2)
      clear hb2
      go_wp2_with fail
      go_at_call 18
      with_reducible refine (HF2.out key _ (WAt.below HV2.out (bel_alloc _ _))).mono ?_
      rintro e w3 ⟨rfl, hb3⟩
      have HB3 := Lib.hid (bel0 (HB2.out.alloc HB2.out.size (.cells #[.string ((findW L key).getD zeroW).key, .bool ((findW L key).getD zeroW).del, .string ((findW L key).getD zeroW).val] 31)) hb3)
      have HV3 := Lib.hid (WAt.below (WAt.below HV2.out (bel_alloc _ _)) hb3)
      have HX3 := Lib.hid ((Var.new w2 31 [.string ((findW L key).getD zeroW).key, .bool ((findW L key).getD zeroW).del, .string ((findW L key).getD zeroW).val]).below hb3 (by simp))
      clear hb3 HB2 HV2
      generalize (findW L key).getD zeroW = x at *
      generalize (findW L key).isSome = ok at *
      have HB4 := Lib.hid (HB3.out.alloc HB3.out.size (.cells #[.string x.key, .bool x.del, .string x.val] 31))
      have HV4 := Lib.hid (WAt.below HV3.out (bel_alloc w3 (.cells #[.string x.key, .bool x.del, .string x.val] 31)))
      have HX4 := Lib.hid (HX3.out.alloc (.cells #[.string x.key, .bool x.del, .string x.val] 31))
      have HY4 := Lib.hid (Var.new w3 31 [.string x.key, .bool x.del, .string x.val])
      go_wp2_with fail
      go_at_call 10
      with_reducible refine (alive_any _ (hT.below HB4.out)).mono ?_
      rintro e w5 ⟨rfl, hb5⟩
      have HB5 := Lib.hid (bel0 HB4.out hb5)
      have HV5 := Lib.hid (WAt.below HV4.out hb5)
      have HX5 := Lib.hid (HX4.out.below hb5 HX4.out.lt)
      have HY5 := Lib.hid (HY4.out.below hb5 HY4.out.lt)
      have x0 := HX5.out.cell (j := 0) rfl
      have x1 := HX5.out.cell (j := 1) rfl
      have x2 := HX5.out.cell (j := 2) rfl
      have y0 := HY5.out.cell (j := 0) rfl
      have y1 := HY5.out.cell (j := 1) rfl
      have y2 := HY5.out.cell (j := 2) rfl
      clear hb5 HB4 HV4 HX4 HY4 HX3 HB3 HV3
      go_wp2_with fail
      go_at_call 20
      with_reducible refine (keys_any va L vc (by omega) HZ.out w5 (hT.below HB5.out) HV5.out).mono ?_
      rintro e w6 ⟨v6, rfl, hr6, hb6⟩
      have HB6 := Lib.hid (bel0 HB5.out hb6)
      have HV6 := Lib.hid (WAt.below HV5.out hb6)
      with_reducible refine Exists.elim (row_strs hr6) ?_
      intro k1 hh1
      with_reducible refine Exists.elim hh1 ?_
      intro k2 hh2
      have hk6 := hh2.1
      have HC6 := Lib.hid hh2.2
      clear hr6 hh1 hh2 hb6 HB5 HV5 x0 x1 x2 y0 y1 y2 HX5 HY5
      subst hk6
      go_wp2_with fail
      go_at_call 21
      with_reducible refine (refKeys_any va L vc (by omega) HZ.out w6 HV6.out).mono ?_
      rintro e w7 ⟨v7, rfl, hr7, hb7⟩
      have HB7 := Lib.hid (bel0 HB6.out hb7)
      have HC7 := Lib.hid (HC6.out.below hb7)
      with_reducible refine Exists.elim (row_strs hr7) ?_
      intro k3 hh1
      with_reducible refine Exists.elim hh1 ?_
      intro k4 hh2
      have hk7 := hh2.1
      have HD7 := Lib.hid hh2.2
      clear hr7 hh1 hh2 hb7 HB6 HV6 HC6
      subst hk7
      have HS : Hid (Calls Tryd.prog 19 #[.slice k1 (keysW L).length k2, .slice k3 (keysW L).length k4] w7 fun e w' => e = .returned (.bool true) ∧ Below w7.heap.size w7 w') := by
        have := same_any k1 k3 (keysW L) (keysW L) k2 k4 (by have := keys_len (l := L); omega) w7 HC7.out HD7.out
        rw [decide_eq_true rfl] at this
        exact this
      go_wp2_with fail
      go_at_call 19
      with_reducible refine HS.out.mono ?_
      rintro e w8 ⟨rfl, hb8⟩
      have HB8 := Lib.hid (bel0 HB7.out hb8)
      clear hb8
      go_wp2
      go_ret
      exact ⟨by simp, HB8.out⟩
  · have f1 : decide (0 < L.length) = false := by simpa using h0
    have f1' : decide ((0 : Int) < (L.length : Int)) = false := decide_eq_false (by omega)
    go_wp2_with fail
    go_at_call 17
    with_reducible refine (HF1.out key w1 (hT.below hb1) HW1.out).mono ?_
    rintro e w2 ⟨rfl, hb2⟩
    have HB2 := Lib.hid (bel0 hb1 hb2)
    have HV2 := Lib.hid (WAt.below HW1.out hb2)
    clear hb2
    go_wp2_with fail
    go_at_call 18
    with_reducible refine (HF2.out key _ (WAt.below HV2.out (bel_alloc _ _))).mono ?_
    rintro e w3 ⟨rfl, hb3⟩
    have HB3 := Lib.hid (bel0 (HB2.out.alloc HB2.out.size (.cells #[.string ((findW L key).getD zeroW).key, .bool ((findW L key).getD zeroW).del, .string ((findW L key).getD zeroW).val] 31)) hb3)
    have HV3 := Lib.hid (WAt.below (WAt.below HV2.out (bel_alloc _ _)) hb3)
    have HX3 := Lib.hid ((Var.new w2 31 [.string ((findW L key).getD zeroW).key, .bool ((findW L key).getD zeroW).del, .string ((findW L key).getD zeroW).val]).below hb3 (by simp))
    clear hb3 HB2 HV2
    generalize (findW L key).getD zeroW = x at *
    generalize (findW L key).isSome = ok at *
    have HB4 := Lib.hid (HB3.out.alloc HB3.out.size (.cells #[.string x.key, .bool x.del, .string x.val] 31))
    have HV4 := Lib.hid (WAt.below HV3.out (bel_alloc w3 (.cells #[.string x.key, .bool x.del, .string x.val] 31)))
    have HX4 := Lib.hid (HX3.out.alloc (.cells #[.string x.key, .bool x.del, .string x.val] 31))
    have HY4 := Lib.hid (Var.new w3 31 [.string x.key, .bool x.del, .string x.val])
    go_wp2_with fail
    go_at_call 10
    with_reducible refine (alive_any _ (hT.below HB4.out)).mono ?_
    rintro e w5 ⟨rfl, hb5⟩
    have HB5 := Lib.hid (bel0 HB4.out hb5)
    have HV5 := Lib.hid (WAt.below HV4.out hb5)
    have HX5 := Lib.hid (HX4.out.below hb5 HX4.out.lt)
    have HY5 := Lib.hid (HY4.out.below hb5 HY4.out.lt)
    have x0 := HX5.out.cell (j := 0) rfl
    have x1 := HX5.out.cell (j := 1) rfl
    have x2 := HX5.out.cell (j := 2) rfl
    have y0 := HY5.out.cell (j := 0) rfl
    have y1 := HY5.out.cell (j := 1) rfl
    have y2 := HY5.out.cell (j := 2) rfl
    clear hb5 HB4 HV4 HX4 HY4 HX3 HB3 HV3
    go_wp2_with fail
    go_at_call 20
    with_reducible refine (keys_any va L vc (by omega) HZ.out w5 (hT.below HB5.out) HV5.out).mono ?_
    rintro e w6 ⟨v6, rfl, hr6, hb6⟩
    have HB6 := Lib.hid (bel0 HB5.out hb6)
    have HV6 := Lib.hid (WAt.below HV5.out hb6)
    with_reducible refine Exists.elim (row_strs hr6) ?_
    intro k1 hh1
    with_reducible refine Exists.elim hh1 ?_
    intro k2 hh2
    have hk6 := hh2.1
    have HC6 := Lib.hid hh2.2
    clear hr6 hh1 hh2 hb6 HB5 HV5 x0 x1 x2 y0 y1 y2 HX5 HY5
    subst hk6
    go_wp2_with fail
    go_at_call 21
    with_reducible refine (refKeys_any va L vc (by omega) HZ.out w6 HV6.out).mono ?_
    rintro e w7 ⟨v7, rfl, hr7, hb7⟩
    have HB7 := Lib.hid (bel0 HB6.out hb7)
    have HC7 := Lib.hid (HC6.out.below hb7)
    with_reducible refine Exists.elim (row_strs hr7) ?_
    intro k3 hh1
    with_reducible refine Exists.elim hh1 ?_
    intro k4 hh2
    have hk7 := hh2.1
    have HD7 := Lib.hid hh2.2
    clear hr7 hh1 hh2 hb7 HB6 HV6 HC6
    subst hk7
    have HS : Hid (Calls Tryd.prog 19 #[.slice k1 (keysW L).length k2, .slice k3 (keysW L).length k4] w7 fun e w' => e = .returned (.bool true) ∧ Below w7.heap.size w7 w') := by
      have := same_any k1 k3 (keysW L) (keysW L) k2 k4 (by have := keys_len (l := L); omega) w7 HC7.out HD7.out
      rw [decide_eq_true rfl] at this
      exact this
    go_wp2_with fail
    go_at_call 19
    with_reducible refine HS.out.mono ?_
    rintro e w8 ⟨rfl, hb8⟩
    have HB8 := Lib.hid (bel0 HB7.out hb8)
    clear hb8
    go_wp2
    go_ret
    exact ⟨by simp, HB8.out⟩
end Go.Proofs.YtjbgiolcfammkaaDoor.Batch
