/-
  The walk of BatchMakes.
-/
import Derived.Test.YtjbgiolcfammkaaDoorBatchLaws
import Derived.Test.YtjbgiolcfammkaaDoorBatchXm
import Derived.Test.YtjbgiolcfammkaaDoorJoinT
namespace Go.Proofs.YtjbgiolcfammkaaDoor.Batch
open Go.RowKit
open Own Tup RefKeys RefSort Lay LayM
theorem flatW_one (l : List Wr) : ∀ u ∈ flatW l, u.oneCell' = true := by
  intro u hu
  obtain ⟨x, _, hx⟩ := List.mem_flatMap.1 hu
  simp only [wrC, List.mem_cons, List.not_mem_nil, or_false] at hx
  rcases hx with rfl | rfl | rfl <;> rfl
set_option maxRecDepth 100000 in
set_option maxHeartbeats 2000000 in
theorem makes_any (a : Option Addr) (l : List Wr) (cap : Nat) (hl : l.length ≤ maxLen) (w : World) (hT : Tb w) (hr : WAt w a l) :
    Calls Tryd.prog 4 #[.slice a l.length cap] w fun e w' => e = .returned (.bool true) ∧ Below w.heap.size w w' := by
  have HW : Hid (Calls Tryd.prog 13 #[.slice a l.length cap, .int .i64 30] w fun e w' => ∃ v, e = .returned v ∧ WMine w' w.heap.size v (writesOf l 30) ∧ Below w.heap.size w w') := writes_any a l cap 30 (by decide) hl w hr
  have HZ := Lib.hid (fine_writes l 30)
  have HN := writes_len l 30
  generalize writesOf l 30 = L at *
  have hml : (makeW L).length ≤ 30 := by have := keys_len (l := L); rw [make_len]; omega
  clear hl hr
  go_enter Tryd.func4, Tryd.ntmps4
  go_wp2_with fail
  go_at_call 13
  with_reducible refine HW.out.mono ?_
  rintro e w1 ⟨v1, rfl, hv, hb1⟩
  have hbs1 := hb1.size
  have HO1 := Lib.hid hv
  with_reducible refine Exists.elim (WMine.slice hv) ?_
  intro va hh
  with_reducible refine Exists.elim hh ?_
  intro vc hh2
  have hve := hh2.1
  have HV1 := Lib.hid hh2.2
  clear hh hh2
  clear hv
  subst hve
  have b1 : (0 + L.length) * 40 ≤ 140737488355328 := by omega
  have b2 : 0 + L.length ≤ maxLen := by simp only [maxLen]; omega
  have HON := Lib.hid (flatW_one L)
  go_wp2_with (at_builtin; (refine append_rows rfl _ _ 22 rfl w1.heap.size 31 (.agg #[.string ⟨#[]⟩, .bool false, .string ⟨#[]⟩]) 3 40 Tryd.underlying22 infoW rfl (by decide) (.slice none 0 0) 0 [] rfl (WMine.nil _ _) _ L.length w.heap.size (flatW L) rfl HO1.out HON.out b1 b2 (Nat.le_refl _) ?_); intro v2 w2 hown2 hgrow2 hat2)
  have hb2 : Below w1.heap.size w1 w2 := (Below.refl _ _).grown hgrow2 (Nat.le_refl _) (fun k hk => by simp [Value.ownBlock] at hk)
  have hv : WMine w2 w1.heap.size v2 L := by
    rw [Nat.zero_add, List.nil_append] at hown2; exact hown2
  clear hown2 hgrow2 hat2 b1 b2 HON HW
  with_reducible refine Exists.elim (WMine.slice hv) ?_
  intro oa hh
  with_reducible refine Exists.elim hh ?_
  intro oc hh2
  have hve := hh2.1
  have HP2 := Lib.hid hh2.2
  clear hh hh2
  clear hv
  subst hve
  have HB2 := Lib.hid (bel0 hb1 hb2)
  have HV2 := Lib.hid (WAt.below HV1.out hb2)
  clear hb1 hb2 HV1 HO1 hbs1
  go_wp2_with fail
  go_at_call 14
  with_reducible refine (make_any oa L oc (by omega) HZ.out w2 (hT.below HB2.out) HP2.out).mono ?_
  rintro e w3 ⟨v3, rfl, hv, hb3⟩
  have HO3 := Lib.hid hv
  with_reducible refine Exists.elim (WMine.slice hv) ?_
  intro ra hh
  with_reducible refine Exists.elim hh ?_
  intro rc hh2
  have hve := hh2.1
  have HR3 := Lib.hid hh2.2
  clear hh hh2
  clear hv
  subst hve
  have HV3 := Lib.hid (WAt.below HV2.out hb3)
  have HB3 := Lib.hid hb3
  clear hb3
  go_wp2_with fail
  go_at_call 16
  with_reducible refine (refMake_any va L vc (by omega) HZ.out w3 HV3.out).mono ?_
  rintro e w4 ⟨v4, rfl, hv, hb4⟩
  with_reducible refine Exists.elim (WMine.slice hv) ?_
  intro sa hh
  with_reducible refine Exists.elim hh ?_
  intro sc hh2
  have hve := hh2.1
  have HS4 := Lib.hid hh2.2
  clear hh hh2
  clear hv
  subst hve
  have HC4 : Hid (Calls Tryd.prog 15 #[.slice ra (makeW L).length rc, .slice sa (makeW L).length sc] w4 fun e w' => e = .returned (.bool true) ∧ ∃ n, w' = w4.drewN n) := by
    have := sameW_any ra sa (makeW L) (makeW L) rc sc (by omega) (by omega) w4 (WAt.below HR3.out hb4) HS4.out
    rw [decide_eq_true rfl] at this
    exact this
  have HB4 := Lib.hid (bel0 HB3.out hb4)
  have HO4 := Lib.hid (WMine.below HO3.out hb4)
  clear hb4
  go_wp2_with fail
  go_at_call 15
  with_reducible refine HC4.out.mono ?_
  rintro e w5 ⟨rfl, hd5⟩
  have hb5 : Below w4.heap.size w4 w5 := below_draw (Below.refl _ _) hd5
  have HB5 := Lib.hid (bel0 HB4.out hb5)
  have HO5 := Lib.hid (WMine.below HO4.out hb5)
  clear hd5 hb5 HC4 HS4 HO4 HB4 HB3 HO3 HR3 HV3
  have HC5 : Hid (∀ w, WAt w oa L → WAt w va L → Calls Tryd.prog 15 #[.slice oa L.length oc, .slice va L.length vc] w fun e w' => e = .returned (.bool true) ∧ ∃ n, w' = w.drewN n) := fun w h1 h2 => by
    have := sameW_any oa va L L oc vc (by omega) (by omega) w h1 h2
    rw [decide_eq_true rfl] at this
    exact this
  go_wp2_with fail
  go_at_call 15
  with_reducible refine (HC5.out _ (WAt.below HP2.out HB5.out) (WAt.below HV2.out HB5.out)).mono ?_
  rintro e w6 ⟨rfl, hd6⟩
  have hb6 : Below w5.heap.size w5 w6 := below_draw (Below.refl _ _) hd6
  have HB6 := Lib.hid (bel0 HB5.out hb6)
  have HO6 := Lib.hid (WMine.below HO5.out hb6)
  clear hd6 hb6 HB5 HO5
  obtain ⟨n, hn⟩ : ∃ n, n = (makeW L).length := ⟨_, rfl⟩
  have HNL := Lib.hid hn
  rw [← hn] at hml ⊢
  clear hn
  go_wp2
  go_loopw [6] (fun i wr => ∃ k : Nat, i = .int .i64 (k : Int) ∧ k ≤ n ∧ Below w2.heap.size w2 wr ∧ ∃ xs, wr.ownsRow w2.heap.size 31 3 (.slice ra n rc) n xs) (fun i _ => n - (intOf i).toNat)
  case atStart => exact ⟨0, rfl, Nat.zero_le _, HB6.out, _, by rw [HNL.out]; exact HO6.out⟩
  case round =>
    obtain ⟨k, rfl, hk, hbel, xs, hxs⟩ := hrel
    have HB := Lib.hid hbel
    have HX := Lib.hid hxs
    clear hbel
    by_cases hlt : k < n
    · have d1 : decide ((k : Int) < (n : Int)) = true := by simp; omega
      have d2 : decide (k < n) = true := by simp; omega
      have hxl : k * 3 < xs.length := by rw [hxs.1]; omega
      obtain ⟨g, ha⟩ : ∃ g, ra = some ⟨g, 0, none⟩ := by
        rcases hxs.2 with ⟨hv, hn0⟩ | ⟨g, cap', cur, hv, _⟩
        · omega
        · simp only [Value.slice.injEq] at hv; exact ⟨g, hv.1⟩
      subst ha
      have hg2 := (owns_block hxs g 0 rfl).2.2.1
      have hcell : wr.cell? ⟨g, k * 3, none⟩ = some xs[k * 3] := by
        rcases At.of_owns hxs with h0 | ⟨b, off, ha, hl⟩
        · rw [h0] at hxl; simp at hxl
        · simp only [Option.some.injEq, Addr.mk.injEq, and_true] at ha
          obtain ⟨rfl, rfl⟩ := ha
          have := hl (k * 3) xs[k * 3] (List.getElem?_eq_getElem hxl)
          rwa [Nat.zero_add] at this
      have hfro : wr.frozen? ⟨g, k * 3, none⟩ = false := hxs.frozenAt (k * 3)
      generalize xs[k * 3] = old at *
      clear hxl
      go_wp2
      go_roundw
      case rel => exact ⟨k + 1, by go_num, by omega, HB.out.setCell hg2 _, _, owns_set HX.out (k * 3) _⟩
      case measure => simp [intOf]; omega
    · have d1 : decide ((k : Int) < (n : Int)) = false := by simp; omega
      have d2 : decide (k < n) = false := by simp; omega
      clear hxs HX HO6 HB6
      have HBW := Lib.hid (bel0 HB2.out HB.out)
      go_wp2_with fail
      go_at_call 10
      with_reducible refine (alive_any wr (hT.below HBW.out)).mono ?_
      rintro e w7 ⟨rfl, hb7⟩
      have HB7 := Lib.hid (bel0 HBW.out hb7)
      have HP7 := Lib.hid (WAt.below (WAt.below HP2.out HB.out) hb7)
      have HV7 := Lib.hid (WAt.below (WAt.below HV2.out HB.out) hb7)
      clear hb7 HB HBW HP2 HV2 HB2
      go_wp2_with fail
      go_at_call 15
      with_reducible refine (HC5.out _ HP7.out HV7.out).mono ?_
      rintro e w8 ⟨rfl, hd8⟩
      have hb8 : Below w7.heap.size w7 w8 := below_draw (Below.refl _ _) hd8
      have HB8 := Lib.hid (bel0 HB7.out hb8)
      have HP8 := Lib.hid (WAt.below HP7.out hb8)
      have HV8 := Lib.hid (WAt.below HV7.out hb8)
      clear hd8 hb8 HB7 HP7 HV7 HC5
      go_wp2_with fail
      go_at_call 14
      with_reducible refine (make_any oa L oc (by omega) HZ.out w8 (hT.below HB8.out) HP8.out).mono ?_
      rintro e w9 ⟨v9, rfl, hv, hb9⟩
      with_reducible refine Exists.elim (WMine.slice hv) ?_
      intro pa hh
      with_reducible refine Exists.elim hh ?_
      intro pc hh2
      have hve := hh2.1
      have HP9 := Lib.hid hh2.2
      clear hh hh2
      clear hv
      subst hve
      have HB9 := Lib.hid (bel0 HB8.out hb9)
      have HV9 := Lib.hid (WAt.below HV8.out hb9)
      clear hb9 HB8 HP8 HV8
      go_wp2_with fail
      go_at_call 16
      with_reducible refine (refMake_any va L vc (by omega) HZ.out w9 HV9.out).mono ?_
      rintro e w10 ⟨v10, rfl, hv, hb10⟩
      with_reducible refine Exists.elim (WMine.slice hv) ?_
      intro qa hh
      with_reducible refine Exists.elim hh ?_
      intro qc hh2
      have hve := hh2.1
      have HQ10 := Lib.hid hh2.2
      clear hh hh2
      clear hv
      subst hve
      have HB10 := Lib.hid (bel0 HB9.out hb10)
      have HC10 : Hid (Calls Tryd.prog 15 #[.slice pa (makeW L).length pc, .slice qa (makeW L).length qc] w10 fun e w' => e = .returned (.bool true) ∧ ∃ n, w' = w10.drewN n) := by
        have := sameW_any pa qa (makeW L) (makeW L) pc qc (by rw [← HNL.out]; omega) (by rw [← HNL.out]; omega) w10 (WAt.below HP9.out hb10) HQ10.out
        rw [decide_eq_true rfl] at this
        exact this
      clear hb10 HB9 HV9 HP9 HQ10
      go_wp2_with fail
      go_at_call 15
      with_reducible refine HC10.out.mono ?_
      rintro e w11 ⟨rfl, hd11⟩
      have HB11 := Lib.hid (below_draw HB10.out hd11)
      clear hd11
      go_wp2
      go_ret
      exact ⟨by simp, HB11.out⟩
end Go.Proofs.YtjbgiolcfammkaaDoor.Batch
