/-
  ChartPlays' walk: any calls on an account are answered as the document says, and it is then what it says.
-/
import Derived.Test.YtmkdhehdfdkbjaaChartLa
import Derived.Test.YtmkdhehdfdkbjaaChartLb
set_option linter.unusedVariables false
set_option linter.unusedSimpArgs false
namespace Go.Proofs.Ytmkdhehdfdkbjaa.Chart
open Go.RowKit
open Go.Proofs.Ytmkdhehdfdkbjaa.Own
open Tup Foot
open Go.Proofs.Ytmkdhehdfdkbjaa.Region (fill Then Deps Each wp_region_is wp_region_is_tail)

/-- a step as it comes in -/
structure St where
  what : Int
  a : Int
  b : Int
  epoch : Nat
  near : Bool
def St.cells (x : St) : List Value := [.int .i64 x.what, .int .i64 x.a, .int .i64 x.b, .int .u32 (x.epoch : Int), .bool x.near]
def flatS (l : List St) : List Value := l.flatMap St.cells
theorem flatS_get {l : List St} {k j : Nat} (hk : k < l.length) (hj : j < 5) : (flatS l)[k * 5 + j]? = (l[k].cells)[j]? := by
  induction l generalizing k with
  | nil => simp at hk
  | cons x r ih =>
    cases k with
    | zero =>
      simp only [flatS, List.flatMap_cons, Nat.zero_mul, Nat.zero_add, List.getElem_cons_zero]
      rw [List.getElem?_append_left (by simp [St.cells]; omega)]
    | succ k =>
      have := ih (k := k) (by simpa using hk)
      simp only [flatS, List.flatMap_cons, List.getElem_cons_succ] at this ⊢
      rw [List.getElem?_append_right (by simp [St.cells]; omega), show (k + 1) * 5 + j - x.cells.length = k * 5 + j by simp [St.cells]; omega]
      exact this
theorem flatS_length (l : List St) : (flatS l).length = l.length * 5 := by
  induction l with
  | nil => rfl
  | cons x r ih => simp only [flatS, List.flatMap_cons, List.length_append] at ih ⊢; rw [ih]; simp [St.cells]; omega
theorem steps_get {w : World} {la : Option Addr} {l : List St} (h : At w la (flatS l)) {k : Nat} (hk : k < l.length) : ∃ b off, la = some ⟨b, off, none⟩ ∧ b < w.heap.size ∧ ∀ j, j < 5 → ∀ c, l[k].cells[j]? = some c → w.cell? ⟨b, off + k * 5 + j, none⟩ = some c := by
  rcases h with hn | ⟨b, off, ha, hl⟩
  · exfalso
    have h0 := flatS_get hk (show 0 < 5 by omega)
    rw [hn] at h0
    simp [St.cells] at h0
  · have hlt : b < w.heap.size := by
      refine hl.lt ?_
      intro hn
      have h0 := flatS_get hk (show 0 < 5 by omega)
      rw [hn] at h0
      simp [St.cells] at h0
    refine ⟨b, off, ha, hlt, fun j hj c hc => ?_⟩
    have := hl (k * 5 + j) c (by rw [flatS_get hk hj]; exact hc)
    rwa [← Nat.add_assoc] at this
theorem both_foot {S R : Nat → Prop} {B : Nat} (h : ∀ k, S k → B ≤ k) (g : ∀ k, R k → B ≤ k) : ∀ k, both S R k → B ≤ k := by
  rintro k (x | x)
  · exact h k x
  · exact g k x
set_option maxRecDepth 100000 in
set_option maxHeartbeats 16000000 in
theorem plays_any (gp gs gr : Int) (la : Option Addr) (l : List St) (lc : Nat) (w : World) (hS : At w la (flatS l)) (hll : l.length ≤ maxLen) :
    Calls Try.prog 3 #[Geom.gV ⟨gp, gs, gr⟩, .slice la l.length lc] w fun e w' => e = .returned (.bool true) ∧ Below w.heap.size w w' := by
  unfold Geom.gV
  obtain ⟨pg, hpg⟩ : ∃ n : Nat, (n : Int) = 32 + gp % 33 := ⟨(32 + gp % 33).toNat, by omega⟩
  obtain ⟨pgs, hpgs⟩ : ∃ n : Nat, (n : Int) = 3 + gs % 4 := ⟨(3 + gs % 4).toNat, by omega⟩
  obtain ⟨rgs, hrgs⟩ : ∃ n : Nat, (n : Int) = 4 + gr % 4 := ⟨(4 + gr % 4).toNat, by omega⟩
  have p0 : 32 ≤ pg := by omega
  have p1 : pg ≤ 64 := by omega
  have s0 : 3 ≤ pgs := by omega
  have s1 : pgs ≤ 6 := by omega
  have r0 : 4 ≤ rgs := by omega
  have r1 : rgs ≤ 7 := by omega
  have HG : Hid (∀ w, Calls Try.prog 10 #[.agg #[.int .i64 gp, .int .i64 gs, .int .i64 gr]] w fun e w' => e = .returned (.agg #[.int .i64 (pg : Int), .int .i64 (pgs : Int), .int .i64 (rgs : Int)]) ∧ Below w.heap.size w w') := fun w => by
    rw [hpg, hpgs, hrgs]; exact Geom.geom_any ⟨gp, gs, gr⟩ w
  have HAL := Lib.hid (fun w => alive_any w)
  have HN : Hid (∀ w, Calls Try.prog 11 #[.agg #[.int .i64 (pg : Int), .int .i64 (pgs : Int), .int .i64 (rgs : Int)]] w fun e w' => ∃ p S, e = .returned (.pointer (some ⟨p, 0, none⟩)) ∧ CHas w' p (newC pg pgs rgs) S ∧ Below w.heap.size w w' ∧ ∀ k, S k → w.heap.size ≤ k) := fun w => new_good pg pgs rgs p0 (by omega) s0 (by omega) r0 (by omega) w
  have OK0 := Lib.hid (new_ok (pg := pg) (pgs := pgs) (rgs := rgs) p0 (by omega) s0 (by omega) r0 (by omega))
  have HV0 := Lib.hid (Var.new w 23 [.int .i64 gp, .int .i64 gs, .int .i64 gr])
  clear hpg hpgs hrgs
  have HNR : Hid (∀ w, Calls Try.prog 14 #[.agg #[.int .i64 (pg : Int), .int .i64 (pgs : Int), .int .i64 (rgs : Int)]] w fun e w' => ∃ p S, e = .returned (.pointer (some ⟨p, 0, none⟩)) ∧ DHas w' p (newC pg pgs rgs) S ∧ Below w.heap.size w w' ∧ ∀ k, S k → w.heap.size ≤ k) := fun w => refNew_any pg pgs rgs p0 (by omega) s0 (by omega) r0 (by omega) w
  have HGe : Hid (∀ w p S, CHas w p (newC pg pgs rgs) S → Calls Try.prog 13 #[.pointer (some ⟨p, 0, none⟩)] w fun e w' => e = .returned (.agg #[.int .i64 (pg : Int), .int .i64 (pgs : Int), .int .i64 (rgs : Int)]) ∧ Below w.heap.size w w') := fun w p S h => cGeom_any h
  have HSTEPS := Lib.hid hS
  obtain ⟨L, hL⟩ : ∃ L, l.length = L := ⟨_, rfl⟩
  rw [hL] at hll ⊢
  have HLL := Lib.hid hL
  unfold maxLen at hll
  clear hS hL
  go_enter Try.func3, Try.ntmps3
  go_wp2_with (first
    | (go_at_call 10; (with_reducible refine (HG.out _).mono ?_); rintro e wg ⟨rfl, bg⟩; have vg := HV0.out.below bg HV0.out.lt; have c0 := vg.cell (j := 0) rfl; have c1 := vg.cell (j := 1) rfl; have c2 := vg.cell (j := 2) rfl; have f0 := vg.frozen 0; have f1 := vg.frozen 1; have f2 := vg.frozen 2; have vs := ((vg.set 0 (.int .i64 (pg : Int))).set 1 (.int .i64 (pgs : Int))).set 2 (.int .i64 (rgs : Int)); have VN := Lib.hid vs; have k0 := vs.cell (j := 0) rfl; have k1 := vs.cell (j := 1) rfl; have k2 := vs.cell (j := 2) rfl; have BN := Lib.hid ((((bel2 (Geom.bel_alloc w (.cells #[.int .i64 gp, .int .i64 gs, .int .i64 gr] 23)) bg).setCell (p := ⟨w.heap.size, 0, none⟩) (Nat.le_refl _) (.int .i64 (pg : Int))).setCell (p := ⟨w.heap.size, 1, none⟩) (Nat.le_refl _) (.int .i64 (pgs : Int))).setCell (p := ⟨w.heap.size, 2, none⟩) (Nat.le_refl _) (.int .i64 (rgs : Int))); clear vg bg vs)
    | (go_at_call 11; (with_reducible refine (HN.out _).mono ?_); rintro e w2 ⟨p, S, rfl, h2, b2, s2⟩; have v2 := VN.out.below b2 VN.out.lt; have V2 := Lib.hid v2; have H2 := Lib.hid h2; have BW2 := Lib.hid (BN.out.trans (b2.mono BN.out.size)); have SF2 := Lib.hid (show Safe (w.heap.size + 1) w2 w2 S from ⟨Below.refl _ _, v2.lt, fun k hk => Nat.le_trans VN.out.lt (s2 k hk)⟩); clear v2 h2 b2 s2 k0 k1 k2 f0 f1 f2 c0 c1 c2))
  refine wp_region_is [12, 13, 14, 15, 16, 17, 18, 19, 20, 21, 22, 23] (fun w' => Below w2.heap.size w2 w')
    [.bool true, .bool false, .bool false, .pointer (some ⟨p, 0, none⟩), .bool false, .bool false, .bool false, .pointer (some ⟨p, 0, none⟩), .agg #[.int .i64 (pg : Int), .int .i64 (pgs : Int), .int .i64 (rgs : Int)], .agg #[.int .i64 (pg : Int), .int .i64 (pgs : Int), .int .i64 (rgs : Int)], .bool false, .bool false] (by kernel_rfl) (by kernel_rfl) rfl (by decide) (by simp) (Below.refl _ _).drew ?each ?done
  case each =>
    simp only [Each]
    repeat' (first | exact trivial | refine And.intro ?_ ?_)
    all_goals
      intro ys wx hBx hdeps
      simp only [Deps, Region.binds, List.getD_cons_zero, List.getD_cons_succ, forall_const, and_true] at hdeps
      have c0 : wx.cell? ⟨w.heap.size, 0, none⟩ = some (.int .i64 (pg : Int)) := (V2.out.below hBx V2.out.lt).cell (j := 0) rfl
      have c1 : wx.cell? ⟨w.heap.size, 1, none⟩ = some (.int .i64 (pgs : Int)) := (V2.out.below hBx V2.out.lt).cell (j := 1) rfl
      have c2 : wx.cell? ⟨w.heap.size, 2, none⟩ = some (.int .i64 (rgs : Int)) := (V2.out.below hBx V2.out.lt).cell (j := 2) rfl
      simp only [hdeps, fill, List.foldl_cons, List.foldl_nil, Act.put, List.setIfInBounds_toArray, List.set_cons_succ, List.set_cons_zero]
      first
        | (go_wp2_with fail; exact ⟨_, rfl, rfl, hBx, Below.refl _ _⟩)
        | (go_wp2_with (go_at_call 12; (with_reducible refine (HAL.out _).mono ?_); rintro e w3 ⟨rfl, hm⟩); exact ⟨_, rfl, rfl, hBx.trans (hm.mono hBx.size), hm⟩)
        | (go_wp2_with (go_at_call 13; (with_reducible refine (HGe.out _ _ _ (H2.out.below hBx)).mono ?_); rintro e w3 ⟨rfl, hm⟩); exact ⟨_, rfl, rfl, hBx.trans (hm.mono hBx.size), hm⟩)
  case done =>
    intro ys wx hBx hV
    have h23 : ys 23 = .bool false := hV 11 (by decide)
    have B3 := Lib.hid hBx
    have V3 := Lib.hid (V2.out.below hBx V2.out.lt)
    have c0 := V3.out.cell (j := 0) rfl
    have c1 := V3.out.cell (j := 1) rfl
    have c2 := V3.out.cell (j := 2) rfl
    clear hBx hV
    simp only [h23, fill, List.drop_succ_cons, List.drop_zero, List.foldl_cons, List.foldl_nil, Act.put, List.setIfInBounds_toArray, List.set_cons_succ, List.set_cons_zero]
    go_wp2_with (go_at_call 14; (with_reducible refine (HNR.out _).mono ?_); rintro e w4 ⟨r, R, rfl, h4, b4, s4⟩)
    have S24 := Lib.hid (bel2 B3.out b4)
    have TW0 := Lib.hid (show Two w4 p r (newC pg pgs rgs) (newC pg pgs rgs) S R from ⟨H2.out.below S24.out, h4, fun k hs hr => by have e1 := H2.out.lt k hs; have e2 := s4 k hr; have e3 := B3.out.size; omega⟩)
    have SF0 := Lib.hid (show Safe w.heap.size w w4 (both S R) from ⟨BW2.out.trans (S24.out.mono BW2.out.size), Nat.le_trans BW2.out.size S24.out.size, both_foot (fun k hk => by have := SF2.out.foot k hk; omega) (fun k hk => Nat.le_trans (Nat.le_trans BW2.out.size B3.out.size) (s4 k hk))⟩)
    clear h4 b4 s4 c0 c1 c2 V3 B3 S24 H2 V2 SF2 BW2
    go_loopw [7] (fun v wr => ∃ i : Nat, v = .int .i64 (i : Int) ∧ i ≤ L ∧ i ≤ 80 ∧ ∃ c, c.Ok ∧ Two wr p r c c S R ∧ Safe w.heap.size w wr (both S R)) (fun v _ => L - (intOf v).toNat)
    case atStart => exact ⟨0, rfl, by omega, by omega, _, OK0.out, TW0.out, SF0.out⟩
    case round =>
      obtain ⟨i, rfl, hiL, hi80, c, hok, htwo, hsafe⟩ := hrel
      have hOK := Lib.hid hok
      have TWO := Lib.hid htwo
      have SAFE := Lib.hid hsafe
      clear hok htwo hsafe TW0 SF0 OK0
      by_cases hlt : i < L
      · have d1 : decide ((i : Int) < (L : Int)) = true := by simp; omega
        have d2 : decide (i < L) = true := by simp; omega
        by_cases h80 : i < 80
        · have d3 : decide ((i : Int) < 80) = true := by simp; omega
          have d4 : decide (i < 80) = true := by simp; omega
          have hil : i < l.length := by rw [HLL.out]; exact hlt
          obtain ⟨lb, off, hla, hlb, hcell⟩ := steps_get HSTEPS.out hil
          subst hla
          obtain ⟨tw, ta, tb, te, tn, hx⟩ : ∃ tw ta tb te tn, l[i] = ⟨tw, ta, tb, te, tn⟩ := ⟨_, _, _, _, _, rfl⟩
          rw [hx] at hcell
          simp only [St.cells] at hcell
          have HCELL := Lib.hid (fun wx (hb : Below w.heap.size w wx) => (show wx.cell? ⟨lb, off + i * 5, none⟩ = some (.int .i64 tw) ∧ wx.cell? ⟨lb, off + i * 5 + 1, none⟩ = some (.int .i64 ta) ∧ wx.cell? ⟨lb, off + i * 5 + 2, none⟩ = some (.int .i64 tb) ∧ wx.cell? ⟨lb, off + i * 5 + 3, none⟩ = some (.int .u32 (te : Int)) ∧ wx.cell? ⟨lb, off + i * 5 + 4, none⟩ = some (.bool tn) from by
            refine ⟨?_, ?_, ?_, ?_, ?_⟩
            · rw [hb.cell (p := ⟨lb, off + i * 5, none⟩) hlb]; exact hcell 0 (by omega) _ rfl
            · rw [hb.cell (p := ⟨lb, off + i * 5 + 1, none⟩) hlb]; exact hcell 1 (by omega) _ rfl
            · rw [hb.cell (p := ⟨lb, off + i * 5 + 2, none⟩) hlb]; exact hcell 2 (by omega) _ rfl
            · rw [hb.cell (p := ⟨lb, off + i * 5 + 3, none⟩) hlb]; exact hcell 3 (by omega) _ rfl
            · rw [hb.cell (p := ⟨lb, off + i * 5 + 4, none⟩) hlb]; exact hcell 4 (by omega) _ rfl))
          clear hcell HSTEPS hx
          have HST := Lib.hid (step_any TWO.out hOK.out tw ta tb te tn)
          have e0 := (HCELL.out _ SAFE.out.bel).1
          have e1 := (HCELL.out _ SAFE.out.bel).2.1
          have e2 := (HCELL.out _ SAFE.out.bel).2.2.1
          have e3 := (HCELL.out _ SAFE.out.bel).2.2.2.1
          have e4 := (HCELL.out _ SAFE.out.bel).2.2.2.2
          go_wp2_with (first
            | (go_at_call 15; (with_reducible refine HST.out.mono ?_); rintro e w5 ⟨rfl, ⟨c5, ok5, -, -, -, t5⟩, g5⟩; have OK5 := Lib.hid ok5; have T5 := Lib.hid t5; have SF5 := Lib.hid (SAFE.out.turn g5); clear e0 e1 e2 e3 e4 ok5 t5 g5; have e1 := (HCELL.out _ SF5.out.bel).2.1)
            | (go_at_call 16; (with_reducible refine (same_any T5.out OK5.out ta).mono ?_); rintro e w6 ⟨rfl, b6⟩))
          refine ⟨⟨i + 1, by go_num, by omega, by omega, c5, OK5.out, T5.out.below b6, SF5.out.below b6⟩, by simp [intOf]; omega⟩
        · obtain rfl : i = 80 := by omega
          clear HSTEPS
          go_wp2
          go_ret
          exact ⟨rfl, SAFE.out.bel⟩
      · obtain rfl : i = L := by omega
        have d1 : decide ((i : Int) < (i : Int)) = false := by simp
        clear HSTEPS
        go_wp2
        go_ret
        exact ⟨rfl, SAFE.out.bel⟩
end Go.Proofs.Ytmkdhehdfdkbjaa.Chart
