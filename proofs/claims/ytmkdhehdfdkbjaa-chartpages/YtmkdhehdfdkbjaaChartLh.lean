/-
  ChartPages' walk: as many pages are taken as there are slots.
-/
import Derived.Test.YtmkdhehdfdkbjaaChartLg
set_option linter.unusedVariables false
set_option linter.unusedSimpArgs false
namespace Go.Proofs.Ytmkdhehdfdkbjaa.Chart
open Go.RowKit
open Go.Proofs.Ytmkdhehdfdkbjaa.Own
open Tup Foot
open Go.Proofs.Ytmkdhehdfdkbjaa.Region (fill Then Deps Each wp_region_is wp_region_is_tail Deps2 Each2 Owes upd put wp_region_each3 slots)

theorem upd_eq (d : Nat → Bool) (i : Nat) : upd d i i = true := by unfold upd; rw [if_pos rfl]
theorem upd_ne {d : Nat → Bool} {i j : Nat} (h : j ≠ i) : upd d i j = d j := by unfold upd; rw [if_neg h]
theorem upd_mono {d : Nat → Bool} {i j : Nat} (h : d j = true) : upd d i j = true := by unfold upd; split <;> simp_all
theorem put_eq (ys : Nat → Value) (s : Nat) (v : Value) : put ys (some s) v s = v := by simp [put]
theorem put_ne {ys : Nat → Value} {s t : Nat} (v : Value) (h : t ≠ s) : put ys (some s) v t = ys t := by simp [put, h]
/-- the slots of the last test's operations -/
def slE (i : Nat) : Nat := if i = 42 then 2 else 69 + i
theorem slE_ne {i j : Nat} (hi : i < 43) (hj : j < 43) (h : j ≠ i) : slE j ≠ slE i := by
  unfold slE; split <;> split <;> omega
/-- behind some of the last test's operations: a region is given up by one of them -/
def EJ (B p : Nat) (w1 : World) (S : Nat → Prop) (c1 c2 : Ch) (tab : List Value) (pre : List (Nat × Nat)) (dd : Nat → Bool) (ys : Nat → Value) (wx : World) : Prop :=
  (∀ i, i < 43 → dd i = true → ys (slE i) = tab.getD i undef) ∧ (∀ x ∈ pre, dd x.1 = true → dd x.2 = true) ∧ CHas wx p (if dd 34 then c2 else c1) S ∧ Safe B w1 wx S
theorem EJ.tabs {B p : Nat} {w1 : World} {S : Nat → Prop} {c1 c2 : Ch} {tab : List Value} {pre : List (Nat × Nat)} {dd : Nat → Bool} {ys : Nat → Value} {wx : World} (h : EJ B p w1 S c1 c2 tab pre dd ys wx) {i : Nat} (hi : i < 43) {v : Value} (hv : v = tab.getD i undef) :
    ∀ j, j < 43 → upd dd i j = true → put ys (some (slE i)) v (slE j) = tab.getD j undef := by
  intro j hj hd
  by_cases e : j = i
  · subst e; rw [put_eq]; exact hv
  · rw [put_ne v (slE_ne hi hj e)]
    rw [upd_ne e] at hd
    exact h.1 j hj hd
theorem EJ.pres {B p : Nat} {w1 : World} {S : Nat → Prop} {c1 c2 : Ch} {tab : List Value} {pre : List (Nat × Nat)} {dd : Nat → Bool} {ys : Nat → Value} {wx : World} (h : EJ B p w1 S c1 c2 tab pre dd ys wx) {i : Nat} (hp : ∀ x ∈ pre, x.1 = i → dd x.2 = true) : ∀ x ∈ pre, upd dd i x.1 = true → upd dd i x.2 = true := by
  intro x hx hd
  by_cases e : x.1 = i
  · exact upd_mono (hp x hx e)
  · rw [upd_ne e] at hd
    exact upd_mono (h.2.1 x hx hd)
theorem EJ.plain {B p : Nat} {w1 : World} {S : Nat → Prop} {c1 c2 : Ch} {tab : List Value} {pre : List (Nat × Nat)} {dd : Nat → Bool} {ys : Nat → Value} {wx wy : World} (h : EJ B p w1 S c1 c2 tab pre dd ys wx) {i : Nat} (hi : i < 43) (h34 : i ≠ 34) (hp : ∀ x ∈ pre, x.1 = i → dd x.2 = true) {v : Value} (hv : v = tab.getD i undef) (hb : Below wx.heap.size wx wy) :
    EJ B p w1 S c1 c2 tab pre (upd dd i) (put ys (some (slE i)) v) wy := by
  refine ⟨h.tabs hi hv, h.pres hp, ?_, h.2.2.2.below hb⟩
  rw [upd_ne (fun e => h34 e.symm)]
  exact h.2.2.1.below hb
theorem EJ.turn {B p : Nat} {w1 : World} {S : Nat → Prop} {c1 c2 : Ch} {tab : List Value} {pre : List (Nat × Nat)} {dd : Nat → Bool} {ys : Nat → Value} {wx wy : World} (h : EJ B p w1 S c1 c2 tab pre dd ys wx) (hp : ∀ x ∈ pre, x.1 = 34 → dd x.2 = true) {v : Value} (hv : v = tab.getD 34 undef) (hc : CHas wy p c2 S) (g : Grows S wx wy) :
    EJ B p w1 S c1 c2 tab pre (upd dd 34) (put ys (some (slE 34)) v) wy := by
  refine ⟨h.tabs (by decide) hv, h.pres hp, ?_, h.2.2.2.turn g⟩
  rw [upd_eq, if_pos rfl]
  exact hc
theorem EJ.slot {B p : Nat} {w1 : World} {S : Nat → Prop} {c1 c2 : Ch} {tab : List Value} {pre : List (Nat × Nat)} {dd : Nat → Bool} {ys : Nat → Value} {wx : World} (h : EJ B p w1 S c1 c2 tab pre dd ys wx) (i : Nat) (hi : i < 43) (hd : dd i = true) : ys (slE i) = tab.getD i undef := h.1 i hi hd
theorem EJ.first {B p : Nat} {w1 : World} {S : Nat → Prop} {c1 c2 : Ch} {tab : List Value} {pre : List (Nat × Nat)} {dd : Nat → Bool} {ys : Nat → Value} {wx : World} (h : EJ B p w1 S c1 c2 tab pre dd ys wx) (hd : dd 34 = false) : CHas wx p c1 S := by
  have := h.2.2.1
  rw [hd] at this; exact this
theorem EJ.second {B p : Nat} {w1 : World} {S : Nat → Prop} {c1 c2 : Ch} {tab : List Value} {pre : List (Nat × Nat)} {dd : Nat → Bool} {ys : Nat → Value} {wx : World} (h : EJ B p w1 S c1 c2 tab pre dd ys wx) (hd : dd 34 = true) : CHas wx p c2 S := by
  have := h.2.2.1
  rw [hd] at this; exact this
set_option maxRecDepth 100000 in
set_option maxHeartbeats 32000000 in
theorem pages_any (gp gs gr : Int) (w : World) :
    Calls Try.prog 6 #[Geom.gV ⟨gp, gs, gr⟩] w fun e w' => e = .returned (.bool true) ∧ Below w.heap.size w w' := by
  unfold Geom.gV
  obtain ⟨pg, hpg⟩ : ∃ n : Nat, (n : Int) = 32 + gp % 33 := ⟨(32 + gp % 33).toNat, by omega⟩
  obtain ⟨pgs, hpgs⟩ : ∃ n : Nat, (n : Int) = 3 + gs % 4 := ⟨(3 + gs % 4).toNat, by omega⟩
  obtain ⟨rgs, hrgs⟩ : ∃ n : Nat, (n : Int) = 4 + gr % 4 := ⟨(4 + gr % 4).toNat, by omega⟩
  have p0 : 32 ≤ pg := by omega
  have p1 : pg ≤ 64 := by omega
  have s0 : 3 ≤ pgs := by omega
  have s1 : pgs ≤ 6 := by omega
  have r0 : 4 ≤ rgs := by omega
  have r1 : rgs ≤ 7 := by omega
  have HG : Hid (∀ w, Calls Try.prog 10 #[.agg #[.int .i64 gp, .int .i64 gs, .int .i64 gr]] w fun e w' => e = .returned (.agg #[.int .i64 (pg : Int), .int .i64 (pgs : Int), .int .i64 (rgs : Int)]) ∧ Below w.heap.size w w') := fun w => by
    rw [hpg, hpgs, hrgs]; exact Geom.geom_any ⟨gp, gs, gr⟩ w
  have HAL := Lib.hid (fun w => alive_any w)
  have HN : Hid (∀ w, Calls Try.prog 11 #[.agg #[.int .i64 (pg : Int), .int .i64 (pgs : Int), .int .i64 (rgs : Int)]] w fun e w' => ∃ p S, e = .returned (.pointer (some ⟨p, 0, none⟩)) ∧ CHas w' p (newC pg pgs rgs) S ∧ Below w.heap.size w w' ∧ ∀ k, S k → w.heap.size ≤ k) := fun w => new_good pg pgs rgs p0 (by omega) s0 (by omega) r0 (by omega) w
  have OK0 := Lib.hid (new_ok (pg := pg) (pgs := pgs) (rgs := rgs) p0 (by omega) s0 (by omega) r0 (by omega))
  have HV0 := Lib.hid (Var.new w 23 [.int .i64 gp, .int .i64 gs, .int .i64 gr])
  clear hpg hpgs hrgs
  obtain ⟨sl, hsl⟩ : ∃ sl, sl = pgs - 1 := ⟨_, rfl⟩
  obtain ⟨NF, hNF⟩ : ∃ NF, NF = (rgs - 1) * sl + sl := ⟨_, rfl⟩
  have hNF2 : rgs * sl = NF := by rw [hNF, ← Nat.succ_mul]; congr 1; omega
  have hNF3 : NF ≤ 35 := by rw [← hNF2]; exact Nat.mul_le_mul r1 (show sl ≤ 5 by omega)
  have hmul : (rgs : Int) * (sl : Int) = (NF : Int) := by rw [← hNF2, Int.natCast_mul]
  have hpr : pgs * rgs ≤ 42 := Nat.mul_le_mul s1 r1
  have HSL : Hid (∀ w, Calls Try.prog 28 #[.agg #[.int .i64 (pg : Int), .int .i64 (pgs : Int), .int .i64 (rgs : Int)]] w fun e w' => e = .returned (.int .i64 (sl : Int)) ∧ Below w.heap.size w w') := fun w => by
    have := Geom.refSlots_any ⟨pg, pgs, rgs⟩ ⟨by simp only; omega, by simp only; omega, by simp only; omega, by simp only; omega, by simp only; omega, by simp only; omega⟩ w
    rw [show Geom.slotsG ⟨pg, pgs, rgs⟩ = (sl : Int) by unfold Geom.slotsG; simp only; omega] at this
    exact this
  have OKF := Lib.hid (show (pgC pg pgs rgs rgs (pgs - 1)).Ok from pg_ok OK0.out (Nat.le_refl _) (Nat.le_refl _) (by omega))
  have OKE := Lib.hid (show ((pgC pg pgs rgs rgs (pgs - 1)).put 0 0 0).Ok by have := erase_keeps OKF.out 0; rw [pg_erase_first (by omega)] at this; exact this)
  have HOl : Hid (∀ w S p, CHas w p (pgC pg pgs rgs rgs (pgs - 1)) S → Calls Try.prog 18 #[.pointer (some ⟨p, 0, none⟩)] w fun e w' => e = .returned (.tuple #[.int .i64 0, .bool true]) ∧ Below w.heap.size w w') := fun w S p h => by
    have := cOldest_any h OKF.out
    rw [pg_oldest (by omega)] at this; exact this
  have HF1 : Hid (∀ w S p, CHas w p (pgC pg pgs rgs rgs (pgs - 1)) S → Calls Try.prog 20 #[.pointer (some ⟨p, 0, none⟩)] w fun e w' => e = .returned (.int .i64 0) ∧ Below w.heap.size w w') := fun w S p h => by
    have := cFree_any h OKF.out
    rw [pg_free (Nat.le_refl _), Nat.sub_self] at this; exact this
  have HA1 : Hid (∀ w S p, CHas w p (pgC pg pgs rgs rgs (pgs - 1)) S → Calls Try.prog 22 #[.pointer (some ⟨p, 0, none⟩)] w fun e w' => e = .returned (.int .i64 0) ∧ Below w.heap.size w w') := fun w S p h => by
    have := cAvail_any h OKF.out
    rw [pg_full_avail (by omega)] at this; exact this
  have HE1 : Hid (∀ w S p, CHas w p (pgC pg pgs rgs rgs (pgs - 1)) S → Calls Try.prog 25 #[.pointer (some ⟨p, 0, none⟩), .int .i64 ((rgs : Int) - 1)] w fun e w' => e = .returned (.int .i64 7) ∧ Below w.heap.size w w') := fun w S p h => by
    have := cErase_any h OKF.out ((rgs : Int) - 1)
    rw [show (rgs : Int) - 1 = ((rgs - 1 : Nat) : Int) by omega, pg_erase_last (by omega)] at this
    rw [show (rgs : Int) - 1 = ((rgs - 1 : Nat) : Int) by omega]
    exact this.mono fun e w' q => ⟨q.1, q.2.2.2 (show (7 : Nat) ≠ 0 by decide)⟩
  have HE2 : Hid (∀ w S p, CHas w p (pgC pg pgs rgs rgs (pgs - 1)) S → Calls Try.prog 25 #[.pointer (some ⟨p, 0, none⟩), .int .i64 0] w fun e w' => e = .returned (.int .i64 0) ∧ CHas w' p ((pgC pg pgs rgs rgs (pgs - 1)).put 0 0 0) S ∧ Grows S w w') := fun w S p h => by
    have := cErase_any h OKF.out 0
    rw [pg_erase_first (by omega)] at this
    exact this.mono fun e w' q => ⟨q.1, q.2.1, q.2.2.1⟩
  have HF2 : Hid (∀ w S p, CHas w p ((pgC pg pgs rgs rgs (pgs - 1)).put 0 0 0) S → Calls Try.prog 20 #[.pointer (some ⟨p, 0, none⟩)] w fun e w' => e = .returned (.int .i64 1) ∧ Below w.heap.size w w') := fun w S p h => by
    have := cFree_any h OKE.out
    rw [pg_put_free (by omega)] at this; exact this
  have z1 : ((NF : Int) == (NF : Int)) = true := by simp
  have zp : ((pgs : Int) == 0) = false := by simp; omega
  have hmp : (pgs : Int) * (rgs : Int) = ((pgs * rgs : Nat) : Int) := by rw [Int.natCast_mul]
  have H00 := Lib.hid (pg_zero pg pgs rgs 0)
  go_enter Try.func6, Try.ntmps6
  go_wp2_with (first
    | (go_at_call 10; (with_reducible refine (HG.out _).mono ?_); rintro e wg ⟨rfl, bg⟩; have vg := HV0.out.below bg HV0.out.lt; have c0 := vg.cell (j := 0) rfl; have c1 := vg.cell (j := 1) rfl; have c2 := vg.cell (j := 2) rfl; have f0 := vg.frozen 0; have f1 := vg.frozen 1; have f2 := vg.frozen 2; have vs := ((vg.set 0 (.int .i64 (pg : Int))).set 1 (.int .i64 (pgs : Int))).set 2 (.int .i64 (rgs : Int)); have VN := Lib.hid vs; have k0 := vs.cell (j := 0) rfl; have k1 := vs.cell (j := 1) rfl; have k2 := vs.cell (j := 2) rfl; have BN := Lib.hid ((((bel2 (Geom.bel_alloc w (.cells #[.int .i64 gp, .int .i64 gs, .int .i64 gr] 23)) bg).setCell (p := ⟨w.heap.size, 0, none⟩) (Nat.le_refl _) (.int .i64 (pg : Int))).setCell (p := ⟨w.heap.size, 1, none⟩) (Nat.le_refl _) (.int .i64 (pgs : Int))).setCell (p := ⟨w.heap.size, 2, none⟩) (Nat.le_refl _) (.int .i64 (rgs : Int))); clear vg bg vs)
    | (go_at_call 11; (with_reducible refine (HN.out _).mono ?_); rintro e w2 ⟨p, S, rfl, h2, b2, s2⟩; have v2 := VN.out.below b2 VN.out.lt; have V2 := Lib.hid v2; have H2 := Lib.hid h2; have BW2 := Lib.hid (BN.out.trans (b2.mono BN.out.size)); have SF2 := Lib.hid (show Safe (w.heap.size + 1) w2 w2 S from ⟨Below.refl _ _, v2.lt, fun k hk => Nat.le_trans VN.out.lt (s2 k hk)⟩); clear v2 h2 b2 s2 k0 k1 k2 f0 f1 f2 c0 c1 c2)
    | (go_at_call 12; (with_reducible refine (HAL.out _).mono ?_); rintro e w3 ⟨rfl, b3⟩; have V3 := Lib.hid (V2.out.below b3 V2.out.lt); have H3 := Lib.hid (H2.out.below b3); have BW3 := Lib.hid (BW2.out.trans (b3.mono BW2.out.size)); have SF3 := Lib.hid (show Safe (w.heap.size + 1) w3 w3 S from ⟨Below.refl _ _, Nat.lt_of_lt_of_le V2.out.lt b3.size, SF2.out.foot⟩); clear b3))
  go_loopw [4, 5, 6, 7] (fun vn vl vm vk wr => ∃ (m u K NN : Nat) (la : Int) (mo : Bool), vn = .int .i64 (NN : Int) ∧ vl = .int .i64 la ∧ vm = .bool mo ∧ vk = .int .i64 (K : Int) ∧ m ≤ rgs ∧ u ≤ sl ∧ (m = 0 → u = 0) ∧ NN = (m - 1) * sl + u ∧ -1 ≤ la ∧ la ≤ (((m - 1) * pgs + u : Nat) : Int) ∧ (mo = true → K = NN + m) ∧ (mo = false → m = rgs ∧ u = sl ∧ K < 300) ∧ K ≤ 300 ∧ CHas wr p (pgC pg pgs rgs m u) S ∧ Safe (w.heap.size + 1) w3 wr S) (fun _ _ _ vk _ => 300 - (intOf vk).toNat)
  case atStart => exact ⟨0, 0, 0, 0, -1, true, rfl, rfl, rfl, rfl, Nat.zero_le _, Nat.zero_le _, fun _ => rfl, by simp, by omega, by simp, fun _ => rfl, by simp, by omega, by rw [H00.out]; exact H3.out, SF3.out⟩
  case round =>
    obtain ⟨m, u, K, NN, la, mo, rfl, rfl, rfl, rfl, hm, hu, hmu, hNN, hla, hla2, hmo, hmf, hK, hch, hsafe⟩ := hrel
    have HC := Lib.hid hch
    have SF := Lib.hid hsafe
    have V := Lib.hid (V3.out.below SF.out.bel (Nat.lt_succ_self _))
    have k1 := V.out.cell (j := 1) rfl
    have k2 := V.out.cell (j := 2) rfl
    have hms : (m - 1) * sl ≤ 6 * 5 := Nat.mul_le_mul (by omega) (by omega)
    have hmp2 : (m - 1) * pgs ≤ 6 * 6 := Nat.mul_le_mul (by omega) (by omega)
    have OKP := Lib.hid (show (pgC pg pgs rgs m u).Ok from pg_ok OK0.out hm (by omega) hmu)
    clear hch hsafe H3 SF3 V2 H2 BW2 SF2 VN BN HG HN HAL
    cases mo with
    | false =>
      obtain ⟨hm1, hu1, hK3⟩ := hmf rfl
      replace hm1 := hm1.symm
      replace hu1 := hu1.symm
      subst hm1 hu1
      have d1 : decide ((K : Int) < 300) = true := by simp; omega
      have d2 : decide (K < 300) = true := by simp; omega
      have hNe : NF = NN := by rw [hNN, hNF]
      subst hNe
      rw [hsl] at HC
      have Z0 := Lib.hid hNN
      clear hmo hmf hNN hNF hNF2 hsl hms hmp2 hla2 hmu hpr hmp
      go_wp2_with (go_at_call 18; (with_reducible refine (HOl.out _ _ _ HC.out).mono ?_); rintro e w6 ⟨rfl, b6⟩; have H6 := Lib.hid (HC.out.below b6); have SF6 := Lib.hid (SF.out.below b6); clear b6 k1 k2)
      refine wp_region_each3 [some 69, some 70, some 71, some 72, some 73, some 74, some 75, some 76, some 77, some 78, some 79, some 80, some 81, some 82, some 83, some 84, some 85, some 86, some 87, some 88, some 89, some 90, some 91, some 92, some 93, some 94, some 95, some 96, some 97, some 98, some 99, some 100, some 101, some 102, some 103, some 104, some 105, some 106, some 107, some 108, some 109, some 110, some 2] (EJ (w.heap.size + 1) p w3 S (pgC pg pgs rgs rgs (pgs - 1)) ((pgC pg pgs rgs rgs (pgs - 1)).put 0 0 0) [.int .i64 (NF : Int), .pointer (some ⟨w.heap.size, 2, none⟩), .int .i64 (rgs : Int), .agg #[.int .i64 (pg : Int), .int .i64 (pgs : Int), .int .i64 (rgs : Int)], .int .i64 (sl : Int), .int .i64 (NF : Int), .bool true, .bool true, .bool true, .bool true, .bool true, .int .i64 0, .bool true, .bool true, .bool true, .pointer (some ⟨p, 0, none⟩), .int .i64 0, .bool true, .bool true, .bool true, .pointer (some ⟨p, 0, none⟩), .int .i64 0, .bool true, .bool true, .bool true, .pointer (some ⟨p, 0, none⟩), .pointer (some ⟨w.heap.size, 2, none⟩), .int .i64 (rgs : Int), .int .i64 ((rgs : Int) - 1), .int .i64 7, .bool true, .bool true, .bool true, .pointer (some ⟨p, 0, none⟩), .int .i64 0, .bool true, .bool true, .bool true, .pointer (some ⟨p, 0, none⟩), .int .i64 1, .bool true, .bool true, .bool true] [(37, 36), (36, 35), (35, 34), (34, 32), (32, 31), (31, 30), (30, 29), (29, 24), (24, 23), (23, 22), (22, 21), (21, 19), (19, 18), (18, 17), (17, 16)]) (by kernel_rfl) (by kernel_rfl) (by simp [slots]) ?start ?each ?done
      case start => exact ⟨by simp, by simp, H6.out.below (below_drewN (Below.refl _ _) 1), SF6.out.below (below_drewN (Below.refl _ _) 1)⟩
      case each =>
        simp only [Each2]
        refine ⟨?o0, ?o1, ?o2, ?o3, ?o4, ?o5, ?o6, ?o7, ?o8, ?o9, ?o10, ?o11, ?o12, ?o13, ?o14, ?o15, ?o16, ?o17, ?o18, ?o19, ?o20, ?o21, ?o22, ?o23, ?o24, ?o25, ?o26, ?o27, ?o28, ?o29, ?o30, ?o31, ?o32, ?o33, ?o34, ?o35, ?o36, ?o37, ?o38, ?o39, ?o40, ?o41, ?o42, trivial⟩
        case o0 =>
          intro d0 ys wx hJ hdi hw hdeps
          have HJ := Lib.hid hJ
          clear hJ hw
          simp only [List.getD_cons_succ, List.getD_cons_zero, fill, slots, List.filterMap_cons, List.filterMap_nil, id, List.foldl_cons, List.foldl_nil, Act.put, List.setIfInBounds_toArray, List.set_cons_succ, List.set_cons_zero]
          go_wp2_with fail
          exact ⟨_, rfl, HJ.out.plain (i := 0) (by decide) (by decide) (by intro z hz hz1; simp only [List.mem_cons, List.not_mem_nil, or_false] at hz; rcases hz with rfl | rfl | rfl | rfl | rfl | rfl | rfl | rfl | rfl | rfl | rfl | rfl | rfl | rfl | rfl <;> exact absurd hz1 (by decide)) rfl (Below.refl _ _)⟩
        case o1 =>
          intro d0 ys wx hJ hdi hw hdeps
          have V := V3.out.below hJ.2.2.2.bel (Nat.lt_succ_self _)
          have c0 := V.cell (j := 0) rfl
          have c1 := V.cell (j := 1) rfl
          have c2 := V.cell (j := 2) rfl
          clear V
          have HJ := Lib.hid hJ
          clear hJ hw
          simp only [List.getD_cons_succ, List.getD_cons_zero, fill, slots, List.filterMap_cons, List.filterMap_nil, id, List.foldl_cons, List.foldl_nil, Act.put, List.setIfInBounds_toArray, List.set_cons_succ, List.set_cons_zero]
          go_wp2_with fail
          exact ⟨_, rfl, HJ.out.plain (i := 1) (by decide) (by decide) (by intro z hz hz1; simp only [List.mem_cons, List.not_mem_nil, or_false] at hz; rcases hz with rfl | rfl | rfl | rfl | rfl | rfl | rfl | rfl | rfl | rfl | rfl | rfl | rfl | rfl | rfl <;> exact absurd hz1 (by decide)) rfl (Below.refl _ _)⟩
        case o2 =>
          intro d0 ys wx hJ hdi hw hdeps
          have q1 : d0 1 = true := by simp [Region.Deps2, Go.Region.binds] at hdeps; simp [hdeps]
          have y1 : ys 70 = .pointer (some ⟨w.heap.size, 2, none⟩) := hJ.1 1 (by decide) q1
          have V := V3.out.below hJ.2.2.2.bel (Nat.lt_succ_self _)
          have c0 := V.cell (j := 0) rfl
          have c1 := V.cell (j := 1) rfl
          have c2 := V.cell (j := 2) rfl
          clear V
          have HJ := Lib.hid hJ
          clear hJ hw
          simp only [y1, List.getD_cons_succ, List.getD_cons_zero, fill, slots, List.filterMap_cons, List.filterMap_nil, id, List.foldl_cons, List.foldl_nil, Act.put, List.setIfInBounds_toArray, List.set_cons_succ, List.set_cons_zero]
          go_wp2_with fail
          exact ⟨_, rfl, HJ.out.plain (i := 2) (by decide) (by decide) (by intro z hz hz1; simp only [List.mem_cons, List.not_mem_nil, or_false] at hz; rcases hz with rfl | rfl | rfl | rfl | rfl | rfl | rfl | rfl | rfl | rfl | rfl | rfl | rfl | rfl | rfl <;> exact absurd hz1 (by decide)) rfl (Below.refl _ _)⟩
        case o3 =>
          intro d0 ys wx hJ hdi hw hdeps
          have V := V3.out.below hJ.2.2.2.bel (Nat.lt_succ_self _)
          have c0 := V.cell (j := 0) rfl
          have c1 := V.cell (j := 1) rfl
          have c2 := V.cell (j := 2) rfl
          clear V
          have HJ := Lib.hid hJ
          clear hJ hw
          simp only [List.getD_cons_succ, List.getD_cons_zero, fill, slots, List.filterMap_cons, List.filterMap_nil, id, List.foldl_cons, List.foldl_nil, Act.put, List.setIfInBounds_toArray, List.set_cons_succ, List.set_cons_zero]
          go_wp2_with fail
          exact ⟨_, rfl, HJ.out.plain (i := 3) (by decide) (by decide) (by intro z hz hz1; simp only [List.mem_cons, List.not_mem_nil, or_false] at hz; rcases hz with rfl | rfl | rfl | rfl | rfl | rfl | rfl | rfl | rfl | rfl | rfl | rfl | rfl | rfl | rfl <;> exact absurd hz1 (by decide)) rfl (Below.refl _ _)⟩
        case o4 =>
          intro d0 ys wx hJ hdi hw hdeps
          have q3 : d0 3 = true := by simp [Region.Deps2, Go.Region.binds] at hdeps; simp [hdeps]
          have y3 : ys 72 = .agg #[.int .i64 (pg : Int), .int .i64 (pgs : Int), .int .i64 (rgs : Int)] := hJ.1 3 (by decide) q3
          have HJ := Lib.hid hJ
          clear hJ hw
          simp only [y3, List.getD_cons_succ, List.getD_cons_zero, fill, slots, List.filterMap_cons, List.filterMap_nil, id, List.foldl_cons, List.foldl_nil, Act.put, List.setIfInBounds_toArray, List.set_cons_succ, List.set_cons_zero]
          go_wp2_with (go_at_call 28; (with_reducible refine (HSL.out _).mono ?_); rintro e wy ⟨rfl, by4⟩)
          exact ⟨_, rfl, HJ.out.plain (i := 4) (by decide) (by decide) (by intro z hz hz1; simp only [List.mem_cons, List.not_mem_nil, or_false] at hz; rcases hz with rfl | rfl | rfl | rfl | rfl | rfl | rfl | rfl | rfl | rfl | rfl | rfl | rfl | rfl | rfl <;> exact absurd hz1 (by decide)) rfl by4⟩
        case o5 =>
          intro d0 ys wx hJ hdi hw hdeps
          have q2 : d0 2 = true := by simp [Region.Deps2, Go.Region.binds] at hdeps; simp [hdeps]
          have y2 : ys 71 = .int .i64 (rgs : Int) := hJ.1 2 (by decide) q2
          have q4 : d0 4 = true := by simp [Region.Deps2, Go.Region.binds] at hdeps; simp [hdeps]
          have y4 : ys 73 = .int .i64 (sl : Int) := hJ.1 4 (by decide) q4
          have HJ := Lib.hid hJ
          clear hJ hw
          simp only [y2, y4, List.getD_cons_succ, List.getD_cons_zero, fill, slots, List.filterMap_cons, List.filterMap_nil, id, List.foldl_cons, List.foldl_nil, Act.put, List.setIfInBounds_toArray, List.set_cons_succ, List.set_cons_zero]
          go_wp2_with fail
          exact ⟨_, rfl, HJ.out.plain (i := 5) (by decide) (by decide) (by intro z hz hz1; simp only [List.mem_cons, List.not_mem_nil, or_false] at hz; rcases hz with rfl | rfl | rfl | rfl | rfl | rfl | rfl | rfl | rfl | rfl | rfl | rfl | rfl | rfl | rfl <;> exact absurd hz1 (by decide)) rfl (Below.refl _ _)⟩
        case o6 =>
          intro d0 ys wx hJ hdi hw hdeps
          have q0 : d0 0 = true := by simp [Region.Deps2, Go.Region.binds] at hdeps; simp [hdeps]
          have y0 : ys 69 = .int .i64 (NF : Int) := hJ.1 0 (by decide) q0
          have q5 : d0 5 = true := by simp [Region.Deps2, Go.Region.binds] at hdeps; simp [hdeps]
          have y5 : ys 74 = .int .i64 (NF : Int) := hJ.1 5 (by decide) q5
          have HJ := Lib.hid hJ
          clear hJ hw
          simp only [y0, y5, List.getD_cons_succ, List.getD_cons_zero, fill, slots, List.filterMap_cons, List.filterMap_nil, id, List.foldl_cons, List.foldl_nil, Act.put, List.setIfInBounds_toArray, List.set_cons_succ, List.set_cons_zero]
          go_wp2_with fail
          exact ⟨_, rfl, HJ.out.plain (i := 6) (by decide) (by decide) (by intro z hz hz1; simp only [List.mem_cons, List.not_mem_nil, or_false] at hz; rcases hz with rfl | rfl | rfl | rfl | rfl | rfl | rfl | rfl | rfl | rfl | rfl | rfl | rfl | rfl | rfl <;> exact absurd hz1 (by decide)) rfl (Below.refl _ _)⟩
        case o7 =>
          intro d0 ys wx hJ hdi hw hdeps
          have q6 : d0 6 = true := by simp [Region.Deps2, Go.Region.binds] at hdeps; simp [hdeps]
          have y6 : ys 75 = .bool true := hJ.1 6 (by decide) q6
          have HJ := Lib.hid hJ
          clear hJ hw
          simp only [y6, List.getD_cons_succ, List.getD_cons_zero, fill, slots, List.filterMap_cons, List.filterMap_nil, id, List.foldl_cons, List.foldl_nil, Act.put, List.setIfInBounds_toArray, List.set_cons_succ, List.set_cons_zero]
          go_wp2_with fail
          exact ⟨_, rfl, HJ.out.plain (i := 7) (by decide) (by decide) (by intro z hz hz1; simp only [List.mem_cons, List.not_mem_nil, or_false] at hz; rcases hz with rfl | rfl | rfl | rfl | rfl | rfl | rfl | rfl | rfl | rfl | rfl | rfl | rfl | rfl | rfl <;> exact absurd hz1 (by decide)) rfl (Below.refl _ _)⟩
        case o8 =>
          intro d0 ys wx hJ hdi hw hdeps
          have q7 : d0 7 = true := by simp [Region.Deps2, Go.Region.binds] at hdeps; simp [hdeps]
          have y7 : ys 76 = .bool true := hJ.1 7 (by decide) q7
          have HJ := Lib.hid hJ
          clear hJ hw
          simp only [y7, List.getD_cons_succ, List.getD_cons_zero, fill, slots, List.filterMap_cons, List.filterMap_nil, id, List.foldl_cons, List.foldl_nil, Act.put, List.setIfInBounds_toArray, List.set_cons_succ, List.set_cons_zero]
          go_wp2_with fail
          exact ⟨_, rfl, HJ.out.plain (i := 8) (by decide) (by decide) (by intro z hz hz1; simp only [List.mem_cons, List.not_mem_nil, or_false] at hz; rcases hz with rfl | rfl | rfl | rfl | rfl | rfl | rfl | rfl | rfl | rfl | rfl | rfl | rfl | rfl | rfl <;> exact absurd hz1 (by decide)) rfl (Below.refl _ _)⟩
        case o9 =>
          intro d0 ys wx hJ hdi hw hdeps
          have q7 : d0 7 = true := by simp [Region.Deps2, Go.Region.binds] at hdeps; simp [hdeps]
          have y7 : ys 76 = .bool true := hJ.1 7 (by decide) q7
          have q8 : d0 8 = true := by simp [Region.Deps2, Go.Region.binds] at hdeps; simp [hdeps]
          have y8 : ys 77 = .bool true := hJ.1 8 (by decide) q8
          have HJ := Lib.hid hJ
          clear hJ hw
          simp only [y7, y8, List.getD_cons_succ, List.getD_cons_zero, fill, slots, List.filterMap_cons, List.filterMap_nil, id, List.foldl_cons, List.foldl_nil, Act.put, List.setIfInBounds_toArray, List.set_cons_succ, List.set_cons_zero]
          go_wp2_with fail
          exact ⟨_, rfl, HJ.out.plain (i := 9) (by decide) (by decide) (by intro z hz hz1; simp only [List.mem_cons, List.not_mem_nil, or_false] at hz; rcases hz with rfl | rfl | rfl | rfl | rfl | rfl | rfl | rfl | rfl | rfl | rfl | rfl | rfl | rfl | rfl <;> exact absurd hz1 (by decide)) rfl (Below.refl _ _)⟩
        case o10 =>
          intro d0 ys wx hJ hdi hw hdeps
          have q9 : d0 9 = true := by simp [Region.Deps2, Go.Region.binds] at hdeps; simp [hdeps]
          have y9 : ys 78 = .bool true := hJ.1 9 (by decide) q9
          have HJ := Lib.hid hJ
          clear hJ hw
          simp only [y9, List.getD_cons_succ, List.getD_cons_zero, fill, slots, List.filterMap_cons, List.filterMap_nil, id, List.foldl_cons, List.foldl_nil, Act.put, List.setIfInBounds_toArray, List.set_cons_succ, List.set_cons_zero]
          go_wp2_with fail
          exact ⟨_, rfl, HJ.out.plain (i := 10) (by decide) (by decide) (by intro z hz hz1; simp only [List.mem_cons, List.not_mem_nil, or_false] at hz; rcases hz with rfl | rfl | rfl | rfl | rfl | rfl | rfl | rfl | rfl | rfl | rfl | rfl | rfl | rfl | rfl <;> exact absurd hz1 (by decide)) rfl (Below.refl _ _)⟩
        case o11 =>
          intro d0 ys wx hJ hdi hw hdeps
          have q10 : d0 10 = true := by simp [Region.Deps2, Go.Region.binds] at hdeps; simp [hdeps]
          have y10 : ys 79 = .bool true := hJ.1 10 (by decide) q10
          have HJ := Lib.hid hJ
          clear hJ hw
          simp only [y10, List.getD_cons_succ, List.getD_cons_zero, fill, slots, List.filterMap_cons, List.filterMap_nil, id, List.foldl_cons, List.foldl_nil, Act.put, List.setIfInBounds_toArray, List.set_cons_succ, List.set_cons_zero]
          go_wp2_with fail
          exact ⟨_, rfl, HJ.out.plain (i := 11) (by decide) (by decide) (by intro z hz hz1; simp only [List.mem_cons, List.not_mem_nil, or_false] at hz; rcases hz with rfl | rfl | rfl | rfl | rfl | rfl | rfl | rfl | rfl | rfl | rfl | rfl | rfl | rfl | rfl <;> exact absurd hz1 (by decide)) rfl (Below.refl _ _)⟩
        case o12 =>
          intro d0 ys wx hJ hdi hw hdeps
          have q10 : d0 10 = true := by simp [Region.Deps2, Go.Region.binds] at hdeps; simp [hdeps]
          have y10 : ys 79 = .bool true := hJ.1 10 (by decide) q10
          have q11 : d0 11 = true := by simp [Region.Deps2, Go.Region.binds] at hdeps; simp [hdeps]
          have y11 : ys 80 = .int .i64 0 := hJ.1 11 (by decide) q11
          have HJ := Lib.hid hJ
          clear hJ hw
          simp only [y10, y11, List.getD_cons_succ, List.getD_cons_zero, fill, slots, List.filterMap_cons, List.filterMap_nil, id, List.foldl_cons, List.foldl_nil, Act.put, List.setIfInBounds_toArray, List.set_cons_succ, List.set_cons_zero]
          go_wp2_with fail
          exact ⟨_, rfl, HJ.out.plain (i := 12) (by decide) (by decide) (by intro z hz hz1; simp only [List.mem_cons, List.not_mem_nil, or_false] at hz; rcases hz with rfl | rfl | rfl | rfl | rfl | rfl | rfl | rfl | rfl | rfl | rfl | rfl | rfl | rfl | rfl <;> exact absurd hz1 (by decide)) rfl (Below.refl _ _)⟩
        case o13 =>
          intro d0 ys wx hJ hdi hw hdeps
          have q10 : d0 10 = true := by simp [Region.Deps2, Go.Region.binds] at hdeps; simp [hdeps]
          have y10 : ys 79 = .bool true := hJ.1 10 (by decide) q10
          have q12 : d0 12 = true := by simp [Region.Deps2, Go.Region.binds] at hdeps; simp [hdeps]
          have y12 : ys 81 = .bool true := hJ.1 12 (by decide) q12
          have HJ := Lib.hid hJ
          clear hJ hw
          simp only [y10, y12, List.getD_cons_succ, List.getD_cons_zero, fill, slots, List.filterMap_cons, List.filterMap_nil, id, List.foldl_cons, List.foldl_nil, Act.put, List.setIfInBounds_toArray, List.set_cons_succ, List.set_cons_zero]
          go_wp2_with fail
          exact ⟨_, rfl, HJ.out.plain (i := 13) (by decide) (by decide) (by intro z hz hz1; simp only [List.mem_cons, List.not_mem_nil, or_false] at hz; rcases hz with rfl | rfl | rfl | rfl | rfl | rfl | rfl | rfl | rfl | rfl | rfl | rfl | rfl | rfl | rfl <;> exact absurd hz1 (by decide)) rfl (Below.refl _ _)⟩
        case o14 =>
          intro d0 ys wx hJ hdi hw hdeps
          have q13 : d0 13 = true := by simp [Region.Deps2, Go.Region.binds] at hdeps; simp [hdeps]
          have y13 : ys 82 = .bool true := hJ.1 13 (by decide) q13
          have HJ := Lib.hid hJ
          clear hJ hw
          simp only [y13, List.getD_cons_succ, List.getD_cons_zero, fill, slots, List.filterMap_cons, List.filterMap_nil, id, List.foldl_cons, List.foldl_nil, Act.put, List.setIfInBounds_toArray, List.set_cons_succ, List.set_cons_zero]
          go_wp2_with fail
          exact ⟨_, rfl, HJ.out.plain (i := 14) (by decide) (by decide) (by intro z hz hz1; simp only [List.mem_cons, List.not_mem_nil, or_false] at hz; rcases hz with rfl | rfl | rfl | rfl | rfl | rfl | rfl | rfl | rfl | rfl | rfl | rfl | rfl | rfl | rfl <;> exact absurd hz1 (by decide)) rfl (Below.refl _ _)⟩
        case o15 =>
          intro d0 ys wx hJ hdi hw hdeps
          have q14 : d0 14 = true := by simp [Region.Deps2, Go.Region.binds] at hdeps; simp [hdeps]
          have y14 : ys 83 = .bool true := hJ.1 14 (by decide) q14
          have HJ := Lib.hid hJ
          clear hJ hw
          simp only [y14, List.getD_cons_succ, List.getD_cons_zero, fill, slots, List.filterMap_cons, List.filterMap_nil, id, List.foldl_cons, List.foldl_nil, Act.put, List.setIfInBounds_toArray, List.set_cons_succ, List.set_cons_zero]
          go_wp2_with fail
          exact ⟨_, rfl, HJ.out.plain (i := 15) (by decide) (by decide) (by intro z hz hz1; simp only [List.mem_cons, List.not_mem_nil, or_false] at hz; rcases hz with rfl | rfl | rfl | rfl | rfl | rfl | rfl | rfl | rfl | rfl | rfl | rfl | rfl | rfl | rfl <;> exact absurd hz1 (by decide)) rfl (Below.refl _ _)⟩
        case o16 =>
          intro d0 ys wx hJ hdi hw hdeps
          have q14 : d0 14 = true := by simp [Region.Deps2, Go.Region.binds] at hdeps; simp [hdeps]
          have y14 : ys 83 = .bool true := hJ.1 14 (by decide) q14
          have q15 : d0 15 = true := by simp [Region.Deps2, Go.Region.binds] at hdeps; simp [hdeps]
          have y15 : ys 84 = .pointer (some ⟨p, 0, none⟩) := hJ.1 15 (by decide) q15
          have h34 : d0 34 = false := by
            cases h : d0 34 with
            | false => rfl
            | true =>
              have t0 := hJ.2.1 (34, 32) (by simp) h
              have t1 := hJ.2.1 (32, 31) (by simp) t0
              have t2 := hJ.2.1 (31, 30) (by simp) t1
              have t3 := hJ.2.1 (30, 29) (by simp) t2
              have t4 := hJ.2.1 (29, 24) (by simp) t3
              have t5 := hJ.2.1 (24, 23) (by simp) t4
              have t6 := hJ.2.1 (23, 22) (by simp) t5
              have t7 := hJ.2.1 (22, 21) (by simp) t6
              have t8 := hJ.2.1 (21, 19) (by simp) t7
              have t9 := hJ.2.1 (19, 18) (by simp) t8
              have t10 := hJ.2.1 (18, 17) (by simp) t9
              have t11 := hJ.2.1 (17, 16) (by simp) t10
              rw [hdi] at t11; exact absurd t11 (by simp)
          have hc := Lib.hid (hJ.first h34)
          have HJ := Lib.hid hJ
          clear hJ hw
          simp only [y14, y15, List.getD_cons_succ, List.getD_cons_zero, fill, slots, List.filterMap_cons, List.filterMap_nil, id, List.foldl_cons, List.foldl_nil, Act.put, List.setIfInBounds_toArray, List.set_cons_succ, List.set_cons_zero]
          go_wp2_with (go_at_call 20; (with_reducible refine (HF1.out _ _ _ hc.out).mono ?_); rintro e wy ⟨rfl, by4⟩)
          exact ⟨_, rfl, HJ.out.plain (i := 16) (by decide) (by decide) (by intro z hz hz1; simp only [List.mem_cons, List.not_mem_nil, or_false] at hz; rcases hz with rfl | rfl | rfl | rfl | rfl | rfl | rfl | rfl | rfl | rfl | rfl | rfl | rfl | rfl | rfl <;> exact absurd hz1 (by decide)) rfl by4⟩
        case o17 =>
          intro d0 ys wx hJ hdi hw hdeps
          have q14 : d0 14 = true := by simp [Region.Deps2, Go.Region.binds] at hdeps; simp [hdeps]
          have y14 : ys 83 = .bool true := hJ.1 14 (by decide) q14
          have q16 : d0 16 = true := by simp [Region.Deps2, Go.Region.binds] at hdeps; simp [hdeps]
          have y16 : ys 85 = .int .i64 0 := hJ.1 16 (by decide) q16
          have HJ := Lib.hid hJ
          clear hJ hw
          simp only [y14, y16, List.getD_cons_succ, List.getD_cons_zero, fill, slots, List.filterMap_cons, List.filterMap_nil, id, List.foldl_cons, List.foldl_nil, Act.put, List.setIfInBounds_toArray, List.set_cons_succ, List.set_cons_zero]
          go_wp2_with fail
          exact ⟨_, rfl, HJ.out.plain (i := 17) (by decide) (by decide) (by intro z hz hz1; simp only [List.mem_cons, List.not_mem_nil, or_false] at hz; rcases hz with rfl | rfl | rfl | rfl | rfl | rfl | rfl | rfl | rfl | rfl | rfl | rfl | rfl | rfl | rfl <;> first | exact q16 | exact absurd hz1 (by decide)) rfl (Below.refl _ _)⟩
        case o18 =>
          intro d0 ys wx hJ hdi hw hdeps
          have q14 : d0 14 = true := by simp [Region.Deps2, Go.Region.binds] at hdeps; simp [hdeps]
          have y14 : ys 83 = .bool true := hJ.1 14 (by decide) q14
          have q17 : d0 17 = true := by simp [Region.Deps2, Go.Region.binds] at hdeps; simp [hdeps]
          have y17 : ys 86 = .bool true := hJ.1 17 (by decide) q17
          have HJ := Lib.hid hJ
          clear hJ hw
          simp only [y14, y17, List.getD_cons_succ, List.getD_cons_zero, fill, slots, List.filterMap_cons, List.filterMap_nil, id, List.foldl_cons, List.foldl_nil, Act.put, List.setIfInBounds_toArray, List.set_cons_succ, List.set_cons_zero]
          go_wp2_with fail
          exact ⟨_, rfl, HJ.out.plain (i := 18) (by decide) (by decide) (by intro z hz hz1; simp only [List.mem_cons, List.not_mem_nil, or_false] at hz; rcases hz with rfl | rfl | rfl | rfl | rfl | rfl | rfl | rfl | rfl | rfl | rfl | rfl | rfl | rfl | rfl <;> first | exact q17 | exact absurd hz1 (by decide)) rfl (Below.refl _ _)⟩
        case o19 =>
          intro d0 ys wx hJ hdi hw hdeps
          have q18 : d0 18 = true := by simp [Region.Deps2, Go.Region.binds] at hdeps; simp [hdeps]
          have y18 : ys 87 = .bool true := hJ.1 18 (by decide) q18
          have HJ := Lib.hid hJ
          clear hJ hw
          simp only [y18, List.getD_cons_succ, List.getD_cons_zero, fill, slots, List.filterMap_cons, List.filterMap_nil, id, List.foldl_cons, List.foldl_nil, Act.put, List.setIfInBounds_toArray, List.set_cons_succ, List.set_cons_zero]
          go_wp2_with fail
          exact ⟨_, rfl, HJ.out.plain (i := 19) (by decide) (by decide) (by intro z hz hz1; simp only [List.mem_cons, List.not_mem_nil, or_false] at hz; rcases hz with rfl | rfl | rfl | rfl | rfl | rfl | rfl | rfl | rfl | rfl | rfl | rfl | rfl | rfl | rfl <;> first | exact q18 | exact absurd hz1 (by decide)) rfl (Below.refl _ _)⟩
        case o20 =>
          intro d0 ys wx hJ hdi hw hdeps
          have q19 : d0 19 = true := by simp [Region.Deps2, Go.Region.binds] at hdeps; simp [hdeps]
          have y19 : ys 88 = .bool true := hJ.1 19 (by decide) q19
          have HJ := Lib.hid hJ
          clear hJ hw
          simp only [y19, List.getD_cons_succ, List.getD_cons_zero, fill, slots, List.filterMap_cons, List.filterMap_nil, id, List.foldl_cons, List.foldl_nil, Act.put, List.setIfInBounds_toArray, List.set_cons_succ, List.set_cons_zero]
          go_wp2_with fail
          exact ⟨_, rfl, HJ.out.plain (i := 20) (by decide) (by decide) (by intro z hz hz1; simp only [List.mem_cons, List.not_mem_nil, or_false] at hz; rcases hz with rfl | rfl | rfl | rfl | rfl | rfl | rfl | rfl | rfl | rfl | rfl | rfl | rfl | rfl | rfl <;> exact absurd hz1 (by decide)) rfl (Below.refl _ _)⟩
        case o21 =>
          intro d0 ys wx hJ hdi hw hdeps
          have q19 : d0 19 = true := by simp [Region.Deps2, Go.Region.binds] at hdeps; simp [hdeps]
          have y19 : ys 88 = .bool true := hJ.1 19 (by decide) q19
          have q20 : d0 20 = true := by simp [Region.Deps2, Go.Region.binds] at hdeps; simp [hdeps]
          have y20 : ys 89 = .pointer (some ⟨p, 0, none⟩) := hJ.1 20 (by decide) q20
          have h34 : d0 34 = false := by
            cases h : d0 34 with
            | false => rfl
            | true =>
              have t0 := hJ.2.1 (34, 32) (by simp) h
              have t1 := hJ.2.1 (32, 31) (by simp) t0
              have t2 := hJ.2.1 (31, 30) (by simp) t1
              have t3 := hJ.2.1 (30, 29) (by simp) t2
              have t4 := hJ.2.1 (29, 24) (by simp) t3
              have t5 := hJ.2.1 (24, 23) (by simp) t4
              have t6 := hJ.2.1 (23, 22) (by simp) t5
              have t7 := hJ.2.1 (22, 21) (by simp) t6
              rw [hdi] at t7; exact absurd t7 (by simp)
          have hc := Lib.hid (hJ.first h34)
          have HJ := Lib.hid hJ
          clear hJ hw
          simp only [y19, y20, List.getD_cons_succ, List.getD_cons_zero, fill, slots, List.filterMap_cons, List.filterMap_nil, id, List.foldl_cons, List.foldl_nil, Act.put, List.setIfInBounds_toArray, List.set_cons_succ, List.set_cons_zero]
          go_wp2_with (go_at_call 22; (with_reducible refine (HA1.out _ _ _ hc.out).mono ?_); rintro e wy ⟨rfl, by4⟩)
          exact ⟨_, rfl, HJ.out.plain (i := 21) (by decide) (by decide) (by intro z hz hz1; simp only [List.mem_cons, List.not_mem_nil, or_false] at hz; rcases hz with rfl | rfl | rfl | rfl | rfl | rfl | rfl | rfl | rfl | rfl | rfl | rfl | rfl | rfl | rfl <;> first | exact q19 | exact absurd hz1 (by decide)) rfl by4⟩
        case o22 =>
          intro d0 ys wx hJ hdi hw hdeps
          have q19 : d0 19 = true := by simp [Region.Deps2, Go.Region.binds] at hdeps; simp [hdeps]
          have y19 : ys 88 = .bool true := hJ.1 19 (by decide) q19
          have q21 : d0 21 = true := by simp [Region.Deps2, Go.Region.binds] at hdeps; simp [hdeps]
          have y21 : ys 90 = .int .i64 0 := hJ.1 21 (by decide) q21
          have HJ := Lib.hid hJ
          clear hJ hw
          simp only [y19, y21, List.getD_cons_succ, List.getD_cons_zero, fill, slots, List.filterMap_cons, List.filterMap_nil, id, List.foldl_cons, List.foldl_nil, Act.put, List.setIfInBounds_toArray, List.set_cons_succ, List.set_cons_zero]
          go_wp2_with fail
          exact ⟨_, rfl, HJ.out.plain (i := 22) (by decide) (by decide) (by intro z hz hz1; simp only [List.mem_cons, List.not_mem_nil, or_false] at hz; rcases hz with rfl | rfl | rfl | rfl | rfl | rfl | rfl | rfl | rfl | rfl | rfl | rfl | rfl | rfl | rfl <;> first | exact q21 | exact absurd hz1 (by decide)) rfl (Below.refl _ _)⟩
        case o23 =>
          intro d0 ys wx hJ hdi hw hdeps
          have q19 : d0 19 = true := by simp [Region.Deps2, Go.Region.binds] at hdeps; simp [hdeps]
          have y19 : ys 88 = .bool true := hJ.1 19 (by decide) q19
          have q22 : d0 22 = true := by simp [Region.Deps2, Go.Region.binds] at hdeps; simp [hdeps]
          have y22 : ys 91 = .bool true := hJ.1 22 (by decide) q22
          have HJ := Lib.hid hJ
          clear hJ hw
          simp only [y19, y22, List.getD_cons_succ, List.getD_cons_zero, fill, slots, List.filterMap_cons, List.filterMap_nil, id, List.foldl_cons, List.foldl_nil, Act.put, List.setIfInBounds_toArray, List.set_cons_succ, List.set_cons_zero]
          go_wp2_with fail
          exact ⟨_, rfl, HJ.out.plain (i := 23) (by decide) (by decide) (by intro z hz hz1; simp only [List.mem_cons, List.not_mem_nil, or_false] at hz; rcases hz with rfl | rfl | rfl | rfl | rfl | rfl | rfl | rfl | rfl | rfl | rfl | rfl | rfl | rfl | rfl <;> first | exact q22 | exact absurd hz1 (by decide)) rfl (Below.refl _ _)⟩
        case o24 =>
          intro d0 ys wx hJ hdi hw hdeps
          have q23 : d0 23 = true := by simp [Region.Deps2, Go.Region.binds] at hdeps; simp [hdeps]
          have y23 : ys 92 = .bool true := hJ.1 23 (by decide) q23
          have HJ := Lib.hid hJ
          clear hJ hw
          simp only [y23, List.getD_cons_succ, List.getD_cons_zero, fill, slots, List.filterMap_cons, List.filterMap_nil, id, List.foldl_cons, List.foldl_nil, Act.put, List.setIfInBounds_toArray, List.set_cons_succ, List.set_cons_zero]
          go_wp2_with fail
          exact ⟨_, rfl, HJ.out.plain (i := 24) (by decide) (by decide) (by intro z hz hz1; simp only [List.mem_cons, List.not_mem_nil, or_false] at hz; rcases hz with rfl | rfl | rfl | rfl | rfl | rfl | rfl | rfl | rfl | rfl | rfl | rfl | rfl | rfl | rfl <;> first | exact q23 | exact absurd hz1 (by decide)) rfl (Below.refl _ _)⟩
        case o25 =>
          intro d0 ys wx hJ hdi hw hdeps
          have q24 : d0 24 = true := by simp [Region.Deps2, Go.Region.binds] at hdeps; simp [hdeps]
          have y24 : ys 93 = .bool true := hJ.1 24 (by decide) q24
          have HJ := Lib.hid hJ
          clear hJ hw
          simp only [y24, List.getD_cons_succ, List.getD_cons_zero, fill, slots, List.filterMap_cons, List.filterMap_nil, id, List.foldl_cons, List.foldl_nil, Act.put, List.setIfInBounds_toArray, List.set_cons_succ, List.set_cons_zero]
          go_wp2_with fail
          exact ⟨_, rfl, HJ.out.plain (i := 25) (by decide) (by decide) (by intro z hz hz1; simp only [List.mem_cons, List.not_mem_nil, or_false] at hz; rcases hz with rfl | rfl | rfl | rfl | rfl | rfl | rfl | rfl | rfl | rfl | rfl | rfl | rfl | rfl | rfl <;> exact absurd hz1 (by decide)) rfl (Below.refl _ _)⟩
        case o26 =>
          intro d0 ys wx hJ hdi hw hdeps
          have q24 : d0 24 = true := by simp [Region.Deps2, Go.Region.binds] at hdeps; simp [hdeps]
          have y24 : ys 93 = .bool true := hJ.1 24 (by decide) q24
          have V := V3.out.below hJ.2.2.2.bel (Nat.lt_succ_self _)
          have c0 := V.cell (j := 0) rfl
          have c1 := V.cell (j := 1) rfl
          have c2 := V.cell (j := 2) rfl
          clear V
          have HJ := Lib.hid hJ
          clear hJ hw
          simp only [y24, List.getD_cons_succ, List.getD_cons_zero, fill, slots, List.filterMap_cons, List.filterMap_nil, id, List.foldl_cons, List.foldl_nil, Act.put, List.setIfInBounds_toArray, List.set_cons_succ, List.set_cons_zero]
          go_wp2_with fail
          exact ⟨_, rfl, HJ.out.plain (i := 26) (by decide) (by decide) (by intro z hz hz1; simp only [List.mem_cons, List.not_mem_nil, or_false] at hz; rcases hz with rfl | rfl | rfl | rfl | rfl | rfl | rfl | rfl | rfl | rfl | rfl | rfl | rfl | rfl | rfl <;> exact absurd hz1 (by decide)) rfl (Below.refl _ _)⟩
        case o27 =>
          intro d0 ys wx hJ hdi hw hdeps
          have q24 : d0 24 = true := by simp [Region.Deps2, Go.Region.binds] at hdeps; simp [hdeps]
          have y24 : ys 93 = .bool true := hJ.1 24 (by decide) q24
          have q26 : d0 26 = true := by simp [Region.Deps2, Go.Region.binds] at hdeps; simp [hdeps]
          have y26 : ys 95 = .pointer (some ⟨w.heap.size, 2, none⟩) := hJ.1 26 (by decide) q26
          have V := V3.out.below hJ.2.2.2.bel (Nat.lt_succ_self _)
          have c0 := V.cell (j := 0) rfl
          have c1 := V.cell (j := 1) rfl
          have c2 := V.cell (j := 2) rfl
          clear V
          have HJ := Lib.hid hJ
          clear hJ hw
          simp only [y24, y26, List.getD_cons_succ, List.getD_cons_zero, fill, slots, List.filterMap_cons, List.filterMap_nil, id, List.foldl_cons, List.foldl_nil, Act.put, List.setIfInBounds_toArray, List.set_cons_succ, List.set_cons_zero]
          go_wp2_with fail
          exact ⟨_, rfl, HJ.out.plain (i := 27) (by decide) (by decide) (by intro z hz hz1; simp only [List.mem_cons, List.not_mem_nil, or_false] at hz; rcases hz with rfl | rfl | rfl | rfl | rfl | rfl | rfl | rfl | rfl | rfl | rfl | rfl | rfl | rfl | rfl <;> exact absurd hz1 (by decide)) rfl (Below.refl _ _)⟩
        case o28 =>
          intro d0 ys wx hJ hdi hw hdeps
          have q24 : d0 24 = true := by simp [Region.Deps2, Go.Region.binds] at hdeps; simp [hdeps]
          have y24 : ys 93 = .bool true := hJ.1 24 (by decide) q24
          have q27 : d0 27 = true := by simp [Region.Deps2, Go.Region.binds] at hdeps; simp [hdeps]
          have y27 : ys 96 = .int .i64 (rgs : Int) := hJ.1 27 (by decide) q27
          have HJ := Lib.hid hJ
          clear hJ hw
          simp only [y24, y27, List.getD_cons_succ, List.getD_cons_zero, fill, slots, List.filterMap_cons, List.filterMap_nil, id, List.foldl_cons, List.foldl_nil, Act.put, List.setIfInBounds_toArray, List.set_cons_succ, List.set_cons_zero]
          go_wp2_with fail
          exact ⟨_, rfl, HJ.out.plain (i := 28) (by decide) (by decide) (by intro z hz hz1; simp only [List.mem_cons, List.not_mem_nil, or_false] at hz; rcases hz with rfl | rfl | rfl | rfl | rfl | rfl | rfl | rfl | rfl | rfl | rfl | rfl | rfl | rfl | rfl <;> exact absurd hz1 (by decide)) rfl (Below.refl _ _)⟩
        case o29 =>
          intro d0 ys wx hJ hdi hw hdeps
          have q24 : d0 24 = true := by simp [Region.Deps2, Go.Region.binds] at hdeps; simp [hdeps]
          have y24 : ys 93 = .bool true := hJ.1 24 (by decide) q24
          have q25 : d0 25 = true := by simp [Region.Deps2, Go.Region.binds] at hdeps; simp [hdeps]
          have y25 : ys 94 = .pointer (some ⟨p, 0, none⟩) := hJ.1 25 (by decide) q25
          have q28 : d0 28 = true := by simp [Region.Deps2, Go.Region.binds] at hdeps; simp [hdeps]
          have y28 : ys 97 = .int .i64 ((rgs : Int) - 1) := hJ.1 28 (by decide) q28
          have h34 : d0 34 = false := by
            cases h : d0 34 with
            | false => rfl
            | true =>
              have t0 := hJ.2.1 (34, 32) (by simp) h
              have t1 := hJ.2.1 (32, 31) (by simp) t0
              have t2 := hJ.2.1 (31, 30) (by simp) t1
              have t3 := hJ.2.1 (30, 29) (by simp) t2
              rw [hdi] at t3; exact absurd t3 (by simp)
          have hc := Lib.hid (hJ.first h34)
          have HJ := Lib.hid hJ
          clear hJ hw
          simp only [y24, y25, y28, List.getD_cons_succ, List.getD_cons_zero, fill, slots, List.filterMap_cons, List.filterMap_nil, id, List.foldl_cons, List.foldl_nil, Act.put, List.setIfInBounds_toArray, List.set_cons_succ, List.set_cons_zero]
          go_wp2_with (go_at_call 25; (with_reducible refine (HE1.out _ _ _ hc.out).mono ?_); rintro e wy ⟨rfl, by4⟩)
          exact ⟨_, rfl, HJ.out.plain (i := 29) (by decide) (by decide) (by intro z hz hz1; simp only [List.mem_cons, List.not_mem_nil, or_false] at hz; rcases hz with rfl | rfl | rfl | rfl | rfl | rfl | rfl | rfl | rfl | rfl | rfl | rfl | rfl | rfl | rfl <;> first | exact q24 | exact absurd hz1 (by decide)) rfl by4⟩
        case o30 =>
          intro d0 ys wx hJ hdi hw hdeps
          have q24 : d0 24 = true := by simp [Region.Deps2, Go.Region.binds] at hdeps; simp [hdeps]
          have y24 : ys 93 = .bool true := hJ.1 24 (by decide) q24
          have q29 : d0 29 = true := by simp [Region.Deps2, Go.Region.binds] at hdeps; simp [hdeps]
          have y29 : ys 98 = .int .i64 7 := hJ.1 29 (by decide) q29
          have HJ := Lib.hid hJ
          clear hJ hw
          simp only [y24, y29, List.getD_cons_succ, List.getD_cons_zero, fill, slots, List.filterMap_cons, List.filterMap_nil, id, List.foldl_cons, List.foldl_nil, Act.put, List.setIfInBounds_toArray, List.set_cons_succ, List.set_cons_zero]
          go_wp2_with fail
          exact ⟨_, rfl, HJ.out.plain (i := 30) (by decide) (by decide) (by intro z hz hz1; simp only [List.mem_cons, List.not_mem_nil, or_false] at hz; rcases hz with rfl | rfl | rfl | rfl | rfl | rfl | rfl | rfl | rfl | rfl | rfl | rfl | rfl | rfl | rfl <;> first | exact q29 | exact absurd hz1 (by decide)) rfl (Below.refl _ _)⟩
        case o31 =>
          intro d0 ys wx hJ hdi hw hdeps
          have q24 : d0 24 = true := by simp [Region.Deps2, Go.Region.binds] at hdeps; simp [hdeps]
          have y24 : ys 93 = .bool true := hJ.1 24 (by decide) q24
          have q30 : d0 30 = true := by simp [Region.Deps2, Go.Region.binds] at hdeps; simp [hdeps]
          have y30 : ys 99 = .bool true := hJ.1 30 (by decide) q30
          have HJ := Lib.hid hJ
          clear hJ hw
          simp only [y24, y30, List.getD_cons_succ, List.getD_cons_zero, fill, slots, List.filterMap_cons, List.filterMap_nil, id, List.foldl_cons, List.foldl_nil, Act.put, List.setIfInBounds_toArray, List.set_cons_succ, List.set_cons_zero]
          go_wp2_with fail
          exact ⟨_, rfl, HJ.out.plain (i := 31) (by decide) (by decide) (by intro z hz hz1; simp only [List.mem_cons, List.not_mem_nil, or_false] at hz; rcases hz with rfl | rfl | rfl | rfl | rfl | rfl | rfl | rfl | rfl | rfl | rfl | rfl | rfl | rfl | rfl <;> first | exact q30 | exact absurd hz1 (by decide)) rfl (Below.refl _ _)⟩
        case o32 =>
          intro d0 ys wx hJ hdi hw hdeps
          have q31 : d0 31 = true := by simp [Region.Deps2, Go.Region.binds] at hdeps; simp [hdeps]
          have y31 : ys 100 = .bool true := hJ.1 31 (by decide) q31
          have HJ := Lib.hid hJ
          clear hJ hw
          simp only [y31, List.getD_cons_succ, List.getD_cons_zero, fill, slots, List.filterMap_cons, List.filterMap_nil, id, List.foldl_cons, List.foldl_nil, Act.put, List.setIfInBounds_toArray, List.set_cons_succ, List.set_cons_zero]
          go_wp2_with fail
          exact ⟨_, rfl, HJ.out.plain (i := 32) (by decide) (by decide) (by intro z hz hz1; simp only [List.mem_cons, List.not_mem_nil, or_false] at hz; rcases hz with rfl | rfl | rfl | rfl | rfl | rfl | rfl | rfl | rfl | rfl | rfl | rfl | rfl | rfl | rfl <;> first | exact q31 | exact absurd hz1 (by decide)) rfl (Below.refl _ _)⟩
        case o33 =>
          intro d0 ys wx hJ hdi hw hdeps
          have q32 : d0 32 = true := by simp [Region.Deps2, Go.Region.binds] at hdeps; simp [hdeps]
          have y32 : ys 101 = .bool true := hJ.1 32 (by decide) q32
          have HJ := Lib.hid hJ
          clear hJ hw
          simp only [y32, List.getD_cons_succ, List.getD_cons_zero, fill, slots, List.filterMap_cons, List.filterMap_nil, id, List.foldl_cons, List.foldl_nil, Act.put, List.setIfInBounds_toArray, List.set_cons_succ, List.set_cons_zero]
          go_wp2_with fail
          exact ⟨_, rfl, HJ.out.plain (i := 33) (by decide) (by decide) (by intro z hz hz1; simp only [List.mem_cons, List.not_mem_nil, or_false] at hz; rcases hz with rfl | rfl | rfl | rfl | rfl | rfl | rfl | rfl | rfl | rfl | rfl | rfl | rfl | rfl | rfl <;> exact absurd hz1 (by decide)) rfl (Below.refl _ _)⟩
        case o34 =>
          intro d0 ys wx hJ hdi hw hdeps
          have q32 : d0 32 = true := by simp [Region.Deps2, Go.Region.binds] at hdeps; simp [hdeps]
          have y32 : ys 101 = .bool true := hJ.1 32 (by decide) q32
          have q33 : d0 33 = true := by simp [Region.Deps2, Go.Region.binds] at hdeps; simp [hdeps]
          have y33 : ys 102 = .pointer (some ⟨p, 0, none⟩) := hJ.1 33 (by decide) q33
          have hc := Lib.hid (hJ.first hdi)
          have HJ := Lib.hid hJ
          clear hJ hw
          simp only [y32, y33, List.getD_cons_succ, List.getD_cons_zero, fill, slots, List.filterMap_cons, List.filterMap_nil, id, List.foldl_cons, List.foldl_nil, Act.put, List.setIfInBounds_toArray, List.set_cons_succ, List.set_cons_zero]
          go_wp2_with (go_at_call 25; (with_reducible refine (HE2.out _ _ _ hc.out).mono ?_); rintro e wy ⟨rfl, hcy, gy⟩)
          exact ⟨_, rfl, HJ.out.turn (by intro z hz hz1; simp only [List.mem_cons, List.not_mem_nil, or_false] at hz; rcases hz with rfl | rfl | rfl | rfl | rfl | rfl | rfl | rfl | rfl | rfl | rfl | rfl | rfl | rfl | rfl <;> first | exact q32 | exact absurd hz1 (by decide)) rfl hcy gy⟩
        case o35 =>
          intro d0 ys wx hJ hdi hw hdeps
          have q32 : d0 32 = true := by simp [Region.Deps2, Go.Region.binds] at hdeps; simp [hdeps]
          have y32 : ys 101 = .bool true := hJ.1 32 (by decide) q32
          have q34 : d0 34 = true := by simp [Region.Deps2, Go.Region.binds] at hdeps; simp [hdeps]
          have y34 : ys 103 = .int .i64 0 := hJ.1 34 (by decide) q34
          have HJ := Lib.hid hJ
          clear hJ hw
          simp only [y32, y34, List.getD_cons_succ, List.getD_cons_zero, fill, slots, List.filterMap_cons, List.filterMap_nil, id, List.foldl_cons, List.foldl_nil, Act.put, List.setIfInBounds_toArray, List.set_cons_succ, List.set_cons_zero]
          go_wp2_with fail
          exact ⟨_, rfl, HJ.out.plain (i := 35) (by decide) (by decide) (by intro z hz hz1; simp only [List.mem_cons, List.not_mem_nil, or_false] at hz; rcases hz with rfl | rfl | rfl | rfl | rfl | rfl | rfl | rfl | rfl | rfl | rfl | rfl | rfl | rfl | rfl <;> first | exact q34 | exact absurd hz1 (by decide)) rfl (Below.refl _ _)⟩
        case o36 =>
          intro d0 ys wx hJ hdi hw hdeps
          have q32 : d0 32 = true := by simp [Region.Deps2, Go.Region.binds] at hdeps; simp [hdeps]
          have y32 : ys 101 = .bool true := hJ.1 32 (by decide) q32
          have q35 : d0 35 = true := by simp [Region.Deps2, Go.Region.binds] at hdeps; simp [hdeps]
          have y35 : ys 104 = .bool true := hJ.1 35 (by decide) q35
          have HJ := Lib.hid hJ
          clear hJ hw
          simp only [y32, y35, List.getD_cons_succ, List.getD_cons_zero, fill, slots, List.filterMap_cons, List.filterMap_nil, id, List.foldl_cons, List.foldl_nil, Act.put, List.setIfInBounds_toArray, List.set_cons_succ, List.set_cons_zero]
          go_wp2_with fail
          exact ⟨_, rfl, HJ.out.plain (i := 36) (by decide) (by decide) (by intro z hz hz1; simp only [List.mem_cons, List.not_mem_nil, or_false] at hz; rcases hz with rfl | rfl | rfl | rfl | rfl | rfl | rfl | rfl | rfl | rfl | rfl | rfl | rfl | rfl | rfl <;> first | exact q35 | exact absurd hz1 (by decide)) rfl (Below.refl _ _)⟩
        case o37 =>
          intro d0 ys wx hJ hdi hw hdeps
          have q36 : d0 36 = true := by simp [Region.Deps2, Go.Region.binds] at hdeps; simp [hdeps]
          have y36 : ys 105 = .bool true := hJ.1 36 (by decide) q36
          have HJ := Lib.hid hJ
          clear hJ hw
          simp only [y36, List.getD_cons_succ, List.getD_cons_zero, fill, slots, List.filterMap_cons, List.filterMap_nil, id, List.foldl_cons, List.foldl_nil, Act.put, List.setIfInBounds_toArray, List.set_cons_succ, List.set_cons_zero]
          go_wp2_with fail
          exact ⟨_, rfl, HJ.out.plain (i := 37) (by decide) (by decide) (by intro z hz hz1; simp only [List.mem_cons, List.not_mem_nil, or_false] at hz; rcases hz with rfl | rfl | rfl | rfl | rfl | rfl | rfl | rfl | rfl | rfl | rfl | rfl | rfl | rfl | rfl <;> first | exact q36 | exact absurd hz1 (by decide)) rfl (Below.refl _ _)⟩
        case o38 =>
          intro d0 ys wx hJ hdi hw hdeps
          have q37 : d0 37 = true := by simp [Region.Deps2, Go.Region.binds] at hdeps; simp [hdeps]
          have y37 : ys 106 = .bool true := hJ.1 37 (by decide) q37
          have HJ := Lib.hid hJ
          clear hJ hw
          simp only [y37, List.getD_cons_succ, List.getD_cons_zero, fill, slots, List.filterMap_cons, List.filterMap_nil, id, List.foldl_cons, List.foldl_nil, Act.put, List.setIfInBounds_toArray, List.set_cons_succ, List.set_cons_zero]
          go_wp2_with fail
          exact ⟨_, rfl, HJ.out.plain (i := 38) (by decide) (by decide) (by intro z hz hz1; simp only [List.mem_cons, List.not_mem_nil, or_false] at hz; rcases hz with rfl | rfl | rfl | rfl | rfl | rfl | rfl | rfl | rfl | rfl | rfl | rfl | rfl | rfl | rfl <;> exact absurd hz1 (by decide)) rfl (Below.refl _ _)⟩
        case o39 =>
          intro d0 ys wx hJ hdi hw hdeps
          have q37 : d0 37 = true := by simp [Region.Deps2, Go.Region.binds] at hdeps; simp [hdeps]
          have y37 : ys 106 = .bool true := hJ.1 37 (by decide) q37
          have q38 : d0 38 = true := by simp [Region.Deps2, Go.Region.binds] at hdeps; simp [hdeps]
          have y38 : ys 107 = .pointer (some ⟨p, 0, none⟩) := hJ.1 38 (by decide) q38
          have t0 := hJ.2.1 (37, 36) (by simp) q37
          have t1 := hJ.2.1 (36, 35) (by simp) t0
          have q34 := hJ.2.1 (35, 34) (by simp) t1
          have hc := Lib.hid (hJ.second q34)
          have HJ := Lib.hid hJ
          clear hJ hw
          simp only [y37, y38, List.getD_cons_succ, List.getD_cons_zero, fill, slots, List.filterMap_cons, List.filterMap_nil, id, List.foldl_cons, List.foldl_nil, Act.put, List.setIfInBounds_toArray, List.set_cons_succ, List.set_cons_zero]
          go_wp2_with (go_at_call 20; (with_reducible refine (HF2.out _ _ _ hc.out).mono ?_); rintro e wy ⟨rfl, by4⟩)
          exact ⟨_, rfl, HJ.out.plain (i := 39) (by decide) (by decide) (by intro z hz hz1; simp only [List.mem_cons, List.not_mem_nil, or_false] at hz; rcases hz with rfl | rfl | rfl | rfl | rfl | rfl | rfl | rfl | rfl | rfl | rfl | rfl | rfl | rfl | rfl <;> exact absurd hz1 (by decide)) rfl by4⟩
        case o40 =>
          intro d0 ys wx hJ hdi hw hdeps
          have q37 : d0 37 = true := by simp [Region.Deps2, Go.Region.binds] at hdeps; simp [hdeps]
          have y37 : ys 106 = .bool true := hJ.1 37 (by decide) q37
          have q39 : d0 39 = true := by simp [Region.Deps2, Go.Region.binds] at hdeps; simp [hdeps]
          have y39 : ys 108 = .int .i64 1 := hJ.1 39 (by decide) q39
          have HJ := Lib.hid hJ
          clear hJ hw
          simp only [y37, y39, List.getD_cons_succ, List.getD_cons_zero, fill, slots, List.filterMap_cons, List.filterMap_nil, id, List.foldl_cons, List.foldl_nil, Act.put, List.setIfInBounds_toArray, List.set_cons_succ, List.set_cons_zero]
          go_wp2_with fail
          exact ⟨_, rfl, HJ.out.plain (i := 40) (by decide) (by decide) (by intro z hz hz1; simp only [List.mem_cons, List.not_mem_nil, or_false] at hz; rcases hz with rfl | rfl | rfl | rfl | rfl | rfl | rfl | rfl | rfl | rfl | rfl | rfl | rfl | rfl | rfl <;> exact absurd hz1 (by decide)) rfl (Below.refl _ _)⟩
        case o41 =>
          intro d0 ys wx hJ hdi hw hdeps
          have q37 : d0 37 = true := by simp [Region.Deps2, Go.Region.binds] at hdeps; simp [hdeps]
          have y37 : ys 106 = .bool true := hJ.1 37 (by decide) q37
          have q40 : d0 40 = true := by simp [Region.Deps2, Go.Region.binds] at hdeps; simp [hdeps]
          have y40 : ys 109 = .bool true := hJ.1 40 (by decide) q40
          have HJ := Lib.hid hJ
          clear hJ hw
          simp only [y37, y40, List.getD_cons_succ, List.getD_cons_zero, fill, slots, List.filterMap_cons, List.filterMap_nil, id, List.foldl_cons, List.foldl_nil, Act.put, List.setIfInBounds_toArray, List.set_cons_succ, List.set_cons_zero]
          go_wp2_with fail
          exact ⟨_, rfl, HJ.out.plain (i := 41) (by decide) (by decide) (by intro z hz hz1; simp only [List.mem_cons, List.not_mem_nil, or_false] at hz; rcases hz with rfl | rfl | rfl | rfl | rfl | rfl | rfl | rfl | rfl | rfl | rfl | rfl | rfl | rfl | rfl <;> exact absurd hz1 (by decide)) rfl (Below.refl _ _)⟩
        case o42 =>
          intro d0 ys wx hJ hdi hw hdeps
          have q41 : d0 41 = true := by simp [Region.Deps2, Go.Region.binds] at hdeps; simp [hdeps]
          have y41 : ys 110 = .bool true := hJ.1 41 (by decide) q41
          have HJ := Lib.hid hJ
          clear hJ hw
          simp only [y41, List.getD_cons_succ, List.getD_cons_zero, fill, slots, List.filterMap_cons, List.filterMap_nil, id, List.foldl_cons, List.foldl_nil, Act.put, List.setIfInBounds_toArray, List.set_cons_succ, List.set_cons_zero]
          go_wp2_with fail
          exact ⟨_, rfl, HJ.out.plain (i := 42) (by decide) (by decide) (by intro z hz hz1; simp only [List.mem_cons, List.not_mem_nil, or_false] at hz; rcases hz with rfl | rfl | rfl | rfl | rfl | rfl | rfl | rfl | rfl | rfl | rfl | rfl | rfl | rfl | rfl <;> exact absurd hz1 (by decide)) rfl (Below.refl _ _)⟩
      case done =>
        intro d0 ys wx hJ hall
        have h2 : ys 2 = .bool true := hJ.1 42 (by decide) (hall 42 (by decide))
        have B7 := Lib.hid (BW3.out.trans (hJ.2.2.2.bel.mono (Nat.le_succ _)))
        clear hJ hall
        simp only [h2, List.getD_cons_succ, List.getD_cons_zero, fill, slots, List.filterMap_cons, List.filterMap_nil, id, List.foldl_cons, List.foldl_nil, Act.put, List.setIfInBounds_toArray, List.set_cons_succ, List.set_cons_zero]
        go_wp2
        go_ret
        exact ⟨rfl, B7.out⟩
    | true =>
      have hKe := hmo rfl
      have d1 : decide ((K : Int) < 300) = true := by simp; omega
      have d2 : decide (K < 300) = true := by simp; omega
      have hK299 : K < 100 := by omega
      have HKE := Lib.hid hKe
      have HNF := Lib.hid hNF
      have hNNb : NN ≤ 40 := by omega
      clear hKe hNF hNF2 hmul
      by_cases hful : m = 0 ∨ u = sl
      · have HT : Hid (∀ w S p, CHas w p (pgC pg pgs rgs m u) S → Calls Try.prog 19 #[.pointer (some ⟨p, 0, none⟩)] w fun e w' => e = .returned (.tuple #[.int .i64 0, .bool false]) ∧ CHas w' p (pgC pg pgs rgs m u) S ∧ Grows S w w') := fun w S p h => by
          have := cTake_any h OKP.out
          rw [pg_take_none hm (by omega)] at this; exact this
        by_cases hlt : m < rgs
        · have HO : Hid (∀ w S p, CHas w p (pgC pg pgs rgs m u) S → Calls Try.prog 27 #[.pointer (some ⟨p, 0, none⟩)] w fun e w' => e = .returned (.tuple #[.int .i64 (m : Int), .int .u32 ((m + 1 : Nat) : Int), .bool true]) ∧ CHas w' p (pgC pg pgs rgs (m + 1) 0) S ∧ Grows S w w') := fun w S p h => by
            have := cOpen_any h OKP.out
            rw [pg_open hlt (by omega) (by omega)] at this; exact this
          have hn1 : NN = m * sl + 0 := by
            rcases hful with h0 | h0
            · subst h0; rw [hNN, hmu rfl]
            · rw [hNN, h0, ← Nat.succ_mul]
              by_cases h00 : m = 0
              · rw [h0] at hmu; have := hmu h00; omega
              · congr 2; omega
          have hp1 : la ≤ ((m * pgs + 0 : Nat) : Int) := by
            by_cases h00 : m = 0
            · subst h00; have := hmu rfl; subst this; simp at hla2 ⊢; omega
            · have : m * pgs = (m - 1) * pgs + pgs := by rw [← Nat.succ_mul]; congr 1; omega
              omega
          have HN1 := Lib.hid hn1
          have HP1 := Lib.hid hp1
          clear hful hmo hmf hNN hla2 hsl hn1 hp1
          go_wp2_with (first
            | (go_at_call 19; (with_reducible refine (HT.out _ _ _ HC.out).mono ?_); rintro e w5 ⟨rfl, h5, g5⟩; have H5 := Lib.hid h5; have SF5 := Lib.hid (SF.out.turn g5); clear h5 g5 k1 k2)
            | (go_at_call 27; (with_reducible refine (HO.out _ _ _ H5.out).mono ?_); rintro e w6 ⟨rfl, h6, g6⟩; have H6 := Lib.hid h6; have SF6 := Lib.hid (SF5.out.turn g6); clear h6 g6))
          refine ⟨⟨m + 1, 0, K + 1, NN, la, true, rfl, rfl, rfl, by go_num, by omega, Nat.zero_le _, by omega, HN1.out, hla, HP1.out, fun _ => by have := HKE.out; omega, by simp, by omega, H6.out, SF6.out⟩, by simp [intOf]; omega⟩
        · obtain rfl : m = rgs := by omega
          have HO : Hid (∀ w S p, CHas w p (pgC pg pgs m m u) S → Calls Try.prog 27 #[.pointer (some ⟨p, 0, none⟩)] w fun e w' => e = .returned (.tuple #[.int .i64 0, .int .u32 0, .bool false]) ∧ CHas w' p (pgC pg pgs m m u) S ∧ Grows S w w') := fun w S p h => by
            have := cOpen_any h OKP.out
            rw [pg_open_none (by omega)] at this; exact this
          have husl : u = sl := by omega
          have Z1 := Lib.hid hNN
          have Z2 := Lib.hid hla2
          have HUS := Lib.hid husl
          clear hmo hmf hful hNN hla2 hsl husl
          go_wp2_with (first
            | (go_at_call 19; (with_reducible refine (HT.out _ _ _ HC.out).mono ?_); rintro e w5 ⟨rfl, h5, g5⟩; have H5 := Lib.hid h5; have SF5 := Lib.hid (SF.out.turn g5); clear h5 g5 k1 k2)
            | (go_at_call 27; (with_reducible refine (HO.out _ _ _ H5.out).mono ?_); rintro e w6 ⟨rfl, h6, g6⟩; have H6 := Lib.hid h6; have SF6 := Lib.hid (SF5.out.turn g6); clear h6 g6))
          refine ⟨⟨m, u, K + 1, NN, la, false, rfl, rfl, rfl, by go_num, Nat.le_refl _, hu, hmu, Z1.out, hla, Z2.out, by simp, fun _ => ⟨rfl, HUS.out, by omega⟩, by omega, H6.out, SF6.out⟩, by simp [intOf]; omega⟩
      · obtain ⟨m, rfl⟩ : ∃ m', m = m' + 1 := ⟨m - 1, by omega⟩
        rw [Nat.add_sub_cancel] at hNN hla2 hms hmp2
        have hult : u < pgs - 1 := by omega
        obtain ⟨pp, hpp⟩ : ∃ pp, pp = m * pgs + (u + 1) := ⟨_, rfl⟩
        have HT : Hid (∀ w S p, CHas w p (pgC pg pgs rgs (m + 1) u) S → Calls Try.prog 19 #[.pointer (some ⟨p, 0, none⟩)] w fun e w' => e = .returned (.tuple #[.int .i64 (pp : Int), .bool true]) ∧ CHas w' p (pgC pg pgs rgs (m + 1) (u + 1)) S ∧ Grows S w w') := fun w S p h => by
          have := cTake_any h OKP.out
          rw [pg_take hm hult, ← hpp] at this; exact this
        have e1 : decide ((pp : Int) ≤ la) = false := decide_eq_false (by omega)
        have hmod : pp % pgs = u + 1 := by rw [hpp, Nat.mul_comm, Nat.mul_add_mod, Nat.mod_eq_of_lt (by omega)]
        have e2 : ((pp : Nat) : Int).tmod (pgs : Int) = ((u + 1 : Nat) : Int) := by rw [← hmod]; rfl
        have e3 : (((u + 1 : Nat) : Int) == 0) = false := by simp; omega
        have hbig : pp < pgs * rgs := by
          have h1 : (m + 1) * pgs ≤ rgs * pgs := Nat.mul_le_mul hm (Nat.le_refl _)
          rw [Nat.succ_mul] at h1
          rw [Nat.mul_comm pgs rgs]; omega
        have e4 : decide (((pgs * rgs : Nat) : Int) ≤ (pp : Int)) = false := decide_eq_false (by omega)
        have e6 : decide (pgs * rgs ≤ pp) = false := decide_eq_false (by omega)
        have hpp42 : pp < 42 := by omega
        obtain ⟨u1, hu1⟩ : ∃ u1, u1 = u + 1 := ⟨_, rfl⟩
        rw [← hu1] at e2 e3 HT hpp
        have HPP := Lib.hid hpp
        have Z1 := Lib.hid hNN
        have HU1 := Lib.hid hu1
        obtain ⟨PR, hPR⟩ : ∃ PR, PR = pgs * rgs := ⟨_, rfl⟩
        rw [← hPR] at e4 e6 hmp hpr
        have e7 : (u1 == 0) = false := by simp; omega
        have hu1s : u1 ≤ sl := by omega
        clear hful hmo hmf hNN hla2 hpp hmod hbig hPR hu1 hsl
        have e5 : (((u1 : Nat) : Int) == 0) = false := e3
        go_wp2_with (go_at_call 19; (with_reducible refine (HT.out _ _ _ HC.out).mono ?_); rintro e w5 ⟨rfl, h5, g5⟩; have H5 := Lib.hid h5; have SF5 := Lib.hid (SF.out.turn g5); clear h5 g5 k1 k2; have V5 := Lib.hid (V3.out.below SF5.out.bel (Nat.lt_succ_self _)); have k1 := V5.out.cell (j := 1) rfl; have k2 := V5.out.cell (j := 2) rfl)
        refine ⟨⟨m + 1, u1, K + 1, NN + 1, (pp : Int), true, by go_num, rfl, rfl, by go_num, hm, hu1s, by omega, by rw [Nat.add_sub_cancel, Z1.out, HU1.out]; rfl, by omega, by rw [Nat.add_sub_cancel, HPP.out]; omega, fun _ => by have := HKE.out; omega, by simp, by omega, H5.out, SF5.out⟩, by simp [intOf]; omega⟩
end Go.Proofs.Ytmkdhehdfdkbjaa.Chart
