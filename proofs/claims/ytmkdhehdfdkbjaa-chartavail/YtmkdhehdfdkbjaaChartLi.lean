/-
  ChartAvail's walk: what may be taken is what is left, and all free regions' slots but two regions'.
-/
import Derived.Test.YtmkdhehdfdkbjaaChartLf
set_option linter.unusedVariables false
set_option linter.unusedSimpArgs false
namespace Go.Proofs.Ytmkdhehdfdkbjaa.Chart
open Go.RowKit
open Go.Proofs.Ytmkdhehdfdkbjaa.Own
open Tup Foot
open Go.Proofs.Ytmkdhehdfdkbjaa.Region (fill Then Deps Each wp_region_is wp_region_is_tail)

/-- the first m regions are taken, by rising epochs, f says how much of each is used -/
def avC (pg pgs rgs m : Nat) (f : Nat → Nat) (o : Option Nat) : Ch := ⟨pg, pgs, rgs, (List.range rgs).map (fun j => if j < m then (j + 1, f j) else (0, 0)), o⟩
theorem av_get {pg pgs rgs m : Nat} {f : Nat → Nat} {o : Option Nat} {j : Nat} (h : j < rgs) : (avC pg pgs rgs m f o).st[j]? = some (if j < m then (j + 1, f j) else (0, 0)) := by
  unfold avC; simp only [List.getElem?_map, List.getElem?_range h]; rfl
theorem av_len (pg pgs rgs m : Nat) (f : Nat → Nat) (o : Option Nat) : (avC pg pgs rgs m f o).st.length = rgs := by simp [avC]
theorem av_ep {pg pgs rgs m : Nat} {f : Nat → Nat} {o : Option Nat} (hm : m ≤ rgs) (j : Nat) : (avC pg pgs rgs m f o).ep j = if j < m then j + 1 else 0 := by
  by_cases h : j < rgs
  · unfold Ch.ep
    rw [List.getD_eq_getElem?_getD, av_get h]
    by_cases e : j < m
    · rw [if_pos e, if_pos e]; rfl
    · rw [if_neg e, if_neg e]; rfl
  · rw [ep_out (av_len _ _ _ _ _ _) (show (avC pg pgs rgs m f o).rgs ≤ j by show rgs ≤ j; omega), if_neg (by omega)]
theorem av_us {pg pgs rgs m : Nat} {f : Nat → Nat} {o : Option Nat} (hm : m ≤ rgs) (j : Nat) : (avC pg pgs rgs m f o).us j = if j < m then f j else 0 := by
  by_cases h : j < rgs
  · unfold Ch.us
    rw [List.getD_eq_getElem?_getD, av_get h]
    by_cases e : j < m
    · rw [if_pos e, if_pos e]; rfl
    · rw [if_neg e, if_neg e]; rfl
  · rw [us_out (av_len _ _ _ _ _ _) (show (avC pg pgs rgs m f o).rgs ≤ j by show rgs ≤ j; omega), if_neg (by omega)]
theorem av_maxTo {pg pgs rgs m : Nat} {f : Nat → Nat} {o : Option Nat} (hm : m ≤ rgs) (j : Nat) : (avC pg pgs rgs m f o).maxTo j = min j m := by
  induction j with
  | zero => simp [Ch.maxTo]
  | succ j ih => rw [Ch.maxTo, ih, av_ep hm]; split <;> (try split) <;> omega
theorem av_cntTo {pg pgs rgs m : Nat} {f : Nat → Nat} {o : Option Nat} (hm : m ≤ rgs) (j : Nat) : (avC pg pgs rgs m f o).cntTo j = j - min j m := by
  induction j with
  | zero => simp [Ch.cntTo]
  | succ j ih => rw [Ch.cntTo, ih, av_ep hm]; split <;> (try split at *) <;> omega
theorem av_free {pg pgs rgs m : Nat} {f : Nat → Nat} {o : Option Nat} (hm : m ≤ rgs) : (avC pg pgs rgs m f o).free = rgs - m := by
  unfold Ch.free; rw [av_cntTo hm]; show rgs - min rgs m = rgs - m; omega
theorem av_max {pg pgs rgs m : Nat} {f : Nat → Nat} {o : Option Nat} (hm : m ≤ rgs) : (avC pg pgs rgs m f o).max = m := by
  unfold Ch.max; rw [av_maxTo hm]; show min rgs m = m; omega
theorem av_zero (pg pgs rgs : Nat) (f : Nat → Nat) : avC pg pgs rgs 0 f none = newC pg pgs rgs := by
  unfold avC newC
  congr 1
  apply List.ext_getElem?
  intro j
  simp only [List.getElem?_map, List.getElem?_replicate]
  by_cases hj : j < rgs
  · rw [List.getElem?_range hj, if_pos hj]; simp
  · rw [List.getElem?_eq_none (by simp; omega), if_neg hj]; rfl
theorem av_ok {pg pgs rgs m : Nat} {f : Nat → Nat} {o : Option Nat} (h : (newC pg pgs rgs).Ok) (hm : m ≤ rgs) (hf : ∀ j, f j ≤ pgs - 1) (ho : ∀ k, o = some k → k < m) : (avC pg pgs rgs m f o).Ok := by
  have hr1 : rgs ≤ 12 := h.r1
  refine ⟨h.p0, h.p1, h.s0, h.s1, h.r0, h.r1, av_len _ _ _ _ _ _, fun i => ?_, fun i => ?_, fun i hi => ?_, fun k hk => ?_⟩
  · rw [av_ep hm]; split <;> omega
  · rw [av_us hm]
    show (if i < m then f i else 0) ≤ pgs - 1
    split
    · exact hf i
    · exact Nat.zero_le _
  · rw [av_ep hm] at hi
    rw [av_us hm]
    split at hi
    · omega
    · rename_i e; rw [if_neg e]
  · have h1 := ho k hk
    exact ⟨by show k < rgs; omega, by rw [av_ep hm, if_pos h1]; omega⟩
theorem av_set {pg pgs rgs m : Nat} {f : Nat → Nat} (hm : m < rgs) (hr : rgs ≤ 12) (hf : f m ≤ pgs - 1) : setC (avC pg pgs rgs m f none) (m : Int) (m + 1) (f m : Int) = (0, avC pg pgs rgs (m + 1) f none) := by
  unfold setC
  rw [Ch.is_nat (show m < (avC pg pgs rgs m f none).rgs from hm), if_neg (by
    have : (avC pg pgs rgs m f none).slots = pgs - 1 := rfl
    rw [this]; simp only [Bool.true_eq_false, false_or]; omega)]
  simp only [Int.toNat_natCast]
  rw [if_neg (by rw [av_ep (by omega), if_neg (by omega)]; simp)]
  congr 1
  unfold Ch.put
  have : (avC pg pgs rgs m f none).st.set m (m + 1, f m) = (avC pg pgs rgs (m + 1) f none).st := by
    apply List.ext_getElem?
    intro j
    rw [List.getElem?_set]
    by_cases hj : j < rgs
    · rw [av_get hj, av_get hj, av_len]
      by_cases e : m = j
      · subst e; simp [hj]
      · by_cases e2 : j < m
        · rw [if_neg e, if_pos e2, if_pos (by omega)]
        · rw [if_neg e, if_neg e2, if_neg (by omega)]
    · rw [List.getElem?_eq_none (by rw [av_len]; omega), List.getElem?_eq_none (by rw [av_len]; omega), if_neg (by omega)]
  rw [this]; rfl
theorem av_again {pg pgs rgs m : Nat} {f : Nat → Nat} (hm : m < rgs) (hf : f m ≤ pgs - 1) : setC (avC pg pgs rgs (m + 1) f none) (m : Int) 9 (f m : Int) = (7, avC pg pgs rgs (m + 1) f none) := by
  unfold setC
  rw [Ch.is_nat (show m < (avC pg pgs rgs (m + 1) f none).rgs from hm), if_neg (by
    have : (avC pg pgs rgs (m + 1) f none).slots = pgs - 1 := rfl
    rw [this]; simp only [Bool.true_eq_false, false_or]; omega)]
  simp only [Int.toNat_natCast]
  rw [if_pos (by rw [av_ep (by omega), if_pos (by omega)]; omega)]
theorem av_resume {pg pgs rgs m : Nat} {f : Nat → Nat} (hm : m + 1 ≤ rgs) : resumeC (avC pg pgs rgs (m + 1) f none) (m : Int) = (0, avC pg pgs rgs (m + 1) f (some m)) := by
  unfold resumeC
  rw [if_neg (by rw [Ch.is_nat (show m < (avC pg pgs rgs (m + 1) f none).rgs from hm)]; simp), if_neg]
  · rfl
  · rw [Int.toNat_natCast, av_ep hm, av_max hm, if_pos (by omega)]
    rintro (h | h | h)
    · omega
    · exact absurd h (by simp [avC])
    · omega
theorem av_resume_again {pg pgs rgs m : Nat} {f : Nat → Nat} (hm : m + 1 ≤ rgs) : resumeC (avC pg pgs rgs (m + 1) f (some m)) (m : Int) = (7, avC pg pgs rgs (m + 1) f (some m)) := by
  unfold resumeC
  rw [if_neg (by rw [Ch.is_nat (show m < (avC pg pgs rgs (m + 1) f (some m)).rgs from hm)]; simp), if_pos (.inr (.inl rfl))]
theorem av_left_open {pg pgs rgs m : Nat} {f : Nat → Nat} (hm : m + 1 ≤ rgs) : (avC pg pgs rgs (m + 1) f (some m)).left = pgs - 1 - f m := by
  show (avC pg pgs rgs (m + 1) f (some m)).slots - (avC pg pgs rgs (m + 1) f (some m)).us m = _
  rw [av_us hm, if_pos (by omega)]; rfl
/-- numbers as they come in -/
def IntsAt (w : World) (la : Option Addr) (l : List Int) : Prop := At w la (l.map fun x => .int .i64 x)
theorem ints_get {w : World} {la : Option Addr} {l : List Int} (h : IntsAt w la l) {k : Nat} (hk : k < l.length) : ∃ b off, la = some ⟨b, off, none⟩ ∧ b < w.heap.size ∧ w.cell? ⟨b, off + k, none⟩ = some (.int .i64 l[k]) := by
  rcases h with hn | ⟨b, off, ha, hl⟩
  · have : l.length = 0 := by simpa using congrArg List.length hn
    omega
  · have hc := hl k (.int .i64 l[k]) (by rw [List.getElem?_map, List.getElem?_eq_getElem hk]; rfl)
    exact ⟨b, off, ha, block_lt_of_cell hc, hc⟩
def usedF (l : List Int) (pgs : Nat) (j : Nat) : Nat := (l.getD j 0 % (pgs : Int)).toNat
theorem usedF_lt (l : List Int) {pgs : Nat} (h : 0 < pgs) (j : Nat) : usedF l pgs j ≤ pgs - 1 ∧ (usedF l pgs j : Int) = l.getD j 0 % (pgs : Int) := by
  unfold usedF
  have h1 := Int.emod_nonneg (l.getD j 0) (show (pgs : Int) ≠ 0 by omega)
  have h2 := Int.emod_lt_of_pos (l.getD j 0) (show (0 : Int) < pgs by omega)
  omega
/-- the last test: both tell the same -/
theorem avail_av (c : Ch) (fr lf gx gsl : Nat) (hf : c.free = fr) (hl : c.left = lf) (hg : gx = fr - 2) (hs : gsl = gx * c.slots) : (lf : Int) + (gsl : Int) = (c.avail : Int) := by
  unfold Ch.avail; rw [hf, hl, ← hg, ← hs, Int.natCast_add]
set_option maxRecDepth 100000 in
set_option maxHeartbeats 32000000 in
theorem avail_any (gp gs gr : Int) (la : Option Addr) (l : List Int) (lc : Nat) (opn : Int) (w : World) (hI : IntsAt w la l) (hll : l.length ≤ maxLen) :
    Calls Try.prog 7 #[Geom.gV ⟨gp, gs, gr⟩, .slice la l.length lc, .int .i64 opn] w fun e w' => e = .returned (.bool true) ∧ Below w.heap.size w w' := by
  unfold Geom.gV
  obtain ⟨pg, hpg⟩ : ∃ n : Nat, (n : Int) = 32 + gp % 33 := ⟨(32 + gp % 33).toNat, by omega⟩
  obtain ⟨pgs, hpgs⟩ : ∃ n : Nat, (n : Int) = 3 + gs % 4 := ⟨(3 + gs % 4).toNat, by omega⟩
  obtain ⟨rgs, hrgs⟩ : ∃ n : Nat, (n : Int) = 4 + gr % 4 := ⟨(4 + gr % 4).toNat, by omega⟩
  have p0 : 32 ≤ pg := by omega
  have p1 : pg ≤ 64 := by omega
  have s0 : 3 ≤ pgs := by omega
  have s1 : pgs ≤ 6 := by omega
  have r0 : 4 ≤ rgs := by omega
  have r1 : rgs ≤ 7 := by omega
  have HG : Hid (∀ w, Calls Try.prog 10 #[.agg #[.int .i64 gp, .int .i64 gs, .int .i64 gr]] w fun e w' => e = .returned (.agg #[.int .i64 (pg : Int), .int .i64 (pgs : Int), .int .i64 (rgs : Int)]) ∧ Below w.heap.size w w') := fun w => by
    rw [hpg, hpgs, hrgs]; exact Geom.geom_any ⟨gp, gs, gr⟩ w
  have HAL := Lib.hid (fun w => alive_any w)
  have HN : Hid (∀ w, Calls Try.prog 11 #[.agg #[.int .i64 (pg : Int), .int .i64 (pgs : Int), .int .i64 (rgs : Int)]] w fun e w' => ∃ p S, e = .returned (.pointer (some ⟨p, 0, none⟩)) ∧ CHas w' p (newC pg pgs rgs) S ∧ Below w.heap.size w w' ∧ ∀ k, S k → w.heap.size ≤ k) := fun w => new_good pg pgs rgs p0 (by omega) s0 (by omega) r0 (by omega) w
  have OK0 := Lib.hid (new_ok (pg := pg) (pgs := pgs) (rgs := rgs) p0 (by omega) s0 (by omega) r0 (by omega))
  have HV0 := Lib.hid (Var.new w 23 [.int .i64 gp, .int .i64 gs, .int .i64 gr])
  clear hpg hpgs hrgs
  obtain ⟨sl, hsl⟩ : ∃ sl, sl = pgs - 1 := ⟨_, rfl⟩
  have hsl5 : sl ≤ 5 := by omega
  have HSL : Hid (∀ w, Calls Try.prog 28 #[.agg #[.int .i64 (pg : Int), .int .i64 (pgs : Int), .int .i64 (rgs : Int)]] w fun e w' => e = .returned (.int .i64 (sl : Int)) ∧ Below w.heap.size w w') := fun w => by
    have := Geom.refSlots_any ⟨pg, pgs, rgs⟩ ⟨by simp only; omega, by simp only; omega, by simp only; omega, by simp only; omega, by simp only; omega, by simp only; omega⟩ w
    rw [show Geom.slotsG ⟨pg, pgs, rgs⟩ = (sl : Int) by unfold Geom.slotsG; simp only; omega] at this
    exact this
  have HUF := Lib.hid (fun j => usedF_lt l (show 0 < pgs by omega) j)
  have HINTS := Lib.hid hI
  obtain ⟨L, hL⟩ : ∃ L, l.length = L := ⟨_, rfl⟩
  rw [hL] at hll ⊢
  have HLL := Lib.hid hL
  have H00 := Lib.hid (av_zero pg pgs rgs (usedF l pgs))
  unfold maxLen at hll
  clear hI hL
  go_enter Try.func7, Try.ntmps7
  go_wp2_with (first
    | (go_at_call 10; (with_reducible refine (HG.out _).mono ?_); rintro e wg ⟨rfl, bg⟩; have vg := HV0.out.below bg HV0.out.lt; have c0 := vg.cell (j := 0) rfl; have c1 := vg.cell (j := 1) rfl; have c2 := vg.cell (j := 2) rfl; have f0 := vg.frozen 0; have f1 := vg.frozen 1; have f2 := vg.frozen 2; have vs := ((vg.set 0 (.int .i64 (pg : Int))).set 1 (.int .i64 (pgs : Int))).set 2 (.int .i64 (rgs : Int)); have VN := Lib.hid vs; have k0 := vs.cell (j := 0) rfl; have k1 := vs.cell (j := 1) rfl; have k2 := vs.cell (j := 2) rfl; have BN := Lib.hid ((((bel2 (Geom.bel_alloc w (.cells #[.int .i64 gp, .int .i64 gs, .int .i64 gr] 23)) bg).setCell (p := ⟨w.heap.size, 0, none⟩) (Nat.le_refl _) (.int .i64 (pg : Int))).setCell (p := ⟨w.heap.size, 1, none⟩) (Nat.le_refl _) (.int .i64 (pgs : Int))).setCell (p := ⟨w.heap.size, 2, none⟩) (Nat.le_refl _) (.int .i64 (rgs : Int))); clear vg bg vs)
    | (go_at_call 11; (with_reducible refine (HN.out _).mono ?_); rintro e w2 ⟨p, S, rfl, h2, b2, s2⟩; have v2 := VN.out.below b2 VN.out.lt; have V2 := Lib.hid v2; have H2 := Lib.hid h2; have BW2 := Lib.hid (BN.out.trans (b2.mono BN.out.size)); have SF2 := Lib.hid (show Safe (w.heap.size + 1) w2 w2 S from ⟨Below.refl _ _, v2.lt, fun k hk => Nat.le_trans VN.out.lt (s2 k hk)⟩); clear v2 h2 b2 s2 k0 k1 k2 f0 f1 f2 c0 c1 c2)
    | (go_at_call 12; (with_reducible refine (HAL.out _).mono ?_); rintro e w3 ⟨rfl, b3⟩; have V3 := Lib.hid (V2.out.below b3 V2.out.lt); have H3 := Lib.hid (H2.out.below b3); have BW3 := Lib.hid (BW2.out.trans (b3.mono BW2.out.size)); have SF3 := Lib.hid (show Safe (w.heap.size + 1) w3 w3 S from ⟨Below.refl _ _, Nat.lt_of_lt_of_le V2.out.lt b3.size, SF2.out.foot⟩); clear b3; have k0 := V3.out.cell (j := 0) rfl; have k1 := V3.out.cell (j := 1) rfl; have k2 := V3.out.cell (j := 2) rfl))
  clear k0 k1 k2
  go_loopw [8, 9, 10] (fun vf vl vi wr => ∃ (m lf : Nat), vf = .int .i64 ((rgs - m : Nat) : Int) ∧ vl = .int .i64 (lf : Int) ∧ vi = .int .i64 (m : Int) ∧ m ≤ rgs ∧ m ≤ L ∧ (m = 0 → lf = 0) ∧ (0 < m → lf = sl - usedF l pgs (m - 1)) ∧ CHas wr p (avC pg pgs rgs m (usedF l pgs) none) S ∧ Safe (w.heap.size + 1) w3 wr S) (fun _ _ vi _ => rgs - (intOf vi).toNat)
  case atStart => exact ⟨0, 0, rfl, rfl, rfl, Nat.zero_le _, Nat.zero_le _, fun _ => rfl, by simp, by rw [H00.out]; exact H3.out, SF3.out⟩
  case round =>
    obtain ⟨m, lf, rfl, rfl, rfl, hm, hmL, hl0, hl1, hch, hsafe⟩ := hrel
    have HC := Lib.hid hch
    have SF := Lib.hid hsafe
    have V := Lib.hid (V3.out.below SF.out.bel (Nat.lt_succ_self _))
    clear hch hsafe H3 SF3 V2 H2 BW2 SF2 VN BN HG HN HAL
    by_cases hlt : m < L ∧ m < rgs
    · obtain ⟨hL1, hr2⟩ := hlt
      have d1 : decide ((m : Int) < (L : Int)) = true := by simp; omega
      have d2 : decide (m < L) = true := by simp; omega
      have d3 : decide ((m : Int) < (rgs : Int)) = true := by simp; omega
      have d4 : decide (m < rgs) = true := by simp; omega
      obtain ⟨lb, off, hla, hlb, hcell⟩ := ints_get HINTS.out (show m < l.length by rw [HLL.out]; exact hL1)
      subst hla
      obtain ⟨x, hx⟩ : ∃ x, l[m]'(by rw [HLL.out]; exact hL1) = x := ⟨_, rfl⟩
      rw [hx] at hcell
      obtain ⟨u, hu⟩ : ∃ u, u = usedF l pgs m := ⟨_, rfl⟩
      have hxu : (u : Int) = x % (pgs : Int) := by
        rw [hu, (HUF.out m).2, ← hx, List.getD_eq_getElem?_getD, List.getElem?_eq_getElem (by rw [HLL.out]; exact hL1)]; rfl
      have hu5 : u ≤ sl := by rw [hu, hsl]; exact (HUF.out m).1
      have HPK : Hid (∀ w, Calls Try.prog 26 #[.int .i64 x, .int .i64 (pgs : Int)] w fun e w' => e = .returned (.int .i64 (u : Int)) ∧ w = w') := fun w => by rw [hxu]; exact Book.pick_any x pgs (by omega) (by omega) w
      have OKS := Lib.hid (show (avC pg pgs rgs m (usedF l pgs) none).Ok from av_ok OK0.out hm (fun j => (HUF.out j).1) (by simp))
      have OKS1 := Lib.hid (show (avC pg pgs rgs (m + 1) (usedF l pgs) none).Ok from av_ok OK0.out hr2 (fun j => (HUF.out j).1) (by simp))
      have HS1 : Hid (∀ w, CHas w p (avC pg pgs rgs m (usedF l pgs) none) S → Calls Try.prog 29 #[.pointer (some ⟨p, 0, none⟩), .int .i64 (m : Int), .int .u32 ((m : Int) + 1), .int .i64 (u : Int)] w fun e w' => e = .returned (.int .i64 0) ∧ CHas w' p (avC pg pgs rgs (m + 1) (usedF l pgs) none) S ∧ Grows S w w') := fun w h => by
        have := cSet_any h OKS.out (m : Int) (m + 1) (u : Int)
        rw [hu, av_set hr2 (by omega) (HUF.out m).1] at this
        rw [hu]
        exact this.mono fun e w' q => ⟨q.1, q.2.1, q.2.2.1⟩
      have HS2 : Hid (∀ w, CHas w p (avC pg pgs rgs (m + 1) (usedF l pgs) none) S → Calls Try.prog 29 #[.pointer (some ⟨p, 0, none⟩), .int .i64 (m : Int), .int .u32 9, .int .i64 (u : Int)] w fun e w' => e = .returned (.int .i64 7) ∧ Below w.heap.size w w') := fun w h => by
        have := cSet_any h OKS1.out (m : Int) 9 (u : Int)
        rw [hu, av_again hr2 (HUF.out m).1] at this
        rw [hu]
        exact this.mono fun e w' q => ⟨q.1, q.2.2.2 (show (7 : Nat) ≠ 0 by decide)⟩
      have HCELL := Lib.hid (fun wx (hb : Below wr.heap.size wr wx) => (show wx.cell? ⟨lb, off + m, none⟩ = some (.int .i64 x) by
        have hbw : Below w.heap.size w wx := (BW3.out.trans (SF.out.bel.mono (Nat.le_succ _))).trans (hb.mono (Nat.le_trans (Nat.le_succ _) SF.out.size))
        rw [hbw.cell (p := ⟨lb, off + m, none⟩) hlb]; exact hcell))
      have HU := Lib.hid hu
      have k2 := V.out.cell (j := 2) rfl
      clear hcell hx hxu hl0 hl1 hu hsl
      go_wp2
      refine wp_region_is [36, 37, 38, 39, 40, 41, 42, 11] (fun w' => Below wr.heap.size wr w')
        [.slice (some ⟨lb, off, none⟩) L lc, .int .i64 (m : Int), .pointer (some ⟨lb, off + m, none⟩), .int .i64 x, .pointer (some ⟨w.heap.size, 1, none⟩), .int .i64 (pgs : Int), .int .i64 (u : Int), .int .i64 (u : Int)] (by kernel_rfl) (by kernel_rfl) rfl (by decide) (by simp) (Below.refl _ _).drew ?each ?done
      case each =>
        clear k2
        simp only [Each]
        repeat' (first | exact trivial | refine And.intro ?_ ?_)
        all_goals
          intro ys wx hBx hdeps
          simp only [Deps, Region.binds, List.getD_cons_zero, List.getD_cons_succ, forall_const, and_true] at hdeps
          have e0 := HCELL.out wx hBx
          have c0 : wx.cell? ⟨w.heap.size, 0, none⟩ = some (.int .i64 (pg : Int)) := (V.out.below hBx V.out.lt).cell (j := 0) rfl
          have c1 : wx.cell? ⟨w.heap.size, 1, none⟩ = some (.int .i64 (pgs : Int)) := (V.out.below hBx V.out.lt).cell (j := 1) rfl
          have c2 : wx.cell? ⟨w.heap.size, 2, none⟩ = some (.int .i64 (rgs : Int)) := (V.out.below hBx V.out.lt).cell (j := 2) rfl
          simp only [hdeps, fill, List.foldl_cons, List.foldl_nil, Act.put, List.setIfInBounds_toArray, List.set_cons_succ, List.set_cons_zero]
          first
            | (go_wp2_with fail; exact ⟨_, rfl, rfl, hBx, Below.refl _ _⟩)
            | (go_wp2_with (go_at_call 26; (with_reducible refine (HPK.out _).mono ?_); rintro e w3 ⟨rfl, rfl⟩); exact ⟨_, rfl, rfl, hBx, Below.refl _ _⟩)
      case done =>
        intro ys wx hBx hV
        have h11 : ys 11 = .int .i64 (u : Int) := hV 7 (by decide)
        have H4 := Lib.hid (HC.out.below hBx)
        have SF4 := Lib.hid (SF.out.below hBx)
        clear hBx hV k2
        simp only [h11, fill, List.drop_succ_cons, List.drop_zero, List.foldl_cons, List.foldl_nil, Act.put, List.setIfInBounds_toArray, List.set_cons_succ, List.set_cons_zero]
        have hsu : (sl : Int) - (u : Int) = ((sl - u : Nat) : Int) := by omega
        have HSU := Lib.hid hsu
        clear hsu
        go_wp2_with (first
          | (go_at_call 29; (with_reducible refine (HS1.out _ H4.out).mono ?_); rintro e w5 ⟨rfl, h5, g5⟩; have H5 := Lib.hid h5; have SF5 := Lib.hid (SF4.out.turn g5); clear h5 g5)
          | (go_at_call 29; (with_reducible refine (HS2.out _ H5.out).mono ?_); rintro e w6 ⟨rfl, b6⟩; have H6 := Lib.hid (H5.out.below b6); have SF6 := Lib.hid (SF5.out.below b6); clear b6; have V6 := Lib.hid (V3.out.below SF6.out.bel (Nat.lt_succ_self _)); have k0 := V6.out.cell (j := 0) rfl; have k1 := V6.out.cell (j := 1) rfl; have k2 := V6.out.cell (j := 2) rfl)
          | (go_at_call 28; (with_reducible refine (HSL.out _).mono ?_); rintro e w7 ⟨rfl, b7⟩; have H7 := Lib.hid (H6.out.below b7); have SF7 := Lib.hid (SF6.out.below b7); clear b7 k0 k1 k2))
        refine ⟨⟨m + 1, sl - u, by congr 1; omega, by rw [HSU.out], by go_num, by omega, by omega, by omega, fun _ => by rw [Nat.add_sub_cancel, HU.out], H7.out, SF7.out⟩, by simp [intOf]; omega⟩
    · have hd12 : (decide ((m : Int) < (L : Int)) = false ∧ decide (m < L) = false) ∨ (decide ((m : Int) < (L : Int)) = true ∧ decide (m < L) = true ∧ decide ((m : Int) < (rgs : Int)) = false ∧ decide (m < rgs) = false) := by simp only [decide_eq_true_eq, decide_eq_false_iff_not]; omega
      have k0 := V.out.cell (j := 0) rfl
      have k1 := V.out.cell (j := 1) rfl
      have k2 := V.out.cell (j := 2) rfl
      obtain ⟨fr, hfr⟩ : ∃ fr, fr = rgs - m := ⟨_, rfl⟩
      obtain ⟨gx, hgx⟩ : ∃ gx, gx = fr - 2 := ⟨_, rfl⟩
      obtain ⟨gsl, hgsl⟩ : ∃ gsl, gsl = gx * sl := ⟨_, rfl⟩
      have hgs1 : gsl ≤ 5 * 5 := by rw [hgsl]; exact Nat.mul_le_mul (by omega) hsl5
      have hmul : (gx : Int) * (sl : Int) = (gsl : Int) := by rw [hgsl, Int.natCast_mul]
      have hmx := fun w ts t => max2 (P := Try.prog) w ts t ((fr : Int) - 2) 0 (gx : Int) (by omega)
      rw [← hfr]
      have hcase : (opn.tmod 2 == 0) = false ∨ ((opn.tmod 2 == 0) = true ∧ m = 0) ∨ ((opn.tmod 2 == 0) = true ∧ 0 < m) := by
        cases h : (opn.tmod 2 == 0)
        · exact .inl rfl
        · by_cases h0 : m = 0
          · exact .inr (.inl ⟨rfl, h0⟩)
          · exact .inr (.inr ⟨rfl, by omega⟩)
      have z1 : ((fr : Int) == (fr : Int)) = true := by simp
      have hfr7 : fr ≤ 7 := by omega
      have hgx5 : gx ≤ 5 := by omega
      by_cases hop : (opn.tmod 2 == 0) = true ∧ 0 < m
      · obtain ⟨hop, hm0⟩ := hop
        obtain ⟨k, hk⟩ : ∃ k, m = k + 1 := ⟨m - 1, by omega⟩
        have hlf := hl1 hm0
        rw [hk, Nat.add_sub_cancel] at hlf
        have OKS := Lib.hid (show (avC pg pgs rgs (k + 1) (usedF l pgs) none).Ok from av_ok OK0.out (by omega) (fun j => (HUF.out j).1) (by simp))
        have OKS1 := Lib.hid (show (avC pg pgs rgs (k + 1) (usedF l pgs) (some k)).Ok from av_ok OK0.out (by omega) (fun j => (HUF.out j).1) (by simp))
        have HR1 : Hid (∀ w, CHas w p (avC pg pgs rgs m (usedF l pgs) none) S → Calls Try.prog 24 #[.pointer (some ⟨p, 0, none⟩), .int .i64 (k : Int)] w fun e w' => e = .returned (.int .i64 0) ∧ CHas w' p (avC pg pgs rgs (k + 1) (usedF l pgs) (some k)) S ∧ Grows S w w') := fun w h => by
          rw [hk] at h
          have := cResume_any h OKS.out (k : Int)
          rw [av_resume (by omega)] at this
          exact this.mono fun e w' q => ⟨q.1, q.2.1, q.2.2.1⟩
        have HR2 : Hid (∀ w, CHas w p (avC pg pgs rgs (k + 1) (usedF l pgs) (some k)) S → Calls Try.prog 24 #[.pointer (some ⟨p, 0, none⟩), .int .i64 (k : Int)] w fun e w' => e = .returned (.int .i64 7) ∧ Below w.heap.size w w') := fun w h => by
          have := cResume_any h OKS1.out (k : Int)
          rw [av_resume_again (by omega)] at this
          exact this.mono fun e w' q => ⟨q.1, q.2.2.2 (show (7 : Nat) ≠ 0 by decide)⟩
        have hleft : (avC pg pgs rgs (k + 1) (usedF l pgs) (some k)).left = lf := by rw [av_left_open (by omega), hlf, hsl]
        have hfree : (avC pg pgs rgs (k + 1) (usedF l pgs) (some k)).free = fr := by rw [av_free (by omega), hfr, hk]
        have hav := avail_av (avC pg pgs rgs (k + 1) (usedF l pgs) (some k)) fr lf gx gsl hfree hleft hgx (by rw [hgsl, hsl]; rfl)
        obtain ⟨av, hav0⟩ : ∃ av, av = (avC pg pgs rgs (k + 1) (usedF l pgs) (some k)).avail := ⟨_, rfl⟩
        rw [← hav0] at hav
        have HF : Hid (∀ w, CHas w p (avC pg pgs rgs (k + 1) (usedF l pgs) (some k)) S → Calls Try.prog 20 #[.pointer (some ⟨p, 0, none⟩)] w fun e w' => e = .returned (.int .i64 (fr : Int)) ∧ Below w.heap.size w w') := fun w h => by
          have := cFree_any h OKS1.out
          rw [hfree] at this; exact this
        have HL : Hid (∀ w, CHas w p (avC pg pgs rgs (k + 1) (usedF l pgs) (some k)) S → Calls Try.prog 21 #[.pointer (some ⟨p, 0, none⟩)] w fun e w' => e = .returned (.int .i64 (lf : Int)) ∧ Below w.heap.size w w') := fun w h => by
          have := cLeft_any h OKS1.out
          rw [hleft] at this; exact this
        have HA : Hid (∀ w, CHas w p (avC pg pgs rgs (k + 1) (usedF l pgs) (some k)) S → Calls Try.prog 22 #[.pointer (some ⟨p, 0, none⟩)] w fun e w' => e = .returned (.int .i64 (av : Int)) ∧ Below w.heap.size w w') := fun w h => by
          have := cAvail_any h OKS1.out
          rw [← hav0] at this; exact this
        have hra : (rgs : Int) - (fr : Int) - 1 = (k : Int) := by omega
        have d5 : decide ((fr : Int) < (rgs : Int)) = true := by simp; omega
        have d6 : decide (fr < rgs) = true := by simp; omega
        have z2 : ((lf : Int) == (lf : Int)) = true := by simp
        have z3 : ((av : Int) == (av : Int)) = true := by simp
        have hlf5 : lf ≤ 5 := by omega
        have havb : av ≤ 30 := by omega
        clear hlf hleft hfree hav0 hl0 hl1 hlt hgx hgsl hcase hsl hk hfr
        rcases hd12 with ⟨d1, d2⟩ | ⟨d1, d2, d3, d4⟩
        all_goals
          go_wp2_with (first
            | (go_at_call 24; (with_reducible refine (HR1.out _ HC.out).mono ?_); rintro e w8 ⟨rfl, h8, g8⟩; have H8 := Lib.hid h8; have SF8 := Lib.hid (SF.out.turn g8); clear h8 g8 k0 k1 k2; have V8 := Lib.hid (V3.out.below SF8.out.bel (Nat.lt_succ_self _)); have k0 := V8.out.cell (j := 0) rfl; have k1 := V8.out.cell (j := 1) rfl; have k2 := V8.out.cell (j := 2) rfl)
            | (go_at_call 24; (with_reducible refine (HR2.out _ H8.out).mono ?_); rintro e w9 ⟨rfl, b9⟩; have H9 := Lib.hid (H8.out.below b9); have SF9 := Lib.hid (SF8.out.below b9); clear b9 k0 k1 k2; have V9 := Lib.hid (V3.out.below SF9.out.bel (Nat.lt_succ_self _)); have k0 := V9.out.cell (j := 0) rfl; have k1 := V9.out.cell (j := 1) rfl; have k2 := V9.out.cell (j := 2) rfl))
          refine wp_region_is [91, 92, 93, 94, 95, 96, 97, 98, 99, 100, 101, 102, 103, 104, 105, 106, 107, 108, 109, 110, 111, 112, 113, 6] (fun w' => Below w9.heap.size w9 w')
            [.pointer (some ⟨p, 0, none⟩), .int .i64 (fr : Int), .int .i64 (fr : Int), .bool true, .bool true, .pointer (some ⟨p, 0, none⟩), .int .i64 (lf : Int), .int .i64 (lf : Int), .bool true, .bool true, .bool true, .pointer (some ⟨p, 0, none⟩), .int .i64 (av : Int), .int .i64 (lf : Int), .int .i64 (fr : Int), .int .i64 ((fr : Int) - 2), .int .i64 (gx : Int), .agg #[.int .i64 (pg : Int), .int .i64 (pgs : Int), .int .i64 (rgs : Int)], .int .i64 (sl : Int), .int .i64 (gsl : Int), .int .i64 (av : Int), .bool true, .bool true, .bool true] (by kernel_rfl) (by kernel_rfl) rfl (by decide) (by simp) (Below.refl _ _).drew ?each ?done
          case each =>
            clear k0 k1 k2
            simp only [Each]
            repeat' (first | exact trivial | refine And.intro ?_ ?_)
            all_goals
              intro ys wx hBx hdeps
              simp only [Deps, Region.binds, List.getD_cons_zero, List.getD_cons_succ, forall_const, and_true] at hdeps
              have c0 : wx.cell? ⟨w.heap.size, 0, none⟩ = some (.int .i64 (pg : Int)) := (V9.out.below hBx V9.out.lt).cell (j := 0) rfl
              have c1 : wx.cell? ⟨w.heap.size, 1, none⟩ = some (.int .i64 (pgs : Int)) := (V9.out.below hBx V9.out.lt).cell (j := 1) rfl
              have c2 : wx.cell? ⟨w.heap.size, 2, none⟩ = some (.int .i64 (rgs : Int)) := (V9.out.below hBx V9.out.lt).cell (j := 2) rfl
              simp only [hdeps, fill, List.foldl_cons, List.foldl_nil, Act.put, List.setIfInBounds_toArray, List.set_cons_succ, List.set_cons_zero]
              first
                | (go_wp2_with fail; exact ⟨_, rfl, rfl, hBx, Below.refl _ _⟩)
                | (go_wp2_with (go_at_call 20; (with_reducible refine (HF.out _ (H9.out.below hBx)).mono ?_); rintro e w3 ⟨rfl, hbm⟩); exact ⟨_, rfl, rfl, hBx.trans (hbm.mono hBx.size), hbm⟩)
                | (go_wp2_with (go_at_call 21; (with_reducible refine (HL.out _ (H9.out.below hBx)).mono ?_); rintro e w3 ⟨rfl, hbm⟩); exact ⟨_, rfl, rfl, hBx.trans (hbm.mono hBx.size), hbm⟩)
                | (go_wp2_with (go_at_call 22; (with_reducible refine (HA.out _ (H9.out.below hBx)).mono ?_); rintro e w3 ⟨rfl, hbm⟩); exact ⟨_, rfl, rfl, hBx.trans (hbm.mono hBx.size), hbm⟩)
                | (go_wp2_with (go_at_call 28; (with_reducible refine (HSL.out _).mono ?_); rintro e w3 ⟨rfl, hbm⟩); exact ⟨_, rfl, rfl, hBx.trans (hbm.mono hBx.size), hbm⟩)
          case done =>
            intro ys wx hBx hV
            have h6 : ys 6 = .bool true := hV 23 (by decide)
            have B7 := Lib.hid (BW3.out.trans ((SF9.out.below hBx).bel.mono (Nat.le_succ _)))
            clear hBx hV
            simp only [h6, fill, List.drop_succ_cons, List.drop_zero, List.foldl_cons, List.foldl_nil, Act.put, List.setIfInBounds_toArray, List.set_cons_succ, List.set_cons_zero]
            go_wp2
            go_ret
            exact ⟨rfl, B7.out⟩
      · have OKS := Lib.hid (show (avC pg pgs rgs m (usedF l pgs) none).Ok from av_ok OK0.out hm (fun j => (HUF.out j).1) (by simp))
        obtain ⟨lf, hlf⟩ : ∃ lf : Nat, lf = 0 := ⟨_, rfl⟩
        have hleft : (avC pg pgs rgs m (usedF l pgs) none).left = lf := by rw [hlf]; rfl
        have hfree : (avC pg pgs rgs m (usedF l pgs) none).free = fr := by rw [av_free hm, hfr]
        have hav := avail_av (avC pg pgs rgs m (usedF l pgs) none) fr lf gx gsl hfree hleft hgx (by rw [hgsl, hsl]; rfl)
        obtain ⟨av, hav0⟩ : ∃ av, av = (avC pg pgs rgs m (usedF l pgs) none).avail := ⟨_, rfl⟩
        rw [← hav0] at hav
        have HF : Hid (∀ w, CHas w p (avC pg pgs rgs m (usedF l pgs) none) S → Calls Try.prog 20 #[.pointer (some ⟨p, 0, none⟩)] w fun e w' => e = .returned (.int .i64 (fr : Int)) ∧ Below w.heap.size w w') := fun w h => by
          have := cFree_any h OKS.out
          rw [hfree] at this; exact this
        have HL : Hid (∀ w, CHas w p (avC pg pgs rgs m (usedF l pgs) none) S → Calls Try.prog 21 #[.pointer (some ⟨p, 0, none⟩)] w fun e w' => e = .returned (.int .i64 0) ∧ Below w.heap.size w w') := fun w h => by
          have := cLeft_any h OKS.out
          rw [hleft, hlf] at this; exact this
        have HA : Hid (∀ w, CHas w p (avC pg pgs rgs m (usedF l pgs) none) S → Calls Try.prog 22 #[.pointer (some ⟨p, 0, none⟩)] w fun e w' => e = .returned (.int .i64 (av : Int)) ∧ Below w.heap.size w w') := fun w h => by
          have := cAvail_any h OKS.out
          rw [← hav0] at this; exact this
        have hav3 : (gsl : Int) = (av : Int) := by rw [← hav, hlf]; simp
        rw [hav3] at hmul
        have z3 : ((av : Int) == (av : Int)) = true := by simp
        have havb : av ≤ 30 := by omega
        obtain ⟨w9, hw9⟩ : ∃ w9, w9 = wr := ⟨_, rfl⟩
        rw [← hw9]
        have H9 := Lib.hid (show CHas w9 p (avC pg pgs rgs m (usedF l pgs) none) S by rw [hw9]; exact HC.out)
        have SF9 := Lib.hid (show Safe (w.heap.size + 1) w3 w9 S by rw [hw9]; exact SF.out)
        have V9 := Lib.hid (V3.out.below SF9.out.bel (Nat.lt_succ_self _))
        clear k0 k1 k2
        have k0 := V9.out.cell (j := 0) rfl
        have k1 := V9.out.cell (j := 1) rfl
        have k2 := V9.out.cell (j := 2) rfl
        have hev : (opn.tmod 2 == 0) = false ∨ ((opn.tmod 2 == 0) = true ∧ decide ((fr : Int) < (rgs : Int)) = false ∧ decide (fr < rgs) = false) := by
          rcases hcase with h | ⟨h, h0⟩ | h
          · exact .inl h
          · exact .inr ⟨h, decide_eq_false (by omega), decide_eq_false (by omega)⟩
          · exact absurd h hop
        have havb2 : av ≤ 30 := by omega
        clear hav3
        clear hleft hfree hav0 hl0 hl1 hlt hgx hgsl hcase hop hw9 hav hlf hsl hfr
        rcases hd12 with ⟨d1, d2⟩ | ⟨d1, d2, d3, d4⟩ <;> rcases hev with e1 | ⟨e1, e2, e3⟩
        all_goals
          go_wp2
          refine wp_region_is [91, 92, 93, 94, 95, 96, 97, 98, 99, 100, 101, 102, 103, 104, 105, 106, 107, 108, 109, 110, 111, 112, 113, 6] (fun w' => Below w9.heap.size w9 w')
            [.pointer (some ⟨p, 0, none⟩), .int .i64 (fr : Int), .int .i64 (fr : Int), .bool true, .bool true, .pointer (some ⟨p, 0, none⟩), .int .i64 0, .int .i64 0, .bool true, .bool true, .bool true, .pointer (some ⟨p, 0, none⟩), .int .i64 (av : Int), .int .i64 0, .int .i64 (fr : Int), .int .i64 ((fr : Int) - 2), .int .i64 (gx : Int), .agg #[.int .i64 (pg : Int), .int .i64 (pgs : Int), .int .i64 (rgs : Int)], .int .i64 (sl : Int), .int .i64 (av : Int), .int .i64 (av : Int), .bool true, .bool true, .bool true] (by kernel_rfl) (by kernel_rfl) rfl (by decide) (by simp) (Below.refl _ _).drew ?each ?done
          case each =>
            clear k0 k1 k2
            simp only [Each]
            repeat' (first | exact trivial | refine And.intro ?_ ?_)
            all_goals
              intro ys wx hBx hdeps
              simp only [Deps, Region.binds, List.getD_cons_zero, List.getD_cons_succ, forall_const, and_true] at hdeps
              have c0 : wx.cell? ⟨w.heap.size, 0, none⟩ = some (.int .i64 (pg : Int)) := (V9.out.below hBx V9.out.lt).cell (j := 0) rfl
              have c1 : wx.cell? ⟨w.heap.size, 1, none⟩ = some (.int .i64 (pgs : Int)) := (V9.out.below hBx V9.out.lt).cell (j := 1) rfl
              have c2 : wx.cell? ⟨w.heap.size, 2, none⟩ = some (.int .i64 (rgs : Int)) := (V9.out.below hBx V9.out.lt).cell (j := 2) rfl
              simp only [hdeps, fill, List.foldl_cons, List.foldl_nil, Act.put, List.setIfInBounds_toArray, List.set_cons_succ, List.set_cons_zero]
              first
                | (go_wp2_with fail; exact ⟨_, rfl, rfl, hBx, Below.refl _ _⟩)
                | (go_wp2_with (go_at_call 20; (with_reducible refine (HF.out _ (H9.out.below hBx)).mono ?_); rintro e w3 ⟨rfl, hbm⟩); exact ⟨_, rfl, rfl, hBx.trans (hbm.mono hBx.size), hbm⟩)
                | (go_wp2_with (go_at_call 21; (with_reducible refine (HL.out _ (H9.out.below hBx)).mono ?_); rintro e w3 ⟨rfl, hbm⟩); exact ⟨_, rfl, rfl, hBx.trans (hbm.mono hBx.size), hbm⟩)
                | (go_wp2_with (go_at_call 22; (with_reducible refine (HA.out _ (H9.out.below hBx)).mono ?_); rintro e w3 ⟨rfl, hbm⟩); exact ⟨_, rfl, rfl, hBx.trans (hbm.mono hBx.size), hbm⟩)
                | (go_wp2_with (go_at_call 28; (with_reducible refine (HSL.out _).mono ?_); rintro e w3 ⟨rfl, hbm⟩); exact ⟨_, rfl, rfl, hBx.trans (hbm.mono hBx.size), hbm⟩)
          case done =>
            intro ys wx hBx hV
            have h6 : ys 6 = .bool true := hV 23 (by decide)
            have B7 := Lib.hid (BW3.out.trans ((SF9.out.below hBx).bel.mono (Nat.le_succ _)))
            clear hBx hV
            simp only [h6, fill, List.drop_succ_cons, List.drop_zero, List.foldl_cons, List.foldl_nil, Act.put, List.setIfInBounds_toArray, List.set_cons_succ, List.set_cons_zero]
            go_wp2
            go_ret
            exact ⟨rfl, B7.out⟩
end Go.Proofs.Ytmkdhehdfdkbjaa.Chart
