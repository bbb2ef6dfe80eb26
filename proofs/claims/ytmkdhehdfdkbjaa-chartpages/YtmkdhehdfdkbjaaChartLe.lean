/-
  ChartEnd's walk: at the greatest epoch none is opened any more.
-/
import Derived.Test.YtmkdhehdfdkbjaaChartL
set_option linter.unusedVariables false
set_option linter.unusedSimpArgs false
namespace Go.Proofs.Ytmkdhehdfdkbjaa.Chart
open Go.RowKit
open Go.Proofs.Ytmkdhehdfdkbjaa.Own
open Tup Foot
open Go.Proofs.Ytmkdhehdfdkbjaa.Region (fill Then Deps Each wp_region_is wp_region_is_tail)

theorem one_cnt {pg pgs rgs k e u : Nat} (hk : k < rgs) (he : e ≠ 0) (j : Nat) : ((newC pg pgs rgs).put k e u).cntTo j = if k < j then j - 1 else j := by
  induction j with
  | zero => simp [Ch.cntTo]
  | succ j ih =>
    rw [Ch.cntTo, ih, put_ep (by simp [newC]) hk]
    by_cases e1 : j = k
    · subst e1
      rw [if_pos rfl, if_neg he, if_neg (by omega), if_pos (by omega)]; omega
    · rw [if_neg e1, new_ep, if_pos rfl]
      by_cases e2 : k < j
      · rw [if_pos e2, if_pos (by omega)]; omega
      · rw [if_neg e2, if_neg (by omega)]
theorem one_free {pg pgs rgs k e u : Nat} (hk : k < rgs) (he : e ≠ 0) : ((newC pg pgs rgs).put k e u).free = rgs - 1 := by
  unfold Ch.free
  rw [one_cnt hk he]
  show (if k < rgs then rgs - 1 else rgs) = rgs - 1
  rw [if_pos hk]
theorem end_set {pg pgs rgs k x : Nat} (hx : 2147483647 < x) : setC (newC pg pgs rgs) (k : Int) x 0 = (1, newC pg pgs rgs) := by
  unfold setC; rw [if_pos (.inr (.inr (.inl hx)))]
theorem end_put {pg pgs rgs k : Nat} (hk : k < rgs) : setC (newC pg pgs rgs) (k : Int) 2147483647 0 = (0, (newC pg pgs rgs).put k 2147483647 0) := by
  unfold setC
  rw [Ch.is_nat (show k < (newC pg pgs rgs).rgs from hk), if_neg (by simp)]
  simp only [Int.toNat_natCast]
  rw [if_neg (by rw [new_ep]; simp)]; rfl
theorem end_open {pg pgs rgs k : Nat} (hk : k < rgs) : openC ((newC pg pgs rgs).put k 2147483647 0) = ((0, 0, false), (newC pg pgs rgs).put k 2147483647 0) := by
  refine open_end ?_
  have h := le_maxTo (c := (newC pg pgs rgs).put k 2147483647 0) (k := rgs) (j := k) hk
  rw [put_ep (by simp [newC]) hk, if_pos rfl] at h
  exact h
set_option maxRecDepth 100000 in
set_option maxHeartbeats 16000000 in
theorem end_any (gp gs gr region : Int) (t : Nat) (w : World) :
    Calls Try.prog 8 #[Geom.gV ⟨gp, gs, gr⟩, .int .i64 region, .int .u32 (t : Int)] w fun e w' => e = .returned (.bool true) ∧ Below w.heap.size w w' := by
  unfold Geom.gV
  obtain ⟨pg, hpg⟩ : ∃ n : Nat, (n : Int) = 32 + gp % 33 := ⟨(32 + gp % 33).toNat, by omega⟩
  obtain ⟨pgs, hpgs⟩ : ∃ n : Nat, (n : Int) = 3 + gs % 4 := ⟨(3 + gs % 4).toNat, by omega⟩
  obtain ⟨rgs, hrgs⟩ : ∃ n : Nat, (n : Int) = 4 + gr % 4 := ⟨(4 + gr % 4).toNat, by omega⟩
  have p0 : 32 ≤ pg := by omega
  have p1 : pg ≤ 64 := by omega
  have s0 : 3 ≤ pgs := by omega
  have s1 : pgs ≤ 6 := by omega
  have r0 : 4 ≤ rgs := by omega
  have r1 : rgs ≤ 7 := by omega
  have HG : Hid (∀ w, Calls Try.prog 10 #[.agg #[.int .i64 gp, .int .i64 gs, .int .i64 gr]] w fun e w' => e = .returned (.agg #[.int .i64 (pg : Int), .int .i64 (pgs : Int), .int .i64 (rgs : Int)]) ∧ Below w.heap.size w w') := fun w => by
    rw [hpg, hpgs, hrgs]; exact Geom.geom_any ⟨gp, gs, gr⟩ w
  have HAL := Lib.hid (fun w => alive_any w)
  have HN : Hid (∀ w, Calls Try.prog 11 #[.agg #[.int .i64 (pg : Int), .int .i64 (pgs : Int), .int .i64 (rgs : Int)]] w fun e w' => ∃ p S, e = .returned (.pointer (some ⟨p, 0, none⟩)) ∧ CHas w' p (newC pg pgs rgs) S ∧ Below w.heap.size w w' ∧ ∀ k, S k → w.heap.size ≤ k) := fun w => new_good pg pgs rgs p0 (by omega) s0 (by omega) r0 (by omega) w
  have OK0 := Lib.hid (new_ok (pg := pg) (pgs := pgs) (rgs := rgs) p0 (by omega) s0 (by omega) r0 (by omega))
  have HV0 := Lib.hid (Var.new w 23 [.int .i64 gp, .int .i64 gs, .int .i64 gr])
  clear hpg hpgs hrgs
  obtain ⟨k, hk⟩ : ∃ k : Nat, (k : Int) = region % (rgs : Int) := ⟨(region % (rgs : Int)).toNat, by have := Int.emod_nonneg region (show (rgs : Int) ≠ 0 by omega); omega⟩
  have hkr : k < rgs := by have := Int.emod_lt_of_pos region (show (0 : Int) < rgs by omega); omega
  have HPK : Hid (∀ w, Calls Try.prog 26 #[.int .i64 region, .int .i64 (rgs : Int)] w fun e w' => e = .returned (.int .i64 (k : Int)) ∧ w = w') := fun w => by rw [hk]; exact Book.pick_any region rgs (by omega) (by omega) w
  obtain ⟨m, hm⟩ : ∃ m, m = t % 2147483647 := ⟨_, rfl⟩
  have hmt : ((t : Nat) : Int).tmod 2147483647 = (m : Int) := by rw [hm]; rfl
  have hm1 : m < 2147483647 := by rw [hm]; exact Nat.mod_lt _ (by omega)
  have OK1 := Lib.hid (show ((newC pg pgs rgs).put k 2147483647 0).Ok by have := set_keeps OK0.out (k : Int) 2147483647 0; rw [end_put hkr] at this; exact this)
  have HS1 : Hid (∀ w S p, CHas w p (newC pg pgs rgs) S → Calls Try.prog 29 #[.pointer (some ⟨p, 0, none⟩), .int .i64 (k : Int), .int .u32 (2147483648 + (m : Int)), .int .i64 0] w fun e w' => e = .returned (.int .i64 1) ∧ Below w.heap.size w w') := fun w S p h => by
    have := cSet_any h OK0.out (k : Int) (2147483648 + m) 0
    rw [end_set (by omega), show ((2147483648 + m : Nat) : Int) = 2147483648 + (m : Int) by omega] at this
    exact this.mono fun e w' q => ⟨q.1, q.2.2.2 (show (1 : Nat) ≠ 0 by decide)⟩
  have HS2 : Hid (∀ w S p, CHas w p (newC pg pgs rgs) S → Calls Try.prog 29 #[.pointer (some ⟨p, 0, none⟩), .int .i64 (k : Int), .int .u32 2147483647, .int .i64 0] w fun e w' => e = .returned (.int .i64 0) ∧ CHas w' p ((newC pg pgs rgs).put k 2147483647 0) S ∧ Grows S w w') := fun w S p h => by
    have := cSet_any h OK0.out (k : Int) 2147483647 0
    rw [end_put hkr] at this
    exact this.mono fun e w' q => ⟨q.1, q.2.1, q.2.2.1⟩
  have HO : Hid (∀ w S p, CHas w p ((newC pg pgs rgs).put k 2147483647 0) S → Calls Try.prog 27 #[.pointer (some ⟨p, 0, none⟩)] w fun e w' => e = .returned (.tuple #[.int .i64 0, .int .u32 0, .bool false]) ∧ CHas w' p ((newC pg pgs rgs).put k 2147483647 0) S ∧ Grows S w w') := fun w S p h => by
    have := cOpen_any h OK1.out
    rw [end_open hkr] at this; exact this
  have HF : Hid (∀ w S p, CHas w p ((newC pg pgs rgs).put k 2147483647 0) S → Calls Try.prog 20 #[.pointer (some ⟨p, 0, none⟩)] w fun e w' => e = .returned (.int .i64 ((rgs : Int) - 1)) ∧ Below w.heap.size w w') := fun w S p h => by
    have := cFree_any h OK1.out
    rw [one_free hkr (by decide), show ((rgs - 1 : Nat) : Int) = (rgs : Int) - 1 by omega] at this; exact this
  have z1 : (((rgs : Int) - 1) == ((rgs : Int) - 1)) = true := by simp
  clear hk hm
  go_enter Try.func8, Try.ntmps8
  go_wp2_with (first
    | (go_at_call 10; (with_reducible refine (HG.out _).mono ?_); rintro e wg ⟨rfl, bg⟩; have vg := HV0.out.below bg HV0.out.lt; have c0 := vg.cell (j := 0) rfl; have c1 := vg.cell (j := 1) rfl; have c2 := vg.cell (j := 2) rfl; have f0 := vg.frozen 0; have f1 := vg.frozen 1; have f2 := vg.frozen 2; have vs := ((vg.set 0 (.int .i64 (pg : Int))).set 1 (.int .i64 (pgs : Int))).set 2 (.int .i64 (rgs : Int)); have VN := Lib.hid vs; have k0 := vs.cell (j := 0) rfl; have k1 := vs.cell (j := 1) rfl; have k2 := vs.cell (j := 2) rfl; have BN := Lib.hid ((((bel2 (Geom.bel_alloc w (.cells #[.int .i64 gp, .int .i64 gs, .int .i64 gr] 23)) bg).setCell (p := ⟨w.heap.size, 0, none⟩) (Nat.le_refl _) (.int .i64 (pg : Int))).setCell (p := ⟨w.heap.size, 1, none⟩) (Nat.le_refl _) (.int .i64 (pgs : Int))).setCell (p := ⟨w.heap.size, 2, none⟩) (Nat.le_refl _) (.int .i64 (rgs : Int))); clear vg bg vs)
    | (go_at_call 11; (with_reducible refine (HN.out _).mono ?_); rintro e w2 ⟨p, S, rfl, h2, b2, s2⟩; have v2 := VN.out.below b2 VN.out.lt; have V2 := Lib.hid v2; have H2 := Lib.hid h2; have BW2 := Lib.hid (BN.out.trans (b2.mono BN.out.size)); have SF2 := Lib.hid (show Safe (w.heap.size + 1) w2 w2 S from ⟨Below.refl _ _, v2.lt, fun k hk => Nat.le_trans VN.out.lt (s2 k hk)⟩); clear v2 h2 b2 s2 k0 k1 k2 f0 f1 f2 c0 c1 c2)
    | (go_at_call 12; (with_reducible refine (HAL.out _).mono ?_); rintro e w3 ⟨rfl, b3⟩; have V3 := Lib.hid (V2.out.below b3 V2.out.lt); have H3 := Lib.hid (H2.out.below b3); have BW3 := Lib.hid (BW2.out.trans (b3.mono BW2.out.size)); have SF3 := Lib.hid (show Safe (w.heap.size + 1) w3 w3 S from ⟨Below.refl _ _, Nat.lt_of_lt_of_le V2.out.lt b3.size, SF2.out.foot⟩); clear b3; have k0 := V3.out.cell (j := 0) rfl; have k1 := V3.out.cell (j := 1) rfl; have k2 := V3.out.cell (j := 2) rfl)
    | (go_at_call 26; (with_reducible refine (HPK.out _).mono ?_); rintro e wz ⟨rfl, rfl⟩)
    | (go_at_call 29; (with_reducible refine (HS1.out _ _ _ H3.out).mono ?_); rintro e w4 ⟨rfl, b4⟩; have V4 := Lib.hid (V3.out.below b4 V3.out.lt); have H4 := Lib.hid (H3.out.below b4); have SF4 := Lib.hid (SF3.out.below b4); clear b4 k0 k1 k2)
    | (go_at_call 29; (with_reducible refine (HS2.out _ _ _ H4.out).mono ?_); rintro e w5 ⟨rfl, h5, g5⟩; have H5 := Lib.hid h5; have SF5 := Lib.hid (SF4.out.turn g5); clear h5 g5)
    | (go_at_call 27; (with_reducible refine (HO.out _ _ _ H5.out).mono ?_); rintro e w6 ⟨rfl, h6, g6⟩; have H6 := Lib.hid h6; have SF6 := Lib.hid (SF5.out.turn g6); clear h6 g6))
  have V6 := Lib.hid (V3.out.below SF6.out.bel (Nat.lt_succ_self _))
  refine wp_region_is [44, 45, 46, 47, 48, 49, 50, 51, 52, 53, 54, 55, 56, 57, 58, 59, 60, 61, 6] (fun w' => Below w6.heap.size w6 w')
    [.bool false, .bool true, .bool true, .int .i64 0, .bool true, .bool true, .bool true, .int .u32 0, .bool true, .bool true, .bool true, .pointer (some ⟨p, 0, none⟩), .int .i64 ((rgs : Int) - 1), .pointer (some ⟨w.heap.size, 2, none⟩), .int .i64 (rgs : Int), .int .i64 ((rgs : Int) - 1), .bool true, .bool true, .bool true] (by kernel_rfl) (by kernel_rfl) rfl (by decide) (by simp) (Below.refl _ _).drew ?each ?done
  case each =>
    simp only [Each]
    repeat' (first | exact trivial | refine And.intro ?_ ?_)
    all_goals
      intro ys wx hBx hdeps
      simp only [Deps, Region.binds, List.getD_cons_zero, List.getD_cons_succ, forall_const, and_true] at hdeps
      have c0 : wx.cell? ⟨w.heap.size, 0, none⟩ = some (.int .i64 (pg : Int)) := (V6.out.below hBx V6.out.lt).cell (j := 0) rfl
      have c1 : wx.cell? ⟨w.heap.size, 1, none⟩ = some (.int .i64 (pgs : Int)) := (V6.out.below hBx V6.out.lt).cell (j := 1) rfl
      have c2 : wx.cell? ⟨w.heap.size, 2, none⟩ = some (.int .i64 (rgs : Int)) := (V6.out.below hBx V6.out.lt).cell (j := 2) rfl
      simp only [hdeps, fill, List.foldl_cons, List.foldl_nil, Act.put, List.setIfInBounds_toArray, List.set_cons_succ, List.set_cons_zero]
      first
        | (go_wp2_with fail; exact ⟨_, rfl, rfl, hBx, Below.refl _ _⟩)
        | (go_wp2_with (go_at_call 20; (with_reducible refine (HF.out _ _ _ (H6.out.below hBx)).mono ?_); rintro e w3 ⟨rfl, hm⟩); exact ⟨_, rfl, rfl, hBx.trans (hm.mono hBx.size), hm⟩)
  case done =>
    intro ys wx hBx hV
    have h6 : ys 6 = .bool true := hV 18 (by decide)
    have B7 := Lib.hid (BW3.out.trans ((SF6.out.below hBx).bel.mono (Nat.le_succ _)))
    clear hBx hV
    simp only [h6, fill, List.drop_succ_cons, List.drop_zero, List.foldl_cons, List.foldl_nil, Act.put, List.setIfInBounds_toArray, List.set_cons_succ, List.set_cons_zero]
    go_wp2
    go_ret
    exact ⟨rfl, B7.out⟩
end Go.Proofs.Ytmkdhehdfdkbjaa.Chart
