/-
  ChartRounds' walk: regions that are opened one behind the other go round.
-/
import Derived.Test.YtmkdhehdfdkbjaaChartLe
set_option linter.unusedVariables false
set_option linter.unusedSimpArgs false
namespace Go.Proofs.Ytmkdhehdfdkbjaa.Chart
open Go.RowKit
open Go.Proofs.Ytmkdhehdfdkbjaa.Own
open Tup Foot
open Go.Proofs.Ytmkdhehdfdkbjaa.Region (fill Then Deps Each wp_region_is wp_region_is_tail)

/-- just one region is taken, and open -/
def oneC (pg pgs rgs k e : Nat) : Ch := { (newC pg pgs rgs).put k e 0 with now := some k }
def rdC (pg pgs rgs i : Nat) : Ch := if i = 0 then newC pg pgs rgs else oneC pg pgs rgs ((i - 1) % rgs) i
theorem one_ep {pg pgs rgs k e : Nat} (hk : k < rgs) (j : Nat) : (oneC pg pgs rgs k e).ep j = if j = k then e else 0 := by
  have := put_ep (c := newC pg pgs rgs) (by simp [newC]) (i := k) (e := e) (u := 0) hk j
  rw [new_ep] at this; exact this
theorem one_maxTo {pg pgs rgs k e : Nat} (hk : k < rgs) (j : Nat) : (oneC pg pgs rgs k e).maxTo j = if k < j then e else 0 := by
  induction j with
  | zero => simp [Ch.maxTo]
  | succ j ih =>
    rw [Ch.maxTo, ih, one_ep hk]
    by_cases e1 : j = k
    · subst e1
      simp only [Nat.lt_irrefl, if_true, if_false, Nat.lt_succ_self]; split <;> omega
    · rw [if_neg e1]
      by_cases e2 : k < j
      · rw [if_pos e2, if_neg (by omega), if_pos (by omega)]
      · rw [if_neg e2, if_neg (by omega), if_neg (by omega)]
theorem one_topTo {pg pgs rgs k e : Nat} (hk : k < rgs) (he : 0 < e) (j : Nat) : (oneC pg pgs rgs k e).topTo j = if k < j then k else 0 := by
  induction j with
  | zero => simp [Ch.topTo]
  | succ j ih =>
    rw [Ch.topTo, one_maxTo hk, one_ep hk, ih]
    by_cases e1 : j = k
    · subst e1
      simp only [Nat.lt_irrefl, if_true, if_false, Nat.lt_succ_self, he]
    · rw [if_neg e1]
      by_cases e2 : k < j
      · rw [if_pos e2, if_neg (by omega), if_pos e2, if_pos (by omega)]
      · rw [if_neg e2, if_neg (by omega), if_neg e2, if_neg (by omega)]
theorem one_max {pg pgs rgs k e : Nat} (hk : k < rgs) : (oneC pg pgs rgs k e).max = e := by
  unfold Ch.max; rw [one_maxTo hk]; exact if_pos hk
theorem one_top {pg pgs rgs k e : Nat} (hk : k < rgs) (he : 0 < e) : (oneC pg pgs rgs k e).top = k := by
  unfold Ch.top; rw [one_topTo hk he]; exact if_pos hk
theorem next_ne {k rgs : Nat} (hk : k < rgs) (hr : 2 ≤ rgs) : (k + 1) % rgs ≠ k ∧ (k + 1) % rgs < rgs := by
  by_cases h : k + 1 < rgs
  · rw [Nat.mod_eq_of_lt h]; omega
  · have : k + 1 = rgs := by omega
    rw [this, Nat.mod_self]; omega
theorem one_next {pg pgs rgs k e : Nat} (hk : k < rgs) (he : 0 < e) (hr : 2 ≤ rgs) : (oneC pg pgs rgs k e).next = some ((k + 1) % rgs) := by
  unfold Ch.next
  rw [one_top hk he]
  show (oneC pg pgs rgs k e).scan k 0 rgs = _
  obtain ⟨n, rfl⟩ : ∃ n, rgs = n + 2 := ⟨rgs - 2, by omega⟩
  have h1 := scan_miss (c := oneC pg pgs (n + 2) k e) (first := k) (i := 0) (n := n + 1) (by
    show (oneC pg pgs (n + 2) k e).ep (k % (n + 2)) ≠ 0
    rw [Nat.mod_eq_of_lt hk, one_ep hk, if_pos rfl]; omega)
  have h2 := scan_hit (c := oneC pg pgs (n + 2) k e) (first := k) (i := 1) (n := n) (by
    show (oneC pg pgs (n + 2) k e).ep ((k + 1) % (n + 2)) = 0
    rw [one_ep hk, if_neg (next_ne hk hr).1])
  exact h1.trans h2
theorem one_ok {pg pgs rgs k e : Nat} (h : (newC pg pgs rgs).Ok) (hk : k < rgs) (he : 0 < e) (h2 : e ≤ 2147483647) : (oneC pg pgs rgs k e).Ok :=
  now_ok (put_ok h hk h2 (Nat.zero_le _) (by omega)) hk (by rw [put_ep h.len hk, if_pos rfl]; omega)
theorem cnt_now (c : Ch) (o : Option Nat) (j : Nat) : ({ c with now := o } : Ch).cntTo j = c.cntTo j := by
  induction j with
  | zero => rfl
  | succ j ih => rw [Ch.cntTo, Ch.cntTo, ih]; rfl
theorem one_free2 {pg pgs rgs k e : Nat} (hk : k < rgs) (he : e ≠ 0) : (oneC pg pgs rgs k e).free = rgs - 1 := (cnt_now _ _ _).trans (one_free (u := 0) hk he)
theorem new_open (pg pgs rgs : Nat) (h : 0 < rgs) : openC (newC pg pgs rgs) = ((0, 1, true), oneC pg pgs rgs 0 1) := by
  have hm : ∀ j, (newC pg pgs rgs).maxTo j = 0 := by
    intro j
    induction j with
    | zero => rfl
    | succ j ih => rw [Ch.maxTo, ih, new_ep, if_neg (by omega)]
  have h0 : (newC pg pgs rgs).max = 0 := hm _
  have ht : (newC pg pgs rgs).top = 0 := topTo_zero (hm _)
  have hn : (newC pg pgs rgs).next = some 0 := by
    unfold Ch.next
    rw [ht]
    obtain ⟨n, rfl⟩ : ∃ n, rgs = n + 1 := ⟨rgs - 1, by omega⟩
    have := scan_hit (c := newC pg pgs (n + 1)) (first := 0) (i := 0) (n := n) (new_ep _ _ _ _)
    rw [show (newC pg pgs (n + 1)).rgs = n + 1 from rfl] at this ⊢
    rw [this]; simp
  have := open_at (by omega) hn
  rw [this]
  unfold Ch.openAt oneC
  rw [h0]
/-- the next one is open, too: the one ahead is still taken -/
def twoC (pg pgs rgs k e : Nat) : Ch := (oneC pg pgs rgs k e).openAt ((k + 1) % rgs)
theorem one_open {pg pgs rgs k e : Nat} (hk : k < rgs) (he : 0 < e) (h2 : e < 2147483647) (hr : 2 ≤ rgs) : openC (oneC pg pgs rgs k e) = (((k + 1) % rgs, e + 1, true), twoC pg pgs rgs k e) := by
  have := open_at (c := oneC pg pgs rgs k e) (by rw [one_max hk]; exact h2) (one_next hk he hr)
  rw [this, one_max hk]; rfl
theorem two_ok {pg pgs rgs k e : Nat} (h : (newC pg pgs rgs).Ok) (hk : k < rgs) (he : 0 < e) (h2 : e < 2147483647) : (twoC pg pgs rgs k e).Ok := by
  have h3 := open_keeps (one_ok h hk he (by omega))
  rw [one_open hk he h2 (by have := h.r0; have : (newC pg pgs rgs).rgs = rgs := rfl; omega)] at h3
  exact h3
theorem two_erase {pg pgs rgs k e : Nat} (hk : k < rgs) (he : 0 < e) (hr : 2 ≤ rgs) : eraseC (twoC pg pgs rgs k e) (k : Int) = (0, oneC pg pgs rgs ((k + 1) % rgs) (e + 1)) := by
  obtain ⟨h1, h2⟩ := next_ne hk hr
  have hm : (twoC pg pgs rgs k e).ep k = e := by
    have := put_ep (c := oneC pg pgs rgs k e) (i := (k + 1) % rgs) (e := (oneC pg pgs rgs k e).max + 1) (u := 0) (by simp [oneC, Ch.put, newC]) h2 k
    rw [if_neg (Ne.symm h1), one_ep hk, if_pos rfl] at this
    exact this
  unfold eraseC
  rw [if_neg (by rw [Ch.is_nat (show k < (twoC pg pgs rgs k e).rgs from hk)]; simp), if_neg]
  · simp only [Int.toNat_natCast]
    unfold twoC Ch.openAt
    rw [one_max hk]
    unfold oneC Ch.put newC
    simp only [Prod.mk.injEq, Ch.mk.injEq, true_and, and_true]
    apply List.ext_getElem?
    intro j
    simp only [List.getElem?_set, List.length_set, List.length_replicate, List.getElem?_replicate]
    by_cases e1 : k = j
    · subst e1
      rw [if_pos rfl, if_pos hk, if_neg h1]
    · rw [if_neg e1]
      by_cases e2 : (k + 1) % rgs = j
      · rw [if_pos e2, if_pos e2]
      · rw [if_neg e2, if_neg e1, if_neg e2]
  · simp only [Int.toNat_natCast]
    rw [hm]
    rintro (x | x)
    · omega
    · have : (twoC pg pgs rgs k e).now = some ((k + 1) % rgs) := rfl
      rw [this] at x
      simp at x; exact h1 x
theorem rd_ok {pg pgs rgs i : Nat} (h : (newC pg pgs rgs).Ok) (hi : i ≤ 40) : (rdC pg pgs rgs i).Ok := by
  unfold rdC
  split
  · exact h
  · exact one_ok h (Nat.mod_lt _ (by have := h.r0; have : (newC pg pgs rgs).rgs = rgs := rfl; omega)) (by omega) (by omega)
set_option maxRecDepth 100000 in
set_option maxHeartbeats 16000000 in
theorem rounds_any (gp gs gr n : Int) (w : World) :
    Calls Try.prog 5 #[Geom.gV ⟨gp, gs, gr⟩, .int .i64 n] w fun e w' => e = .returned (.bool true) ∧ Below w.heap.size w w' := by
  unfold Geom.gV
  obtain ⟨pg, hpg⟩ : ∃ n : Nat, (n : Int) = 32 + gp % 33 := ⟨(32 + gp % 33).toNat, by omega⟩
  obtain ⟨pgs, hpgs⟩ : ∃ n : Nat, (n : Int) = 3 + gs % 4 := ⟨(3 + gs % 4).toNat, by omega⟩
  obtain ⟨rgs, hrgs⟩ : ∃ n : Nat, (n : Int) = 4 + gr % 4 := ⟨(4 + gr % 4).toNat, by omega⟩
  have p0 : 32 ≤ pg := by omega
  have p1 : pg ≤ 64 := by omega
  have s0 : 3 ≤ pgs := by omega
  have s1 : pgs ≤ 6 := by omega
  have r0 : 4 ≤ rgs := by omega
  have r1 : rgs ≤ 7 := by omega
  have HG : Hid (∀ w, Calls Try.prog 10 #[.agg #[.int .i64 gp, .int .i64 gs, .int .i64 gr]] w fun e w' => e = .returned (.agg #[.int .i64 (pg : Int), .int .i64 (pgs : Int), .int .i64 (rgs : Int)]) ∧ Below w.heap.size w w') := fun w => by
    rw [hpg, hpgs, hrgs]; exact Geom.geom_any ⟨gp, gs, gr⟩ w
  have HAL := Lib.hid (fun w => alive_any w)
  have HN : Hid (∀ w, Calls Try.prog 11 #[.agg #[.int .i64 (pg : Int), .int .i64 (pgs : Int), .int .i64 (rgs : Int)]] w fun e w' => ∃ p S, e = .returned (.pointer (some ⟨p, 0, none⟩)) ∧ CHas w' p (newC pg pgs rgs) S ∧ Below w.heap.size w w' ∧ ∀ k, S k → w.heap.size ≤ k) := fun w => new_good pg pgs rgs p0 (by omega) s0 (by omega) r0 (by omega) w
  have OK0 := Lib.hid (new_ok (pg := pg) (pgs := pgs) (rgs := rgs) p0 (by omega) s0 (by omega) r0 (by omega))
  have HV0 := Lib.hid (Var.new w 23 [.int .i64 gp, .int .i64 gs, .int .i64 gr])
  clear hpg hpgs hrgs
  obtain ⟨N, hN⟩ : ∃ N : Nat, (N : Int) = n % 40 := ⟨(n % 40).toNat, by omega⟩
  have hN40 : N < 40 := by omega
  have HPK : Hid (∀ w, Calls Try.prog 26 #[.int .i64 n, .int .i64 40] w fun e w' => e = .returned (.int .i64 (N : Int)) ∧ w = w') := fun w => by rw [hN]; exact Book.pick_any n 40 (by decide) (by decide) w
  clear hN
  have z1 : (((rgs : Int) - 1) == ((rgs : Int) - 1)) = true := by simp
  have z2 : (((rgs : Int) - 1) != ((rgs : Int) - 1)) = false := by simp
  have z3 : ((rgs : Int) == 0) = false := by simp; omega
  go_enter Try.func5, Try.ntmps5
  go_wp2_with (first
    | (go_at_call 10; (with_reducible refine (HG.out _).mono ?_); rintro e wg ⟨rfl, bg⟩; have vg := HV0.out.below bg HV0.out.lt; have c0 := vg.cell (j := 0) rfl; have c1 := vg.cell (j := 1) rfl; have c2 := vg.cell (j := 2) rfl; have f0 := vg.frozen 0; have f1 := vg.frozen 1; have f2 := vg.frozen 2; have vs := ((vg.set 0 (.int .i64 (pg : Int))).set 1 (.int .i64 (pgs : Int))).set 2 (.int .i64 (rgs : Int)); have VN := Lib.hid vs; have k0 := vs.cell (j := 0) rfl; have k1 := vs.cell (j := 1) rfl; have k2 := vs.cell (j := 2) rfl; have BN := Lib.hid ((((bel2 (Geom.bel_alloc w (.cells #[.int .i64 gp, .int .i64 gs, .int .i64 gr] 23)) bg).setCell (p := ⟨w.heap.size, 0, none⟩) (Nat.le_refl _) (.int .i64 (pg : Int))).setCell (p := ⟨w.heap.size, 1, none⟩) (Nat.le_refl _) (.int .i64 (pgs : Int))).setCell (p := ⟨w.heap.size, 2, none⟩) (Nat.le_refl _) (.int .i64 (rgs : Int))); clear vg bg vs)
    | (go_at_call 11; (with_reducible refine (HN.out _).mono ?_); rintro e w2 ⟨p, S, rfl, h2, b2, s2⟩; have v2 := VN.out.below b2 VN.out.lt; have V2 := Lib.hid v2; have H2 := Lib.hid h2; have BW2 := Lib.hid (BN.out.trans (b2.mono BN.out.size)); have SF2 := Lib.hid (show Safe (w.heap.size + 1) w2 w2 S from ⟨Below.refl _ _, v2.lt, fun k hk => Nat.le_trans VN.out.lt (s2 k hk)⟩); clear v2 h2 b2 s2 k0 k1 k2 f0 f1 f2 c0 c1 c2)
    | (go_at_call 12; (with_reducible refine (HAL.out _).mono ?_); rintro e w3 ⟨rfl, b3⟩; have V3 := Lib.hid (V2.out.below b3 V2.out.lt); have H3 := Lib.hid (H2.out.below b3); have BW3 := Lib.hid (BW2.out.trans (b3.mono BW2.out.size)); have SF3 := Lib.hid (show Safe (w.heap.size + 1) w3 w3 S from ⟨Below.refl _ _, Nat.lt_of_lt_of_le V2.out.lt b3.size, SF2.out.foot⟩); clear b3))
  go_loopw [6] (fun v wr => ∃ i : Nat, v = .int .i64 (i : Int) ∧ i ≤ N ∧ CHas wr p (rdC pg pgs rgs i) S ∧ Safe (w.heap.size + 1) w3 wr S) (fun v _ => N - (intOf v).toNat)
  case atStart => exact ⟨0, rfl, Nat.zero_le _, H3.out, SF3.out⟩
  case round =>
    obtain ⟨i, rfl, hiN, hch, hsafe⟩ := hrel
    have HC := Lib.hid hch
    have SF := Lib.hid hsafe
    clear hch hsafe H3 SF3 V2 H2 BW2 SF2 VN BN HG HN HAL
    by_cases hlt : i < N
    · have d1 : decide ((i : Int) < (N : Int)) = true := by simp; omega
      have d2 : decide (i < N) = true := by simp; omega
      by_cases hi0 : i = 0
      · subst hi0
        have HO : Hid (∀ w S p, CHas w p (rdC pg pgs rgs 0) S → Calls Try.prog 27 #[.pointer (some ⟨p, 0, none⟩)] w fun e w' => e = .returned (.tuple #[.int .i64 0, .int .u32 1, .bool true]) ∧ CHas w' p (rdC pg pgs rgs 1) S ∧ Grows S w w') := fun w S p h => by
          have := cOpen_any h OK0.out
          rw [show openC (rdC pg pgs rgs 0) = ((0, 1, true), rdC pg pgs rgs 1) by rw [show rdC pg pgs rgs 0 = newC pg pgs rgs from rfl, new_open pg pgs rgs (by omega)]; unfold rdC; simp] at this
          exact this
        have HF : Hid (∀ w S p, CHas w p (rdC pg pgs rgs 1) S → Calls Try.prog 20 #[.pointer (some ⟨p, 0, none⟩)] w fun e w' => e = .returned (.int .i64 ((rgs : Int) - 1)) ∧ Below w.heap.size w w') := fun w S p h => by
          have := cFree_any h (rd_ok OK0.out (by omega))
          rw [show (rdC pg pgs rgs 1).free = rgs - 1 by unfold rdC; rw [if_neg (by omega)]; exact one_free2 (Nat.mod_lt _ (by omega)) (by omega), show ((rgs - 1 : Nat) : Int) = (rgs : Int) - 1 by omega] at this; exact this
        have V := Lib.hid (V3.out.below SF.out.bel (Nat.lt_succ_self _))
        have k2 := V.out.cell (j := 2) rfl
        have m1 : (0 : Int).tmod (rgs : Int) = 0 := Int.zero_tmod _
        go_wp2_with (first
          | (go_at_call 26; (with_reducible refine (HPK.out _).mono ?_); rintro e wz ⟨rfl, rfl⟩)
          | (go_at_call 27; (with_reducible refine (HO.out _ _ _ HC.out).mono ?_); rintro e w5 ⟨rfl, h5, g5⟩; have H5 := Lib.hid h5; have SF5 := Lib.hid (SF.out.turn g5); clear h5 g5 k2; have V5 := Lib.hid (V3.out.below SF5.out.bel (Nat.lt_succ_self _)); have k2 := V5.out.cell (j := 2) rfl))
        refine wp_region_is [61, 62, 63, 64, 65, 66] (fun w' => Below w5.heap.size w5 w')
          [.pointer (some ⟨p, 0, none⟩), .int .i64 ((rgs : Int) - 1), .pointer (some ⟨w.heap.size, 2, none⟩), .int .i64 (rgs : Int), .int .i64 ((rgs : Int) - 1), .bool false] (by kernel_rfl) (by kernel_rfl) rfl (by decide) (by simp) (Below.refl _ _).drew ?each ?done
        case each =>
          clear k2
          simp only [Each]
          repeat' (first | exact trivial | refine And.intro ?_ ?_)
          all_goals
            intro ys wx hBx hdeps
            simp only [Deps, Region.binds, List.getD_cons_zero, List.getD_cons_succ, forall_const, and_true] at hdeps
            have c0 : wx.cell? ⟨w.heap.size, 0, none⟩ = some (.int .i64 (pg : Int)) := (V5.out.below hBx V5.out.lt).cell (j := 0) rfl
            have c1 : wx.cell? ⟨w.heap.size, 1, none⟩ = some (.int .i64 (pgs : Int)) := (V5.out.below hBx V5.out.lt).cell (j := 1) rfl
            have c2 : wx.cell? ⟨w.heap.size, 2, none⟩ = some (.int .i64 (rgs : Int)) := (V5.out.below hBx V5.out.lt).cell (j := 2) rfl
            simp only [hdeps, fill, List.foldl_cons, List.foldl_nil, Act.put, List.setIfInBounds_toArray, List.set_cons_succ, List.set_cons_zero]
            first
              | (go_wp2_with fail; exact ⟨_, rfl, rfl, hBx, Below.refl _ _⟩)
              | (go_wp2_with (go_at_call 20; (with_reducible refine (HF.out _ _ _ (H5.out.below hBx)).mono ?_); rintro e w3 ⟨rfl, hm⟩); exact ⟨_, rfl, rfl, hBx.trans (hm.mono hBx.size), hm⟩)
        case done =>
          intro ys wx hBx hV
          have h66 : ys 66 = .bool false := hV 5 (by decide)
          have H7 := Lib.hid (H5.out.below hBx)
          have SF7 := Lib.hid (SF5.out.below hBx)
          clear hBx hV k2
          simp only [h66, fill, List.drop_succ_cons, List.drop_zero, List.foldl_cons, List.foldl_nil, Act.put, List.setIfInBounds_toArray, List.set_cons_succ, List.set_cons_zero]
          go_wp2
          refine ⟨⟨1, by go_num, by omega, H7.out, SF7.out⟩, by simp [intOf]; omega⟩
      · obtain ⟨k, hk⟩ : ∃ k, k = (i - 1) % rgs := ⟨_, rfl⟩
        have hkr : k < rgs := by rw [hk]; exact Nat.mod_lt _ (by omega)
        have hrd : rdC pg pgs rgs i = oneC pg pgs rgs k i := by unfold rdC; rw [if_neg hi0, hk]
        have hk1 : (k + 1) % rgs = i % rgs := by rw [hk, Nat.mod_add_mod]; congr 1; omega
        have hrd1 : rdC pg pgs rgs (i + 1) = oneC pg pgs rgs (i % rgs) (i + 1) := by unfold rdC; rw [if_neg (by omega)]; simp
        have TOK := Lib.hid (two_ok (pg := pg) (pgs := pgs) (rgs := rgs) (k := k) (e := i) OK0.out hkr (by omega) (by omega))
        have HO : Hid (∀ w S p, CHas w p (rdC pg pgs rgs i) S → Calls Try.prog 27 #[.pointer (some ⟨p, 0, none⟩)] w fun e w' => e = .returned (.tuple #[.int .i64 ((i % rgs : Nat) : Int), .int .u32 ((i : Int) + 1), .bool true]) ∧ CHas w' p (twoC pg pgs rgs k i) S ∧ Grows S w w') := fun w S p h => by
          rw [hrd] at h
          have := cOpen_any h (one_ok OK0.out hkr (by omega) (by omega))
          rw [one_open hkr (by omega) (by omega) (by omega), hk1] at this
          exact this
        have HE : Hid (∀ w S p, CHas w p (twoC pg pgs rgs k i) S → Calls Try.prog 25 #[.pointer (some ⟨p, 0, none⟩), .int .i64 (k : Int)] w fun e w' => e = .returned (.int .i64 0) ∧ CHas w' p (rdC pg pgs rgs (i + 1)) S ∧ Grows S w w') := fun w S p h => by
          have := cErase_any h TOK.out (k : Int)
          rw [two_erase hkr (by omega) (by omega), hk1, ← hrd1] at this
          exact this.mono fun e w' q => ⟨q.1, q.2.1, q.2.2.1⟩
        have HF : Hid (∀ w S p, CHas w p (rdC pg pgs rgs (i + 1)) S → Calls Try.prog 20 #[.pointer (some ⟨p, 0, none⟩)] w fun e w' => e = .returned (.int .i64 ((rgs : Int) - 1)) ∧ Below w.heap.size w w') := fun w S p h => by
          have := cFree_any h (rd_ok OK0.out (by omega))
          rw [hrd1, one_free2 (Nat.mod_lt _ (by omega)) (by omega), show ((rgs - 1 : Nat) : Int) = (rgs : Int) - 1 by omega] at this; exact this
        have V := Lib.hid (V3.out.below SF.out.bel (Nat.lt_succ_self _))
        have k2 := V.out.cell (j := 2) rfl
        have m1 : ((i : Nat) : Int).tmod (rgs : Int) = ((i % rgs : Nat) : Int) := rfl
        have m2 : ((i : Nat) : Int) - 1 = ((i - 1 : Nat) : Int) := by omega
        have m3 : (((i : Nat) : Int) - 1).tmod (rgs : Int) = (k : Int) := by rw [m2, hk]; rfl
        obtain ⟨q, hq⟩ : ∃ q, q = i % rgs := ⟨_, rfl⟩
        rw [← hq] at m1 HO
        have z4 : ((q : Int) == (q : Int)) = true := by simp
        have z5 : ((q : Int) != (q : Int)) = false := by simp
        have z6 : (((i : Int) + 1) == ((i : Int) + 1)) = true := by simp
        have z7 : (((i : Int) + 1) != ((i : Int) + 1)) = false := by simp
        have d3 : decide (0 < (i : Int)) = true := by simp; omega
        have d4 : decide (0 < i) = true := by simp; omega
        clear hq hk hrd hk1 hrd1 m2 hi0
        go_wp2_with (first
          | (go_at_call 26; (with_reducible refine (HPK.out _).mono ?_); rintro e wz ⟨rfl, rfl⟩)
          | (go_at_call 27; (with_reducible refine (HO.out _ _ _ HC.out).mono ?_); rintro e w5 ⟨rfl, h5, g5⟩; have H5 := Lib.hid h5; have SF5 := Lib.hid (SF.out.turn g5); clear h5 g5 k2; have V5 := Lib.hid (V3.out.below SF5.out.bel (Nat.lt_succ_self _)); have k2 := V5.out.cell (j := 2) rfl)
          | (go_at_call 25; (with_reducible refine (HE.out _ _ _ H5.out).mono ?_); rintro e w6 ⟨rfl, h6, g6⟩; have H6 := Lib.hid h6; have SF6 := Lib.hid (SF5.out.turn g6); clear h6 g6 k2; have V6 := Lib.hid (V3.out.below SF6.out.bel (Nat.lt_succ_self _)); have k2 := V6.out.cell (j := 2) rfl))
        refine wp_region_is [61, 62, 63, 64, 65, 66] (fun w' => Below w6.heap.size w6 w')
          [.pointer (some ⟨p, 0, none⟩), .int .i64 ((rgs : Int) - 1), .pointer (some ⟨w.heap.size, 2, none⟩), .int .i64 (rgs : Int), .int .i64 ((rgs : Int) - 1), .bool false] (by kernel_rfl) (by kernel_rfl) rfl (by decide) (by simp) (Below.refl _ _).drew ?each ?done
        case each =>
          clear k2
          simp only [Each]
          repeat' (first | exact trivial | refine And.intro ?_ ?_)
          all_goals
            intro ys wx hBx hdeps
            simp only [Deps, Region.binds, List.getD_cons_zero, List.getD_cons_succ, forall_const, and_true] at hdeps
            have c0 : wx.cell? ⟨w.heap.size, 0, none⟩ = some (.int .i64 (pg : Int)) := (V6.out.below hBx V6.out.lt).cell (j := 0) rfl
            have c1 : wx.cell? ⟨w.heap.size, 1, none⟩ = some (.int .i64 (pgs : Int)) := (V6.out.below hBx V6.out.lt).cell (j := 1) rfl
            have c2 : wx.cell? ⟨w.heap.size, 2, none⟩ = some (.int .i64 (rgs : Int)) := (V6.out.below hBx V6.out.lt).cell (j := 2) rfl
            simp only [hdeps, fill, List.foldl_cons, List.foldl_nil, Act.put, List.setIfInBounds_toArray, List.set_cons_succ, List.set_cons_zero]
            first
              | (go_wp2_with fail; exact ⟨_, rfl, rfl, hBx, Below.refl _ _⟩)
              | (go_wp2_with (go_at_call 20; (with_reducible refine (HF.out _ _ _ (H6.out.below hBx)).mono ?_); rintro e w3 ⟨rfl, hm⟩); exact ⟨_, rfl, rfl, hBx.trans (hm.mono hBx.size), hm⟩)
        case done =>
          intro ys wx hBx hV
          have h66 : ys 66 = .bool false := hV 5 (by decide)
          have H7 := Lib.hid (H6.out.below hBx)
          have SF7 := Lib.hid (SF6.out.below hBx)
          clear hBx hV k2
          simp only [h66, fill, List.drop_succ_cons, List.drop_zero, List.foldl_cons, List.foldl_nil, Act.put, List.setIfInBounds_toArray, List.set_cons_succ, List.set_cons_zero]
          go_wp2
          refine ⟨⟨i + 1, by go_num, by omega, H7.out, SF7.out⟩, by simp [intOf]; omega⟩
    · obtain rfl : i = N := by omega
      have d1 : decide ((i : Int) < (i : Int)) = false := by simp
      go_wp2_with (go_at_call 26; (with_reducible refine (HPK.out _).mono ?_); rintro e wz ⟨rfl, rfl⟩)
      go_ret
      exact ⟨rfl, BW3.out.trans (SF.out.bel.mono (Nat.le_succ _))⟩
end Go.Proofs.Ytmkdhehdfdkbjaa.Chart
