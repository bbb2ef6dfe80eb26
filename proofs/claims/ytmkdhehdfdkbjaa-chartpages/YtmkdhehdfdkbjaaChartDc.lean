/-
  The document's own account: Resume, Open, Take.
-/
import Derived.Test.YtmkdhehdfdkbjaaChartDb
set_option linter.unusedVariables false
set_option linter.unusedSimpArgs false
namespace Go.Proofs.Ytmkdhehdfdkbjaa.Chart
open Go.RowKit
open Go.Proofs.Ytmkdhehdfdkbjaa.Own
open Tup Foot
open Go.Proofs.Ytmkdhehdfdkbjaa.Region (fill Then Deps Each wp_region_is wp_region_is_tail)

theorem maxTo_next {c : Ch} {k B : Nat} (h : c.maxTo k ≤ B) (hk : c.ep k ≤ B) : c.maxTo (k + 1) ≤ B := by
  rw [Ch.maxTo]; split <;> assumption
theorem topTo_in (c : Ch) {k n : Nat} (h : k ≤ n) (hn : 0 < n) : c.topTo k < n := by
  cases k with
  | zero => exact hn
  | succ k => have := topTo_lt (c := c) (k := k + 1) (by omega); omega
theorem around {t k n : Nat} (ht : t < n) (hk : k < n) : ((t + k) % n + n - t) % n = k := by
  by_cases h : t + k < n
  · rw [Nat.mod_eq_of_lt h, show t + k + n - t = k + n by omega, Nat.add_mod_right, Nat.mod_eq_of_lt hk]
  · have e : (t + k) % n = t + k - n := by rw [Nat.mod_eq_sub_mod (by omega), Nat.mod_eq_of_lt (show t + k - n < n by omega)]
    rw [e, show t + k - n + n - t = k by omega, Nat.mod_eq_of_lt hk]
theorem around_next (t k n : Nat) : ((t + k) % n + 1) % n = (t + (k + 1)) % n := by
  rw [Nat.mod_add_mod]; rfl
set_option maxRecDepth 100000 in
set_option maxHeartbeats 8000000 in
theorem refResume_any {w : World} {r : Nat} {c : Ch} {bE capE bU capU : Nat} (h : DAt w r c bE capE bU capU) (hd : c.Ok) (i : Int) :
    Calls Try.prog 34 #[ptr r, .int .i64 i] w fun e w' => e = .returned (.int .i64 ((resumeC c i).1 : Int)) ∧ LeftD w r bE capE bU capU (resumeC c i).2 w' := by
  have HI := Lib.hid (refIs_any h i)
  have HC := Lib.hid h
  have HD := Lib.hid hd
  unfold ptr at HI ⊢
  cases hi : c.is i with
  | false =>
    rw [hi] at HI
    have HE := Lib.hid (show resumeC c i = (1, c) by unfold resumeC; rw [if_pos hi])
    clear h hd hi
    go_enter Try.func34, Try.ntmps34
    go_wp2_with (go_at_call 51; (with_reducible refine HI.out.mono ?_); rintro e w3 ⟨rfl, rfl⟩)
    go_ret
    rw [HE.out]
    exact ⟨rfl, leftD_below HC.out (Below.refl _ _)⟩
  | true =>
    rw [hi] at HI
    obtain ⟨k, rfl, hk⟩ := Ch.is_lt hi
    have hr1 := hd.r1
    have HIF := Lib.hid (show ¬ c.is (k : Int) = false by rw [hi]; simp)
    obtain ⟨e0, f0⟩ := h.getE hd hk
    have v3 := h.var.cell (j := 3) rfl
    have v5 := h.now
    have d6 : decide (k < c.rgs) = true := decide_eq_true hk
    have hnp := nowV_pos c
    by_cases h0 : c.ep k = 0
    · have HE := Lib.hid (show resumeC c k = (7, c) by unfold resumeC; rw [if_neg HIF.out]; simp [h0])
      have d7 : (((c.ep k : Nat) : Int) == 0) = true := by rw [h0]; rfl
      have d8 : (c.ep k == 0) = true := by rw [h0]; rfl
      clear h hd hi h0 hnp
      generalize c.ep k = y at *
      go_enter Try.func34, Try.ntmps34
      go_wp2_with (go_at_call 51; (with_reducible refine HI.out.mono ?_); rintro e w3 ⟨rfl, rfl⟩)
      go_ret
      rw [HE.out]
      exact ⟨rfl, leftD_below HC.out (Below.refl _ _)⟩
    · have d7 : (((c.ep k : Nat) : Int) == 0) = false := by simp; omega
      have d8 : (c.ep k == 0) = false := by simp; omega
      cases hnow : c.now.isSome with
      | true =>
        have HE := Lib.hid (show resumeC c k = (7, c) by unfold resumeC; rw [if_neg HIF.out, if_pos (.inr (.inl hnow))])
        rw [hnow] at hnp
        clear h hd hi h0 hnow
        generalize c.ep k = y at *
        generalize nowV c = m at *
        go_enter Try.func34, Try.ntmps34
        go_wp2_with (go_at_call 51; (with_reducible refine HI.out.mono ?_); rintro e w3 ⟨rfl, rfl⟩)
        go_ret
        rw [HE.out]
        exact ⟨rfl, leftD_below HC.out (Below.refl _ _)⟩
      | false =>
        rw [hnow] at hnp
        have HE1 := Lib.hid (fun (hm : c.ep k < c.max) => show resumeC c k = (7, c) by unfold resumeC; rw [if_neg HIF.out, if_pos (.inr (.inr (by simpa using hm)))])
        have HE2 := Lib.hid (fun (hm : ¬ c.ep k < c.max) => show resumeC c k = (0, { c with now := some k }) by unfold resumeC; rw [if_neg HIF.out, if_neg (by simp only [Int.toNat_natCast, hnow]; simp [h0]; omega)]; rfl)
        obtain ⟨n, hn⟩ : ∃ n, c.rgs = n := ⟨_, rfl⟩
        have HN := Lib.hid hn
        have HMX := Lib.hid (show c.max = c.maxTo n by rw [← hn]; rfl)
        rw [hn] at hr1 hk d6 v3
        have HC3 := Lib.hid (fun wx (hb : Below w.heap.size w wx) => (show wx.cell? ⟨r, 3, none⟩ = some (.slice (some ⟨bE, 0, none⟩) n capE) by rw [← HN.out]; exact (HC.out.below hb).var.cell (j := 3) rfl))
        have HC5 := Lib.hid (fun wx (hb : Below w.heap.size w wx) => (HC.out.below hb).now)
        have HF5 := Lib.hid (fun wx (hb : Below w.heap.size w wx) => (HC.out.below hb).var.frozen 5)
        have HCE := Lib.hid (fun wx (hb : Below w.heap.size w wx) k (hk : k < n) => (show wx.cell? ⟨bE, k, none⟩ = some (.int .u32 (c.ep k : Int)) from ((HC.out.below hb).getE HD.out (by rw [HN.out]; exact hk)).1))
        clear h hd hi h0 hnow hn
        have hy : ∃ y, c.ep k = y := ⟨_, rfl⟩
        obtain ⟨y, hy⟩ := hy
        rw [hy] at HE1 HE2 e0 d7 d8
        have HY := Lib.hid hy
        clear hy
        generalize nowV c = m at *
        go_enter Try.func34, Try.ntmps34
        go_wp2_with (go_at_call 51; (with_reducible refine HI.out.mono ?_); rintro e w3 ⟨rfl, rfl⟩)
        go_loopw [5] (fun i wr => ∃ j : Nat, i = .int .i64 (j : Int) ∧ j ≤ n ∧ c.maxTo j ≤ y ∧ Below w.heap.size w wr) (fun i _ => n - (intOf i).toNat)
        case atStart => exact ⟨0, rfl, Nat.zero_le _, Nat.zero_le _, Below.refl _ _⟩
        case round =>
          obtain ⟨j, rfl, hj, hmj, hB⟩ := hrel
          have HB := Lib.hid hB
          have g3 := HC3.out _ hB
          have g5 := HC5.out _ hB
          have gf := HF5.out _ hB
          have gk := HCE.out _ hB k hk
          rw [HY.out] at gk
          clear e0 f0 v3 v5
          by_cases hlt : j < n
          · have gj := HCE.out _ hB j hlt
            have d1 : decide ((j : Int) < (n : Int)) = true := by simp; omega
            have d2 : decide (j < n) = true := by simp; omega
            have HL := Lib.hid (show c.ep j ≤ c.max by rw [HMX.out]; exact le_maxTo hlt)
            have HNX := Lib.hid (fun h => maxTo_next (c := c) (k := j) (B := y) hmj h)
            clear hmj hB
            generalize c.ep j = x at *
            by_cases hx : y < x
            · have d9 : decide ((y : Int) < (x : Int)) = true := by simp; omega
              have d10 : decide (y < x) = true := decide_eq_true hx
              have HE := Lib.hid (HE1.out (by have := HL.out; omega))
              clear HE1 HE2
              go_wp2
              go_quiet (fail)
              go_wp2
              go_ret
              rw [HE.out]
              exact ⟨rfl, leftD_below HC.out (below_drewN HB.out _)⟩
            · have d9 : decide ((y : Int) < (x : Int)) = false := by simp; omega
              have d10 : decide (y < x) = false := decide_eq_false hx
              have HJ := Lib.hid (HNX.out (by omega))
              clear HE1 HE2 HNX
              go_wp2
              go_quiet (fail)
              go_wp2
              refine ⟨⟨j + 1, by go_num, by omega, HJ.out, below_drewN HB.out _⟩, by simp [intOf]; omega⟩
          · obtain rfl : j = n := by omega
            have d1 : decide ((j : Int) < (j : Int)) = false := by simp
            have HE := Lib.hid (HE2.out (by rw [HMX.out]; omega))
            clear HE1 HE2 hB hmj
            go_wp2
            go_ret
            rw [HE.out]
            have hnw := (HC.out.below HB.out).nowAt k
            exact ⟨rfl, leftD_then HB.out hnw.1 hnw.2⟩
set_option maxRecDepth 100000 in
set_option maxHeartbeats 8000000 in
theorem refTake_any {w : World} {r : Nat} {c : Ch} {bE capE bU capU : Nat} (h : DAt w r c bE capE bU capU) (hd : c.Ok) :
    Calls Try.prog 37 #[ptr r] w fun e w' => e = .returned (.tuple #[.int .i64 ((takeC c).1.1 : Int), .bool (takeC c).1.2]) ∧ LeftD w r bE capE bU capU (takeC c).2 w' := by
  have HL := Lib.hid (refLeft_any h hd)
  have HC := Lib.hid h
  unfold ptr at HL ⊢
  by_cases h0 : c.left = 0
  · have HE := Lib.hid (take_full h0)
    rw [h0] at HL
    clear h hd h0
    go_enter Try.func37, Try.ntmps37
    go_wp2_with (go_at_call 40; (with_reducible refine HL.out.mono ?_); rintro e w4 ⟨rfl, h4⟩)
    go_ret2
    rw [HE.out]
    exact ⟨rfl, leftD_below HC.out h4⟩
  · obtain ⟨k, hn, hu, hl⟩ := left_open h0
    have HE := Lib.hid (take_open hn hu)
    have hkr := (hd.now k hn).1
    have hr1 := hd.r1
    have hs0 := hd.s0
    have hs1 := hd.s1
    have hpos : c.us k + 1 < c.pgs := by unfold Ch.slots at hu; omega
    have HV5 := Lib.hid (fun w' (hb : Below w.heap.size w w') => (show w'.cell? ⟨r, 5, none⟩ = some (.int .i64 (k : Int)) by have := (h.below hb).now; unfold nowV at this; rw [hn] at this; exact this))
    have HV4 := Lib.hid (fun w' (hb : Below w.heap.size w w') => (h.below hb).var.cell (j := 4) rfl)
    have HG := Lib.hid (fun w' (hb : Below w.heap.size w w') => (h.below hb).getU hd hkr)
    have HU := Lib.hid (fun w' (hb : Below w.heap.size w w') => (h.below hb).useAt hd k (c.us k + 1) hkr)
    have hl0 : ((c.left : Int) == 0) = false := by simp; omega
    have HTA := Lib.hid (show c.takeAt k = c.put k (c.ep k) (c.us k + 1) from rfl)
    have d6 : decide (k < c.rgs) = true := decide_eq_true hkr
    have d7 : decide ((k : Int) < 0) = false := decide_eq_false (by omega)
    have HM := Lib.hid (show ((c.us k : Int) + 1) = ((c.us k + 1 : Nat) : Int) by omega)
    have hmul := Geom.mul_le (show (0 : Int) ≤ (k : Int) by omega) (show (k : Int) ≤ 12 by omega) (show (0 : Int) ≤ (c.pgs : Int) by omega) (show (c.pgs : Int) ≤ 10 by omega)
    have HPP := Lib.hid (show (k : Int) * (c.pgs : Int) + ((c.us k + 1 : Nat) : Int) = ((k * c.pgs + (c.us k + 1) : Nat) : Int) by rw [Int.natCast_add (k * c.pgs), Int.natCast_mul])
    have HNW := Lib.hid hn
    obtain ⟨us, hus⟩ : ∃ us, c.us k = us := ⟨_, rfl⟩
    rw [hus] at HM HU HE HTA hpos HG HPP
    clear h hd h0 hn hu hl hus
    generalize c.left = lf at *
    obtain ⟨pp, hpp⟩ : ∃ pp, pp = k * c.pgs + (us + 1) := ⟨_, rfl⟩
    rw [← hpp] at HE HPP
    clear hpp
    go_enter Try.func37, Try.ntmps37
    go_wp2_with (go_at_call 40; (with_reducible refine HL.out.mono ?_); rintro e w4 ⟨rfl, h4⟩)
    have b4 := Lib.hid h4
    clear h4
    refine wp_region_is_tail 12 [7, 8, 9, 10, 11, 12, 13, 14, 15, 16, 17, 18] (fun w' => Below w4.heap.size w4 w')
      [.pointer (some ⟨r, 0, none⟩), .pointer (some ⟨r, 0, none⟩), .pointer (some ⟨r, 4, none⟩), .slice (some ⟨bU, 0, none⟩) c.rgs capU, .pointer (some ⟨r, 0, none⟩), .pointer (some ⟨r, 0, none⟩), .pointer (some ⟨r, 5, none⟩), .int .i64 (k : Int), .pointer (some ⟨bU, k, none⟩), .int .i64 (us : Int), .int .i64 ((us : Int) + 1), .pointer (some ⟨bU, k, none⟩)] (by kernel_rfl) (by kernel_rfl) (by kernel_rfl) (by decide) rfl (by decide) (by simp) (Below.refl _ _).drew ?each ?done
    case each =>
      simp only [List.take_succ_cons, List.take_zero, Each]
      repeat' (first | exact trivial | refine And.intro ?_ ?_)
      all_goals
        intro ys wx hBx hdeps
        simp only [Deps, Region.binds, List.getD_cons_zero, List.getD_cons_succ, forall_const, and_true] at hdeps
        have hb := bel2 b4.out hBx
        have q4 := HV4.out wx hb
        have q5 := HV5.out wx hb
        have q6 := (HG.out wx hb).1
        simp only [hdeps, fill, List.foldl_cons, List.foldl_nil, Act.put, List.setIfInBounds_toArray, List.set_cons_succ, List.set_cons_zero]
        first
          | (go_wp2_with fail; exact ⟨_, rfl, rfl, hBx, Below.refl _ _⟩)
    case done =>
      intro ys wx hBx hV
      have h17 : ys 17 = .int .i64 ((us : Int) + 1) := hV 10 (by decide)
      have h18 : ys 18 = .pointer (some ⟨bU, k, none⟩) := hV 11 (by decide)
      have B5 := Lib.hid (bel2 b4.out hBx)
      have e1 := (HG.out _ B5.out).1
      have f1 := (HG.out _ B5.out).2
      have HP := Lib.hid (HU.out _ B5.out)
      clear hBx hV
      simp only [h17, h18, fill, List.drop_succ_cons, List.drop_zero, List.foldl_cons, List.foldl_nil, Act.put, List.setIfInBounds_toArray, List.set_cons_succ, List.set_cons_zero]
      go_wp2
      rw [HM.out]
      obtain ⟨w5, hw5⟩ : ∃ w5, w5 = wx.setCell ⟨bU, k, none⟩ (.int .i64 ((us + 1 : Nat) : Int)) := ⟨_, rfl⟩
      rw [← hw5]
      have HP5 := Lib.hid (show DAt w5 r (c.put k (c.ep k) (us + 1)) bE capE bU capU by rw [hw5]; exact HP.out.1)
      have q0 := HP5.out.var.cell (j := 1) rfl
      have q4 := HP5.out.var.cell (j := 4) rfl
      have q5 : w5.cell? ⟨r, 5, none⟩ = some (.int .i64 (k : Int)) := by
        have := HP5.out.now
        unfold nowV at this
        rw [show (c.put k (c.ep k) (us + 1)).now = some k from HNW.out] at this
        exact this
      have q6 : w5.cell? ⟨bU, k, none⟩ = some (.int .i64 ((us + 1 : Nat) : Int)) := by rw [hw5]; exact World.cell?_setCell_same _ _ _ e1
      have HW5 := Lib.hid (show Grows (footD r bE bU) wx w5 by rw [hw5]; exact HP.out.2)
      have q0' : w5.cell? ⟨r, 1, none⟩ = some (.int .i64 (c.pgs : Int)) := q0
      have q4' : w5.cell? ⟨r, 4, none⟩ = some (.slice (some ⟨bU, 0, none⟩) c.rgs capU) := q4
      clear hw5 e1 f1 HP q0 q4
      generalize hz : ((us + 1 : Nat) : Int) = z at *
      have hz1 : 0 ≤ z ∧ z ≤ 12 := by omega
      go_quiet (fail)
      go_wp2
      go_ret2
      rw [HE.out]
      refine ⟨by rw [HPP.out]; rfl, leftD_then B5.out ?_ (HW5.out.trans (grows_below (below_drewN (Below.refl _ _) _)) (fun _ x => .inl x))⟩
      rw [HTA.out]
      exact HP5.out.below (below_drewN (Below.refl _ _) _)
set_option maxRecDepth 100000 in
set_option maxHeartbeats 16000000 in
theorem refOpen_any {w : World} {r : Nat} {c : Ch} {bE capE bU capU : Nat} (h : DAt w r c bE capE bU capU) (hd : c.Ok) :
    Calls Try.prog 35 #[ptr r] w fun e w' => e = .returned (.tuple #[.int .i64 ((openC c).1.1 : Int), .int .u32 ((openC c).1.2.1 : Int), .bool (openC c).1.2.2]) ∧ LeftD w r bE capE bU capU (openC c).2 w' := by
  have HC := Lib.hid h
  have HD := Lib.hid hd
  have hr1 := hd.r1
  have hr0 := hd.r0
  have hmx := max_le hd
  obtain ⟨n, hn⟩ : ∃ n, c.rgs = n := ⟨_, rfl⟩
  have HN := Lib.hid hn
  have HMX := Lib.hid (show c.max = c.maxTo n by rw [← hn]; rfl)
  have HTP := Lib.hid (show c.top = c.topTo n by rw [← hn]; rfl)
  have HNT := Lib.hid (show c.next = c.scan c.top 0 n by rw [← hn]; rfl)
  rw [hn] at hr1 hr0
  have HF := Lib.hid (fun wx (hb : Below w.heap.size w wx) => refFree_any (h.below hb) hd)
  have HSF := Lib.hid (show c.next = none ↔ c.free = 0 from scan_free (by rw [hn]; omega))
  have HC3 := Lib.hid (fun wx (hb : Below w.heap.size w wx) => (show wx.cell? ⟨r, 3, none⟩ = some (.slice (some ⟨bE, 0, none⟩) n capE) by rw [← HN.out]; exact (HC.out.below hb).var.cell (j := 3) rfl))
  have HC4 := Lib.hid (fun wx (hb : Below w.heap.size w wx) => (show wx.cell? ⟨r, 4, none⟩ = some (.slice (some ⟨bU, 0, none⟩) n capU) by rw [← HN.out]; exact (HC.out.below hb).var.cell (j := 4) rfl))
  have HC5 := Lib.hid (fun wx (hb : Below w.heap.size w wx) => (HC.out.below hb).now)
  have HF5 := Lib.hid (fun wx (hb : Below w.heap.size w wx) => (HC.out.below hb).var.frozen 5)
  have HCE := Lib.hid (fun wx (hb : Below w.heap.size w wx) k (hk : k < n) => (show wx.cell? ⟨bE, k, none⟩ = some (.int .u32 (c.ep k : Int)) ∧ wx.frozen? ⟨bE, k, none⟩ = false from (HC.out.below hb).getE HD.out (by rw [HN.out]; exact hk)))
  have HCU := Lib.hid (fun wx (hb : Below w.heap.size w wx) k (hk : k < n) => (show wx.cell? ⟨bU, k, none⟩ = some (.int .i64 (c.us k : Int)) ∧ wx.frozen? ⟨bU, k, none⟩ = false from (HC.out.below hb).getU HD.out (by rw [HN.out]; exact hk)))
  have n1 := h.neE
  have n2 := h.neU
  have n3 := h.ne
  have n4 := Ne.symm h.neE
  have n5 := Ne.symm h.neU
  have n6 := Ne.symm h.ne
  have hfl := cntTo_le c c.rgs
  unfold ptr at HF ⊢
  clear h hd hn
  go_enter Try.func35, Try.ntmps35
  go_wp2
  go_loopw [5, 6] (fun a i wr => ∃ k : Nat, i = .int .i64 (k : Int) ∧ k ≤ n ∧ a = .int .i64 (c.topTo k : Int) ∧ Below w.heap.size w wr) (fun _ i _ => n - (intOf i).toNat)
  case atStart => exact ⟨0, rfl, Nat.zero_le _, rfl, Below.refl _ _⟩
  case round =>
    obtain ⟨k, rfl, hk, rfl, hB⟩ := hrel
    have HB := Lib.hid hB
    have g3 := HC3.out _ hB
    have htn := topTo_in c hk (by omega)
    have gt := (HCE.out _ hB _ htn).1
    have d3 : decide (c.topTo k < n) = true := decide_eq_true htn
    by_cases hlt : k < n
    · have gk := (HCE.out _ hB k hlt).1
      have d1 : decide ((k : Int) < (n : Int)) = true := by simp; omega
      have d2 : decide (k < n) = true := by simp; omega
      have HT := Lib.hid (topTo_next c k)
      clear hB
      generalize c.ep (c.topTo k) = y at *
      generalize c.ep k = x at *
      generalize c.topTo k = t at *
      by_cases hx : y < x
      · have d9 : decide ((y : Int) < (x : Int)) = true := by simp; omega
        have d10 : decide (y < x) = true := decide_eq_true hx
        rw [if_pos hx] at HT
        go_wp2
        go_quiet (fail)
        go_wp2
        refine ⟨⟨k + 1, by go_num, by omega, by rw [HT.out], below_drewN HB.out _⟩, by simp [intOf]; omega⟩
      · have d9 : decide ((y : Int) < (x : Int)) = false := by simp; omega
        have d10 : decide (y < x) = false := decide_eq_false hx
        rw [if_neg hx] at HT
        go_wp2
        go_quiet (fail)
        go_wp2
        refine ⟨⟨k + 1, by go_num, by omega, by rw [HT.out], below_drewN HB.out _⟩, by simp [intOf]; omega⟩
    · obtain rfl : k = n := by omega
      have d1 : decide ((k : Int) < (k : Int)) = false := by simp
      have hep : c.ep (c.topTo k) = c.max := by rw [HMX.out]; exact ep_topTo (by omega)
      rw [← HTP.out] at gt htn d3 hep
      rw [← HTP.out]
      rw [hep] at gt
      have HEP := Lib.hid hep
      have HFb := Lib.hid (HF.out _ hB)
      have hmn : c.max + 1 < 4294967296 := by omega
      clear hB hep
      by_cases hf : c.free = 0
      · have HE := Lib.hid (open_full (HSF.out.2 hf))
        rw [hf] at HFb
        clear hf
        generalize c.max = mx at *
        generalize c.top = tp at *
        go_wp2_with (go_at_call 39; (with_reducible refine HFb.out.mono ?_); rintro e w5 ⟨rfl, rfl⟩)
        go_ret3
        rw [HE.out]
        exact ⟨rfl, leftD_below HC.out HB.out⟩
      · have df : ((c.free : Int) == 0) = false := by simp; omega
        by_cases hm : 2147483647 ≤ c.max
        · have HE := Lib.hid (open_end hm)
          have d4 : decide (2147483647 < ((c.max : Int) + 1)) = true := decide_eq_true (by omega)
          clear hf
          generalize c.max = mx at *
          generalize c.top = tp at *
          generalize c.free = fr at *
          go_wp2_with (go_at_call 39; (with_reducible refine HFb.out.mono ?_); rintro e w5 ⟨rfl, rfl⟩)
          go_ret3
          rw [HE.out]
          exact ⟨rfl, leftD_below HC.out HB.out⟩
        · have d4 : decide (2147483647 < ((c.max : Int) + 1)) = false := decide_eq_false (by omega)
          obtain ⟨q, hq⟩ : ∃ q, c.next = some q := by
            cases hx : c.next with
            | none => exact absurd (HSF.out.1 hx) hf
            | some q => exact ⟨q, rfl⟩
          have HE := Lib.hid (open_at (by omega) hq)
          have HM := Lib.hid (show ((c.max : Int) + 1) = ((c.max + 1 : Nat) : Int) by omega)
          have HOA := Lib.hid (show c.openAt q = { c.put q (c.max + 1) 0 with now := some q } by unfold Ch.openAt; rfl)
          have hqn : q < k := by rw [← HN.out]; exact (next_lt HD.out hq).1
          rw [hq] at HNT
          have HQ := Lib.hid hq
          have dk : ((k : Int) == 0) = false := by simp; omega
          have dk2 : (k == 0) = false := by simp; omega
          have HST : Hid (∃ k2, k2 < k ∧ (if c.max = 0 then 0 else (c.top + 1) % k) = (c.top + k2) % k ∧ some q = c.scan c.top k2 (k - k2)) := by
            by_cases h0 : c.max = 0
            · refine ⟨0, by omega, ?_, HNT.out⟩
              have : c.top = 0 := topTo_zero h0
              rw [if_pos h0, this]; simp
            · refine ⟨1, by omega, by rw [if_neg h0], ?_⟩
              have hm := scan_miss (c := c) (first := c.top) (i := 0) (n := k - 1) (by rw [HN.out, Nat.add_zero, Nat.mod_eq_of_lt htn, HEP.out]; exact h0)
              rw [show k - 1 + 1 = k by omega] at hm
              rw [← hm]; exact HNT.out
          have HCEk := Lib.hid (fun a (ha : a < k) => HCE.out _ HB.out a ha)
          have HCUk := Lib.hid (fun a (ha : a < k) => HCU.out _ HB.out a ha)
          have g4 := HC4.out _ HB.out
          have g5 := HC5.out _ HB.out
          have f5 := HF5.out _ HB.out
          have HP := Lib.hid ((HC.out.below HB.out).putAt q (c.max + 1) 0)
          rw [← HM.out] at HP
          have hmx0 : (c.max = 0 ∧ ((c.max : Int) == 0) = true) ∨ (¬ c.max = 0 ∧ ((c.max : Int) == 0) = false) := by
            by_cases h0 : c.max = 0
            · exact .inl ⟨h0, by rw [h0]; rfl⟩
            · exact .inr ⟨h0, by simp; omega⟩
          obtain ⟨s0, hs0⟩ : ∃ s0, s0 = (if c.max = 0 then 0 else (c.top + 1) % k) := ⟨_, rfl⟩
          rw [← hs0] at HST
          have hm1 : c.max = 0 → ((k : Int) - 1 + 1).tmod (k : Int) = (s0 : Int) := fun h0 => by rw [hs0, if_pos h0, Int.sub_add_cancel, Int.tmod_self]; rfl
          have hm1' : c.max = 0 → s0 = 0 := fun h0 => by rw [hs0, if_pos h0]
          have hm2 : ¬ c.max = 0 → ((c.top : Int) + 1).tmod (k : Int) = (s0 : Int) := fun h0 => by rw [hs0, if_neg h0]; exact rem_nat c.top 1 k
          have HMS := Lib.hid (fun k2 (h2 : k2 < k) => around htn h2)
          have HNXT := Lib.hid (fun k2 => around_next c.top k2 k)
          have HSH := Lib.hid (fun k2 nn => scan_hit (c := c) (first := c.top) (i := k2) (n := nn))
          have HSM := Lib.hid (fun k2 nn => scan_miss (c := c) (first := c.top) (i := k2) (n := nn))
          rw [HN.out] at HSH HSM
          clear hf hq hs0 HSF HNT hm
          obtain ⟨mx, hmxe⟩ : ∃ mx, c.max = mx := ⟨_, rfl⟩
          rw [hmxe] at HM HE HOA HP hmx0 hm1 hm1' hm2 d4 gt hmn hmx
          clear HMX HEP hmxe
          generalize c.free = fr at *
          rcases hmx0 with ⟨hz, dz⟩ | ⟨hz, dz⟩
          all_goals
            first
              | (have hm3 := hm1 hz; have hs3 := hm1' hz)
              | (have hm3 := hm2 hz)
            clear hm1 hm1' hm2
            have HZ := Lib.hid hz
            clear hz
            go_wp2_with (go_at_call 39; (with_reducible refine HFb.out.mono ?_); rintro e w5 ⟨rfl, rfl⟩)
            go_loop [8] (fun a => ∃ k2 : Nat, k2 < k ∧ a = .int .i64 (((c.top + k2) % k : Nat) : Int) ∧ some q = c.scan c.top k2 (k - k2)) (fun a => k - (((intOf a).toNat + k - c.top) % k))
            case atStart =>
              obtain ⟨k2, h1, h2, h3⟩ := HST.out
              refine ⟨k2, h1, ?_, h3⟩
              first
                | (rw [← h2]; done)
                | (rw [← h2]; rfl)
                | (rw [← h2, hs3]; rfl)
            case round =>
              obtain ⟨k2, hk2, rfl, hsc⟩ := hrel
              have HSC := Lib.hid hsc
              have HNX2 := Lib.hid (HNXT.out k2)
              have HM2 := Lib.hid (HMS.out k2 hk2)
              have HH := Lib.hid (HSH.out k2 (k - k2 - 1))
              have HS2 := Lib.hid (HSM.out k2 (k - k2 - 1))
              rw [show k - k2 - 1 + 1 = k - k2 by omega] at HH HS2
              obtain ⟨a, ha⟩ : ∃ a, a = (c.top + k2) % k := ⟨_, rfl⟩
              have hak : a < k := by rw [ha]; exact Nat.mod_lt _ (by omega)
              rw [← ha] at HNX2 HM2 HH HS2
              rw [← ha]
              have HA := Lib.hid ha
              obtain ⟨ea, fa⟩ := HCEk.out a hak
              obtain ⟨eu, fu⟩ := HCUk.out a hak
              have da : decide (a < k) = true := decide_eq_true hak
              have hm4 := rem_nat a 1 k
              have hm5 : ((a : Int) + 1).tmod (k : Int) = (((a + 1) % k : Nat) : Int) := hm4
              rw [HNX2.out] at hm5
              clear hsc ha hm4
              by_cases hx : c.ep a = 0
              · have hqa : q = a := by have := HSC.out.trans (HH.out hx); simpa using this
                subst hqa
                have dx : (((c.ep q : Nat) : Int) == 0) = true := by rw [hx]; rfl
                have dx1 : (((c.ep q : Nat) : Int) != 0) = false := by simp only [bne, dx]; rfl
                have dx2 : (c.ep q == 0) = true := by rw [hx]; rfl
                clear hx
                have hp5 := HP.out.1.var.frozen 5
                generalize c.ep q = x at *
                generalize c.us q = u at *
                go_wp2
                go_ret3
                rw [HE.out]
                have hnw := HP.out.1.nowAt q
                refine ⟨by rw [HM.out]; rfl, ?_⟩
                rw [HOA.out]
                exact leftD_then HB.out hnw.1 (Grows.trans HP.out.2 hnw.2 (fun _ x => .inl x))
              · have dx : (((c.ep a : Nat) : Int) == 0) = false := by simp; omega
                have dx1 : (((c.ep a : Nat) : Int) != 0) = true := by simp only [bne, dx]; rfl
                have dx2 : (c.ep a == 0) = false := by simp; omega
                have HT := Lib.hid (HSC.out.trans (HS2.out hx))
                have hk3 : k2 + 1 < k := by
                  rcases Nat.lt_or_ge (k2 + 1) k with h | h
                  · exact h
                  · have := HT.out
                    rw [show k - k2 - 1 = 0 by omega] at this
                    simp [Ch.scan] at this
                have HM3 := Lib.hid (HMS.out (k2 + 1) hk3)
                clear hx
                generalize c.ep a = x at *
                generalize c.us a = u at *
                go_wp2
                go_round
                case rel => exact ⟨k2 + 1, hk3, rfl, by rw [show k - (k2 + 1) = k - k2 - 1 by omega]; exact HT.out⟩
                case measure =>
                  show k - (((((c.top + (k2 + 1)) % k : Nat) : Int).toNat + k - c.top) % k) < k - (((a : Int).toNat + k - c.top) % k)
                  rw [Int.toNat_natCast, Int.toNat_natCast, HM3.out, HM2.out]; omega
end Go.Proofs.Ytmkdhehdfdkbjaa.Chart
