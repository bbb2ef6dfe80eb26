/-
  The landed account: Open and Take.
-/
import Derived.Test.YtmkdhehdfdkbjaaChartXc
set_option linter.unusedVariables false
set_option linter.unusedSimpArgs false
namespace Go.Proofs.Ytmkdhehdfdkbjaa.Chart
open Go.RowKit
open Go.Proofs.Ytmkdhehdfdkbjaa.Own
open Tup Foot
open Go.Proofs.Ytmkdhehdfdkbjaa.Region (fill Then Deps Each wp_region_is wp_region_is_tail)

theorem page_ok {c : Ch} (h : c.Ok) {k s : Nat} (hk : k < c.rgs) (hs : s < c.pgs) : Geom.pageG ⟨c.pg, c.pgs, c.rgs⟩ (k : Int) (s : Int) = (((k * c.pgs + s : Nat) : Int), true) := by
  unfold Geom.pageG
  rw [if_pos ⟨geo_right h, by omega, by simp only; omega, by omega, by simp only; omega⟩]
  simp only [Int.natCast_add, Int.natCast_mul]
theorem open_at {c : Ch} (hm : c.max < 2147483647) {r : Nat} (hn : c.next = some r) : openC c = ((r, c.max + 1, true), c.openAt r) := by
  unfold openC; rw [if_neg (by omega), hn]
theorem open_end {c : Ch} (hm : 2147483647 ≤ c.max) : openC c = ((0, 0, false), c) := by unfold openC; rw [if_pos hm]
theorem open_full {c : Ch} (hn : c.next = none) : openC c = ((0, 0, false), c) := by unfold openC; rw [hn]; split <;> rfl
set_option maxRecDepth 100000 in
set_option maxHeartbeats 8000000 in
theorem atOpen_any {w : World} {p : Nat} {c : Ch} {bS cap on : Nat} (h : CAt w p c bS cap on) (hd : c.Ok) :
    Calls Try.prog 27 #[ptr p] w fun e w' => e = .returned (.tuple #[.int .i64 ((openC c).1.1 : Int), .int .u32 ((openC c).1.2.1 : Int), .bool (openC c).1.2.2]) ∧ Left w p bS cap (openC c).2 w' := by
  have HNW := Lib.hid (newest_any h hd)
  have hr1 := hd.r1
  have htop : c.top < c.rgs := topTo_lt (by have := hd.r0; omega)
  have HFF := Lib.hid (fun w' (hb : Below w.heap.size w w') => freeFrom_any (h.below hb) hd c.top (by omega))
  have HC := Lib.hid h
  have HD := Lib.hid hd
  have HNX := Lib.hid (show c.scan c.top 0 c.rgs = c.next from rfl)
  rw [HNX.out] at HFF
  unfold ptr at HNW HFF ⊢
  have hmx := max_le hd
  by_cases hm : 2147483647 ≤ c.max
  · have HE := Lib.hid (open_end hm)
    have d1 : decide (2147483647 ≤ (c.max : Int)) = true := decide_eq_true (by omega)
    clear h hd hm
    generalize c.top = tp at *
    generalize c.max = mx at *
    go_enter Try.func27, Try.ntmps27
    go_wp2_with (go_at_call 48; (with_reducible refine HNW.out.mono ?_); rintro e w4 ⟨rfl, h4⟩)
    go_ret3
    rw [HE.out]
    exact ⟨rfl, left_below HC.out h4⟩
  · have d1 : decide (2147483647 ≤ (c.max : Int)) = false := decide_eq_false (by omega)
    cases hn : c.next with
    | none =>
      have HE := Lib.hid (open_full hn)
      rw [hn, show orZero none = 0 from rfl, show (none : Option Nat).isSome = false from rfl] at HFF
      clear h hd hm hn HNX
      generalize c.top = tp at *
      generalize c.max = mx at *
      go_enter Try.func27, Try.ntmps27
      go_wp2_with (first
        | (go_at_call 48; (with_reducible refine HNW.out.mono ?_); rintro e w4 ⟨rfl, h4⟩)
        | (go_at_call 49; (with_reducible refine (HFF.out _ h4).mono ?_); rintro e w5 ⟨rfl, h5⟩))
      go_ret3
      rw [HE.out]
      exact ⟨rfl, left_below HC.out (bel2 h4 h5)⟩
    | some r =>
      have HE := Lib.hid (open_at (by omega) hn)
      rw [hn, show orZero (some r) = r from rfl, show (some r).isSome = true from rfl] at HFF
      have hrr := (next_lt hd hn).1
      have d2 : decide (r < c.rgs) = true := decide_eq_true hrr
      have HG := Lib.hid (fun w' (hb : Below w.heap.size w w') => (h.below hb).get hd hrr)
      have HV3 := Lib.hid (fun w' (hb : Below w.heap.size w w') => (h.below hb).var.cell (j := 3) rfl)
      have HV := Lib.hid (fun w' (hb : Below w.heap.size w w') => (h.below hb).var)
      have HM := Lib.hid (show ((c.max : Int) + 1) = ((c.max + 1 : Nat) : Int) by omega)
      have hne := h.ne
      have hne2 := Ne.symm h.ne
      clear h hd hm hn HNX
      generalize c.top = tp at *
      obtain ⟨mx, hmx0⟩ : ∃ mx, c.max = mx := ⟨_, rfl⟩
      rw [hmx0] at HM HE hmx d1 HNW
      have HOA := Lib.hid (show c.openAt r = { c.put r (mx + 1) 0 with now := some r } by unfold Ch.openAt; rw [hmx0])
      clear hmx0
      go_enter Try.func27, Try.ntmps27
      go_wp2_with (first
        | (go_at_call 48; (with_reducible refine HNW.out.mono ?_); rintro e w4 ⟨rfl, h4⟩)
        | (go_at_call 49; (with_reducible refine (HFF.out _ h4).mono ?_); rintro e w5 ⟨rfl, h5⟩; have b5 := Lib.hid (bel2 h4 h5); have HGG := HG.out _ b5.out; have e0 := HGG.1; have e1 := HGG.2.1; have f0 := HGG.2.2.1; have f1 := HGG.2.2.2; have v3 := HV3.out _ b5.out; have hp := (HC.out.below b5.out).putAt r (mx + 1) 0; rw [← HM.out] at hp; have HP := Lib.hid hp; clear hp; have v4 := (HV.out _ b5.out).cell (j := 4) rfl; have v5 := (HV.out _ b5.out).cell (j := 5) rfl; have g4 := (HV.out _ b5.out).frozen 4; have g5 := (HV.out _ b5.out).frozen 5; clear HGG))
      go_ret3
      rw [HE.out]
      have hnw := HP.out.1.nowAt r (by omega)
      refine ⟨by rw [HM.out]; rfl, ?_⟩
      rw [HOA.out]
      exact left_then b5.out (on := r) hnw.1 (Grows.trans HP.out.2 hnw.2 (fun _ x => .inl x))
set_option maxRecDepth 100000 in
set_option maxHeartbeats 8000000 in
theorem atTake_any {w : World} {p : Nat} {c : Ch} {bS cap on : Nat} (h : CAt w p c bS cap on) (hd : c.Ok) :
    Calls Try.prog 19 #[ptr p] w fun e w' => e = .returned (.tuple #[.int .i64 ((takeC c).1.1 : Int), .bool (takeC c).1.2]) ∧ Left w p bS cap (takeC c).2 w' := by
  have HL := Lib.hid (atLeft_any h hd)
  have HC := Lib.hid h
  unfold ptr at HL ⊢
  by_cases h0 : c.left = 0
  · have HE := Lib.hid (take_full h0)
    rw [h0] at HL
    clear h hd h0
    go_enter Try.func19, Try.ntmps19
    go_wp2_with (go_at_call 21; (with_reducible refine HL.out.mono ?_); rintro e w4 ⟨rfl, h4⟩)
    go_ret2
    rw [HE.out]
    exact ⟨rfl, left_below HC.out h4⟩
  · obtain ⟨k, hn, hu, hl⟩ := left_open h0
    have HE := Lib.hid (take_open hn hu)
    have hkr := (hd.now k hn).1
    obtain rfl := h.onk k hn
    have hr1 := hd.r1
    have hs0 := hd.s0
    have hs1 := hd.s1
    have hpos : c.us on + 1 < c.pgs := by unfold Ch.slots at hu; omega
    have HAT := Lib.hid (fun w' (hb : Below w.heap.size w w') => at_any (h.below hb) hd (on : Int))
    rw [atV_nat hkr] at HAT
    unfold ptr at HAT
    have HG := Lib.hid (fun w' (hb : Below w.heap.size w w') => (h.below hb).get hd hkr)
    have HV4 := Lib.hid (fun w' (hb : Below w.heap.size w w') => (h.below hb).var.cell (j := 4) rfl)
    have HU := Lib.hid (fun w' (hb : Below w.heap.size w w') => (h.below hb).useAt hd on (c.us on + 1) hkr)
    have HPG := Lib.hid (fun w => Geom.page_any ⟨c.pg, c.pgs, c.rgs⟩ (on : Int) ((c.us on + 1 : Nat) : Int) w)
    rw [page_ok hd hkr hpos] at HPG
    unfold Geom.gV at HPG
    have HM := Lib.hid (show ((c.us on : Int) + 1) = ((c.us on + 1 : Nat) : Int) by omega)
    have hl0 : ((c.left : Int) == 0) = false := by simp; omega
    have HTA := Lib.hid (show c.takeAt on = c.put on (c.ep on) (c.us on + 1) from rfl)
    obtain ⟨us, hus⟩ : ∃ us, c.us on = us := ⟨_, rfl⟩
    rw [hus] at HM HU HPG HE HTA hpos
    have HG2 := Lib.hid (fun w' (hb : Below w.heap.size w w') => (show w'.cell? ⟨bS, on * 2 + 1, none⟩ = some (.int .i64 (us : Int)) by rw [← hus]; exact (HG.out w' hb).2.1))
    have HG3 := Lib.hid (fun w' (hb : Below w.heap.size w w') => (HG.out w' hb).2.2.2)
    clear h hd h0 hn hu hl hus HG
    generalize c.left = lf at *
    obtain ⟨pp, hpp⟩ : ∃ pp, pp = on * c.pgs + (us + 1) := ⟨_, rfl⟩
    rw [← hpp] at HPG HE
    clear hpp
    go_enter Try.func19, Try.ntmps19
    go_wp2_with (first
      | (go_at_call 21; (with_reducible refine HL.out.mono ?_); rintro e w4 ⟨rfl, h4⟩; have b4 := Lib.hid h4; clear h4; have v4 := HV4.out _ b4.out; have e1 := HG2.out _ b4.out; have f1 := HG3.out _ b4.out; have HP := Lib.hid (HU.out _ b4.out))
      | (go_at_call 45; (with_reducible refine (HAT.out _ b4.out).mono ?_); rintro e w5 ⟨rfl, rfl⟩))
    rw [HM.out]
    obtain ⟨w5, hw5⟩ : ∃ w5, w5 = w4.setCell ⟨bS, on * 2 + 1, none⟩ (.int .i64 ((us + 1 : Nat) : Int)) := ⟨_, rfl⟩
    rw [← hw5]
    have HP5 := Lib.hid (show CAt w5 p (c.put on (c.ep on) (us + 1)) bS cap on by rw [hw5]; exact HP.out.1)
    have HQ5 := Lib.hid (show w5.cell? ⟨bS, on * 2 + 1, none⟩ = some (.int .i64 ((us + 1 : Nat) : Int)) by rw [hw5]; exact World.cell?_setCell_same _ _ _ e1)
    have HW5 := Lib.hid (show Grows (foot p bS) w4 w5 by rw [hw5]; exact HP.out.2)
    clear hw5 e1 f1 v4 HP
    generalize hz : ((us + 1 : Nat) : Int) = z at *
    refine wp_region_is [21, 22, 23, 24, 25, 26, 27, 28, 29, 30, 31, 32, 33, 34, 35, 2, 3] (fun w' => Below w5.heap.size w5 w')
      [.pointer (some ⟨p, 0, none⟩), .pointer (some ⟨p, 0, none⟩), .pointer (some ⟨p, 0, none⟩), .agg #[.int .i64 (c.pg : Int), .int .i64 (c.pgs : Int), .int .i64 (c.rgs : Int)], .pointer (some ⟨p, 0, none⟩), .pointer (some ⟨p, 0, none⟩), .pointer (some ⟨p, 4, none⟩), .int .i64 (on : Int), .pointer (some ⟨bS, on * 2, none⟩), .pointer (some ⟨bS, on * 2, none⟩), .pointer (some ⟨bS, on * 2 + 1, none⟩), .int .i64 z, .tuple #[.int .i64 (pp : Int), .bool true], .int .i64 (pp : Int), .bool true, .int .i64 (pp : Int), .bool true] (by kernel_rfl) (by kernel_rfl) rfl (by decide) (by simp) (Below.refl _ _).drew ?each ?done
    case each =>
      simp only [Each]
      repeat' (first | exact trivial | refine And.intro ?_ ?_)
      all_goals
        intro ys wx hBx hdeps
        simp only [Deps, Region.binds, List.getD_cons_zero, List.getD_cons_succ, forall_const, and_true] at hdeps
        have q0 : wx.cell? ⟨p, 0, none⟩ = some (.int .i64 (c.pg : Int)) := (HP5.out.below hBx).var.cell (j := 0) rfl
        have q1 : wx.cell? ⟨p, 1, none⟩ = some (.int .i64 (c.pgs : Int)) := (HP5.out.below hBx).var.cell (j := 1) rfl
        have q2 : wx.cell? ⟨p, 2, none⟩ = some (.int .i64 (c.rgs : Int)) := (HP5.out.below hBx).var.cell (j := 2) rfl
        have q4 : wx.cell? ⟨p, 4, none⟩ = some (.int .i64 (on : Int)) := (HP5.out.below hBx).var.cell (j := 4) rfl
        have q5 : wx.cell? ⟨bS, on * 2 + 1, none⟩ = some (.int .i64 z) := by rw [hBx.cell (p := ⟨bS, on * 2 + 1, none⟩) (block_lt_of_cell HQ5.out)]; exact HQ5.out
        simp only [hdeps, fill, List.foldl_cons, List.foldl_nil, Act.put, List.setIfInBounds_toArray, List.set_cons_succ, List.set_cons_zero]
        first
          | (go_wp2_with fail; exact ⟨_, rfl, rfl, hBx, Below.refl _ _⟩)
          | (go_wp2_with (go_at_call 46; (with_reducible refine (HPG.out _).mono ?_); rintro e w3 ⟨rfl, hn⟩); exact ⟨_, rfl, rfl, bel2 hBx hn, hn⟩)
    case done =>
      intro ys wx hBx hV
      have h2 : ys 2 = .int .i64 (pp : Int) := hV 15 (by decide)
      have h3 : ys 3 = .bool true := hV 16 (by decide)
      have HB5 := Lib.hid hBx
      clear hBx hV
      simp only [h2, h3, fill, List.drop_succ_cons, List.drop_zero, List.foldl_cons, List.foldl_nil, Act.put, List.setIfInBounds_toArray, List.set_cons_succ, List.set_cons_zero]
      go_wp2
      go_ret2
      rw [HE.out]
      refine ⟨rfl, left_then b4.out (on := on) ?_ ((HW5.out).trans (grows_below HB5.out) (fun _ x => .inl x))⟩
      rw [HTA.out]
      exact HP5.out.below HB5.out
end Go.Proofs.Ytmkdhehdfdkbjaa.Chart
