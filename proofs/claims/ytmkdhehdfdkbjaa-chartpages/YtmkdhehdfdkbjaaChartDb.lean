/-
  The document's own account: what turns it, and the oldest region.
-/
import Derived.Test.YtmkdhehdfdkbjaaChartD
set_option linter.unusedVariables false
set_option linter.unusedSimpArgs false
namespace Go.Proofs.Ytmkdhehdfdkbjaa.Chart
open Go.RowKit
open Go.Proofs.Ytmkdhehdfdkbjaa.Own
open Tup Foot
open Go.Proofs.Ytmkdhehdfdkbjaa.Region (fill Then Deps Each wp_region_is wp_region_is_tail)

def nowV (c : Ch) : Int := match c.now with | none => -1 | some k => (k : Int)
theorem nowV_eq (c : Ch) (k : Nat) : (((k : Nat) : Int) == nowV c) = decide (c.now = some k) := by
  unfold nowV
  cases c.now with
  | none => simp
  | some j => by_cases e : j = k
              · subst e; simp
              · have : ¬ ((k : Int) = (j : Int)) := by omega
                simp [e, this]
theorem nowV_pos (c : Ch) : decide (0 ≤ nowV c) = c.now.isSome := by
  unfold nowV
  cases c.now with
  | none => rfl
  | some j => simp
theorem nowV_lo (c : Ch) : -1 ≤ nowV c := by unfold nowV; cases c.now <;> simp only <;> omega
theorem nowV_hi {c : Ch} (h : c.Ok) : nowV c < 1000 := by
  unfold nowV
  cases hn : c.now with
  | none => simp only; omega
  | some k => have := (h.now k hn).1; have := h.r1; simp only; omega
theorem DAt.now {w : World} {r : Nat} {c : Ch} {bE capE bU capU : Nat} (h : DAt w r c bE capE bU capU) : w.cell? ⟨r, 5, none⟩ = some (.int .i64 (nowV c)) := h.var.cell (j := 5) rfl
def LeftD (w : World) (r bE capE bU capU : Nat) (c : Ch) (w' : World) : Prop := Grows (footD r bE bU) w w' ∧ DAt w' r c bE capE bU capU
theorem leftD_below {w w' : World} {r : Nat} {c : Ch} {bE capE bU capU : Nat} (h : DAt w r c bE capE bU capU) (hb : Below w.heap.size w w') : LeftD w r bE capE bU capU c w' := ⟨grows_below hb, h.below hb⟩
theorem leftD_then {w w1 w' : World} {r : Nat} {c : Ch} {bE capE bU capU : Nat} (hb : Below w.heap.size w w1) (h : DAt w' r c bE capE bU capU) (g : Grows (footD r bE bU) w1 w') : LeftD w r bE capE bU capU c w' :=
  ⟨(grows_below hb).trans g (fun _ x => .inl x), h⟩
def oldV (c : Ch) (k : Nat) : Int := match c.oldTo k with | none => -1 | some j => (j : Int)
theorem oldV_some {c : Ch} {k j : Nat} (h : c.oldTo k = some j) : oldV c k = (j : Int) := by unfold oldV; rw [h]
theorem oldV_none {c : Ch} {k : Nat} (h : c.oldTo k = none) : oldV c k = -1 := by unfold oldV; rw [h]
theorem oldV_same {c : Ch} {k i : Nat} (h : c.oldTo k = c.oldTo i) : oldV c k = oldV c i := by unfold oldV; rw [h]
theorem oldV_lo (c : Ch) (k : Nat) : -1 ≤ oldV c k ∧ oldV c k < k + 1 := by
  unfold oldV
  cases h : c.oldTo k with
  | none => simp only; omega
  | some j => have := oldTo_lt h; simp only; omega
theorem old_end (c : Ch) : max (oldV c c.rgs) 0 = ((oldestC c).1 : Int) ∧ decide (0 ≤ oldV c c.rgs) = (oldestC c).2 := by
  unfold oldV oldestC
  cases c.oldTo c.rgs with
  | none => exact ⟨rfl, rfl⟩
  | some j => simp only; exact ⟨by omega, by simp⟩
set_option maxRecDepth 100000 in
set_option maxHeartbeats 16000000 in
theorem refOldest_any {w : World} {r : Nat} {c : Ch} {bE capE bU capU : Nat} (h : DAt w r c bE capE bU capU) (hd : c.Ok) :
    Calls Try.prog 38 #[ptr r] w fun e w' => e = .returned (.tuple #[.int .i64 ((oldestC c).1 : Int), .bool (oldestC c).2]) ∧ Below w.heap.size w w' := by
  have HC := Lib.hid h
  have HD := Lib.hid hd
  have r1 := hd.r1
  have HEND := Lib.hid (old_end c)
  have HNE := Lib.hid (nowV_eq c)
  have nlo := nowV_lo c
  have nhi := nowV_hi hd
  obtain ⟨n, hn⟩ : ∃ n, c.rgs = n := ⟨_, rfl⟩
  have HN := Lib.hid hn
  rw [hn] at r1 HEND
  obtain ⟨m, hm⟩ : ∃ m, nowV c = m := ⟨_, rfl⟩
  rw [hm] at nlo nhi HNE
  have HM := Lib.hid hm
  have HC3 := Lib.hid (fun wx (hb : Below w.heap.size w wx) => (show wx.cell? ⟨r, 3, none⟩ = some (.slice (some ⟨bE, 0, none⟩) n capE) by rw [← HN.out]; exact (HC.out.below hb).var.cell (j := 3) rfl))
  have HC5 := Lib.hid (fun wx (hb : Below w.heap.size w wx) => (show wx.cell? ⟨r, 5, none⟩ = some (.int .i64 m) by rw [← HM.out]; exact (HC.out.below hb).now))
  have HCE := Lib.hid (fun wx (hb : Below w.heap.size w wx) k (hk : k < n) => (show wx.cell? ⟨bE, k, none⟩ = some (.int .u32 (c.ep k : Int)) from ((HC.out.below hb).getE HD.out (by rw [HN.out]; exact hk)).1))
  unfold ptr
  clear h hd hn hm
  go_enter Try.func38, Try.ntmps38
  go_wp2
  go_loopw [4, 5] (fun a i wr => ∃ k : Nat, i = .int .i64 (k : Int) ∧ k ≤ n ∧ a = .int .i64 (oldV c k) ∧ Below w.heap.size w wr) (fun _ i _ => n - (intOf i).toNat)
  case atStart => exact ⟨0, rfl, Nat.zero_le _, rfl, Below.refl _ _⟩
  case round =>
    obtain ⟨k, rfl, hk, rfl, hB⟩ := hrel
    have HB := Lib.hid hB
    have c3 := HC3.out _ hB
    have c5 := HC5.out _ hB
    obtain ⟨olo, ohi⟩ := oldV_lo c k
    by_cases hlt : k < n
    · have e0 := HCE.out _ hB k hlt
      have d1 : decide ((k : Int) < (n : Int)) = true := by simp; omega
      have d2 : decide (k < n) = true := by simp; omega
      have hne := HNE.out k
      have HS := Lib.hid (fun h => oldV_same (old_skip (c := c) (k := k) h))
      have H1 := Lib.hid (fun h hn => oldV_some (old_first (c := c) (k := k) h hn))
      have H2 := Lib.hid (fun j h hn hl => oldV_some (old_less (c := c) (k := k) (j := j) h hn hl))
      have H3 := Lib.hid (fun j h hn hl => oldV_some (old_more (c := c) (k := k) (j := j) h hn hl))
      by_cases hx : c.ep k = 0
      · have HE := Lib.hid (HS.out (.inl hx))
        have d3 : (((c.ep k : Nat) : Int) == 0) = true := by rw [hx]; rfl
        have d4 : (c.ep k == 0) = true := by rw [hx]; rfl
        have d5 : (((c.ep k : Nat) : Int) != 0) = false := by simp only [bne, d3]; rfl
        clear hx HS H1 H2 H3 hB hne
        generalize c.ep k = x at *
        generalize oldV c k = v at *
        go_wp2
        go_quiet (fail)
        go_wp2
        refine ⟨⟨k + 1, by go_num, by omega, by rw [HE.out], below_drewN HB.out _⟩, by simp [intOf]; omega⟩
      · have d3 : (((c.ep k : Nat) : Int) == 0) = false := by simp; omega
        have d4 : (c.ep k == 0) = false := by simp; omega
        have d5 : (((c.ep k : Nat) : Int) != 0) = true := by simp only [bne, d3]; rfl
        by_cases hno : c.now = some k
        · have HE := Lib.hid (HS.out (.inr hno))
          rw [show decide (c.now = some k) = true by simp [hno]] at hne
          have hne2 : (((k : Nat) : Int) != m) = false := by simp only [bne, hne]; rfl
          clear hx HS H1 H2 H3 hB hno
          generalize c.ep k = x at *
          generalize oldV c k = v at *
          go_wp2
          go_quiet (fail)
          go_wp2
          refine ⟨⟨k + 1, by go_num, by omega, by rw [HE.out], below_drewN HB.out _⟩, by simp [intOf]; omega⟩
        · rw [show decide (c.now = some k) = false by simp [hno]] at hne
          have hne2 : (((k : Nat) : Int) != m) = true := by simp only [bne, hne]; rfl
          have hnot : ¬ (c.ep k = 0 ∨ c.now = some k) := by simp [hx, hno]
          cases hol : c.oldTo k with
          | none =>
            have HE := Lib.hid (H1.out hnot hol)
            have hv := oldV_none hol
            rw [hv]
            clear hx HS H1 H2 H3 hB hno hnot hol olo ohi hv
            generalize c.ep k = x at *
            go_wp2
            go_quiet (fail)
            go_wp2
            refine ⟨⟨k + 1, by go_num, by omega, by rw [HE.out], below_drewN HB.out _⟩, by simp [intOf]; omega⟩
          | some j =>
            have hjk := oldTo_lt hol
            have hjn : j < n := by omega
            have e1 := HCE.out _ hB j hjn
            have d7 : decide (j < n) = true := decide_eq_true hjn
            have d8 : decide ((j : Int) < 0) = false := decide_eq_false (by omega)
            have hv := oldV_some hol
            rw [hv]
            by_cases hl : c.ep k < c.ep j
            · have d9 : decide ((c.ep k : Int) < (c.ep j : Int)) = true := by simp; omega
              have d10 : decide (c.ep k < c.ep j) = true := decide_eq_true hl
              have HE := Lib.hid (H2.out j hnot hol hl)
              clear hx HS H1 H2 H3 hB hno hnot hol olo ohi hv hl
              generalize c.ep k = x at *
              generalize c.ep j = y at *
              go_wp2
              go_quiet (fail)
              go_wp2
              refine ⟨⟨k + 1, by go_num, by omega, by rw [HE.out], below_drewN HB.out _⟩, by simp [intOf]; omega⟩
            · have d9 : decide ((c.ep k : Int) < (c.ep j : Int)) = false := by simp; omega
              have d10 : decide (c.ep k < c.ep j) = false := decide_eq_false hl
              have HE := Lib.hid (H3.out j hnot hol hl)
              clear hx HS H1 H2 H3 hB hno hnot hol olo ohi hv hl
              generalize c.ep k = x at *
              generalize c.ep j = y at *
              go_wp2
              go_quiet (fail)
              go_wp2
              refine ⟨⟨k + 1, by go_num, by omega, by rw [HE.out], below_drewN HB.out _⟩, by simp [intOf]; omega⟩
    · obtain rfl : k = n := by omega
      have d1 : decide ((k : Int) < (k : Int)) = false := by simp
      have hmx := fun w ts t => max2 (P := Try.prog) w ts t (oldV c k) 0 ((oldestC c).1 : Int) HEND.out.1.symm
      have D2 := Lib.hid (show decide (0 ≤ oldV c k) = (oldestC c).2 from HEND.out.2)
      clear hB
      generalize oldV c k = v at *
      go_wp2
      go_ret2
      rw [← D2.out]
      exact ⟨rfl, HB.out⟩
set_option maxRecDepth 100000 in
set_option maxHeartbeats 8000000 in
theorem refSet_any {w : World} {r : Nat} {c : Ch} {bE capE bU capU : Nat} (h : DAt w r c bE capE bU capU) (hd : c.Ok) (i : Int) (x : Nat) (u : Int) :
    Calls Try.prog 33 #[ptr r, .int .i64 i, .int .u32 (x : Int), .int .i64 u] w fun e w' => e = .returned (.int .i64 ((setC c i x u).1 : Int)) ∧ LeftD w r bE capE bU capU (setC c i x u).2 w' := by
  have HI := Lib.hid (refIs_any h i)
  have HC := Lib.hid h
  have HD := Lib.hid hd
  have c0 := h.var.cell (j := 0) rfl
  have c1 := h.var.cell (j := 1) rfl
  have c2 := h.var.cell (j := 2) rfl
  have HS := Lib.hid (fun w => Geom.refSlots_any ⟨c.pg, c.pgs, c.rgs⟩ (Geom.right_small.mp (geo_right hd)) w)
  rw [geo_slots hd] at HS
  unfold Geom.gV at HS
  unfold ptr at HI ⊢
  cases hi : c.is i with
  | false =>
    rw [hi] at HI
    have HE := Lib.hid (show setC c i x u = (1, c) by unfold setC; rw [if_pos (.inl hi)])
    clear h hd hi
    go_enter Try.func33, Try.ntmps33
    go_wp2_with (go_at_call 51; (with_reducible refine HI.out.mono ?_); rintro e w3 ⟨rfl, rfl⟩)
    go_ret
    rw [HE.out]
    exact ⟨rfl, leftD_below HC.out (Below.refl _ _)⟩
  | true =>
    rw [hi] at HI
    obtain ⟨k, rfl, hk⟩ := Ch.is_lt hi
    have hs1 := hd.s1
    have hsl : c.slots ≤ 9 := by unfold Ch.slots; omega
    have hr1 := hd.r1
    by_cases hx : x < 1 ∨ 2147483647 < x
    · have HE := Lib.hid (show setC c k x u = (1, c) by unfold setC; rw [if_pos (.inr (by omega))])
      have hd12 : decide ((x : Int) < 1) = true ∨ (decide ((x : Int) < 1) = false ∧ decide (2147483647 < (x : Int)) = true) := by simp only [decide_eq_true_eq, decide_eq_false_iff_not]; omega
      clear h hd hi hx
      rcases hd12 with d1 | ⟨d1, d2⟩
      all_goals
        go_enter Try.func33, Try.ntmps33
        go_wp2_with (go_at_call 51; (with_reducible refine HI.out.mono ?_); rintro e w3 ⟨rfl, rfl⟩)
        go_ret
        rw [HE.out]
        exact ⟨rfl, leftD_below HC.out (Below.refl _ _)⟩
    · have d1 : decide ((x : Int) < 1) = false := decide_eq_false (by omega)
      have d2 : decide (2147483647 < (x : Int)) = false := decide_eq_false (by omega)
      by_cases hu : u < 0
      · have HE := Lib.hid (show setC c k x u = (1, c) by unfold setC; rw [if_pos (.inr (.inr (.inr (.inl hu))))])
        have d3 : decide (u < 0) = true := decide_eq_true hu
        clear h hd hi hx
        go_enter Try.func33, Try.ntmps33
        go_wp2_with (go_at_call 51; (with_reducible refine HI.out.mono ?_); rintro e w3 ⟨rfl, rfl⟩)
        go_ret
        rw [HE.out]
        exact ⟨rfl, leftD_below HC.out (Below.refl _ _)⟩
      · have d3 : decide (u < 0) = false := decide_eq_false hu
        by_cases hus : (c.slots : Int) < u
        · have HE := Lib.hid (show setC c k x u = (1, c) by unfold setC; rw [if_pos (.inr (.inr (.inr (.inr hus))))])
          have d4 : decide ((c.slots : Int) < u) = true := decide_eq_true hus
          clear h hd hi hx
          go_enter Try.func33, Try.ntmps33
          go_wp2_with (first
            | (go_at_call 51; (with_reducible refine HI.out.mono ?_); rintro e w3 ⟨rfl, rfl⟩)
            | (go_at_call 28; (with_reducible refine (HS.out _).mono ?_); rintro e w4 ⟨rfl, h4⟩))
          go_ret
          rw [HE.out]
          exact ⟨rfl, leftD_below HC.out h4⟩
        · have d4 : decide ((c.slots : Int) < u) = false := decide_eq_false hus
          obtain ⟨v, rfl⟩ : ∃ v : Nat, u = (v : Int) := ⟨u.toNat, by omega⟩
          have HU := Lib.hid (show ¬ (c.is (k : Int) = false ∨ x < 1 ∨ 2147483647 < x ∨ (v : Int) < 0 ∨ (c.slots : Int) < (v : Int)) by rw [hi]; simp only [Bool.true_eq_false, false_or]; omega)
          have d5 : decide (c.slots < v) = false := decide_eq_false (by omega)
          have d6 : decide (k < c.rgs) = true := decide_eq_true hk
          have HG := Lib.hid (fun w' (hb : Below w.heap.size w w') => (h.below hb).getE hd hk)
          have HGU := Lib.hid (fun w' (hb : Below w.heap.size w w') => (h.below hb).getU hd hk)
          have HV3 := Lib.hid (fun w' (hb : Below w.heap.size w w') => (h.below hb).var.cell (j := 3) rfl)
          have HV4 := Lib.hid (fun w' (hb : Below w.heap.size w w') => (h.below hb).var.cell (j := 4) rfl)
          have n1 := h.neE
          have n2 := h.neU
          have n3 := h.ne
          have n4 := Ne.symm h.neE
          have n5 := Ne.symm h.neU
          have n6 := Ne.symm h.ne
          by_cases h0 : c.ep k = 0
          · have HE := Lib.hid (show setC c k x v = (0, c.put k x v) by unfold setC; rw [if_neg HU.out]; simp [h0])
            rw [h0] at HG
            clear h hd hi hx hus h0
            go_enter Try.func33, Try.ntmps33
            go_wp2_with (first
              | (go_at_call 51; (with_reducible refine HI.out.mono ?_); rintro e w3 ⟨rfl, rfl⟩)
              | (go_at_call 28; (with_reducible refine (HS.out _).mono ?_); rintro e w4 ⟨rfl, h4⟩; have b4 := Lib.hid h4; have e0 := (HG.out _ h4).1; have f0 := (HG.out _ h4).2; have e1 := (HGU.out _ h4).1; have f1 := (HGU.out _ h4).2; have v3 := HV3.out _ h4; have v4 := HV4.out _ h4; clear h4 c0 c1 c2))
            go_ret
            rw [HE.out]
            have hput := (HC.out.below b4.out).putAt k x v
            exact ⟨rfl, leftD_then b4.out hput.1 hput.2⟩
          · have HE := Lib.hid (show setC c k x v = (7, c) by unfold setC; rw [if_neg HU.out]; simp [h0])
            have d7 : (((c.ep k : Nat) : Int) == 0) = false := by simp; omega
            have d8 : (c.ep k == 0) = false := by simp; omega
            have d9 : (((c.ep k : Nat) : Int) != 0) = true := by simp only [bne, d7]; rfl
            generalize c.ep k = y at *
            generalize c.us k = z at *
            clear h hd hi hx hus h0
            go_enter Try.func33, Try.ntmps33
            go_wp2_with (first
              | (go_at_call 51; (with_reducible refine HI.out.mono ?_); rintro e w3 ⟨rfl, rfl⟩)
              | (go_at_call 28; (with_reducible refine (HS.out _).mono ?_); rintro e w4 ⟨rfl, h4⟩; have b4 := Lib.hid h4; have e0 := (HG.out _ h4).1; have f0 := (HG.out _ h4).2; have e1 := (HGU.out _ h4).1; have f1 := (HGU.out _ h4).2; have v3 := HV3.out _ h4; have v4 := HV4.out _ h4; clear h4 c0 c1 c2))
            go_ret
            rw [HE.out]
            exact ⟨rfl, leftD_below HC.out b4.out⟩
set_option maxRecDepth 100000 in
set_option maxHeartbeats 8000000 in
theorem refErase_any {w : World} {r : Nat} {c : Ch} {bE capE bU capU : Nat} (h : DAt w r c bE capE bU capU) (hd : c.Ok) (i : Int) :
    Calls Try.prog 36 #[ptr r, .int .i64 i] w fun e w' => e = .returned (.int .i64 ((eraseC c i).1 : Int)) ∧ LeftD w r bE capE bU capU (eraseC c i).2 w' := by
  have HI := Lib.hid (refIs_any h i)
  have HC := Lib.hid h
  unfold ptr at HI ⊢
  cases hi : c.is i with
  | false =>
    rw [hi] at HI
    have HE := Lib.hid (show eraseC c i = (1, c) by unfold eraseC; rw [if_pos hi])
    clear h hd hi
    go_enter Try.func36, Try.ntmps36
    go_wp2_with (go_at_call 51; (with_reducible refine HI.out.mono ?_); rintro e w3 ⟨rfl, rfl⟩)
    go_ret
    rw [HE.out]
    exact ⟨rfl, leftD_below HC.out (Below.refl _ _)⟩
  | true =>
    rw [hi] at HI
    obtain ⟨k, rfl, hk⟩ := Ch.is_lt hi
    have hr1 := hd.r1
    have HIF := Lib.hid (show ¬ c.is (k : Int) = false by rw [hi]; simp)
    obtain ⟨e0, f0⟩ := h.getE hd hk
    obtain ⟨e1, f1⟩ := h.getU hd hk
    have v3 := h.var.cell (j := 3) rfl
    have v4 := h.var.cell (j := 4) rfl
    have v5 := h.now
    have d6 : decide (k < c.rgs) = true := decide_eq_true hk
    have hne := nowV_eq c k
    have n1 := h.neE
    have n2 := h.neU
    have n3 := h.ne
    have n4 := Ne.symm h.neE
    have n5 := Ne.symm h.neU
    have n6 := Ne.symm h.ne
    by_cases h0 : c.ep k = 0
    · have HE := Lib.hid (show eraseC c k = (7, c) by unfold eraseC; rw [if_neg HIF.out]; simp [h0])
      have d7 : (((c.ep k : Nat) : Int) == 0) = true := by rw [h0]; rfl
      have d8 : (c.ep k == 0) = true := by rw [h0]; rfl
      clear h hd hi h0
      generalize c.ep k = y at *
      generalize c.us k = z at *
      go_enter Try.func36, Try.ntmps36
      go_wp2_with (go_at_call 51; (with_reducible refine HI.out.mono ?_); rintro e w3 ⟨rfl, rfl⟩)
      go_ret
      rw [HE.out]
      exact ⟨rfl, leftD_below HC.out (Below.refl _ _)⟩
    · have d7 : (((c.ep k : Nat) : Int) == 0) = false := by simp; omega
      have d8 : (c.ep k == 0) = false := by simp; omega
      by_cases hno : c.now = some k
      · have HE := Lib.hid (show eraseC c k = (7, c) by unfold eraseC; rw [if_neg HIF.out]; simp [hno])
        rw [show decide (c.now = some k) = true by simp [hno]] at hne
        clear h hd hi h0 hno
        generalize c.ep k = y at *
        generalize c.us k = z at *
        generalize nowV c = m at *
        go_enter Try.func36, Try.ntmps36
        go_wp2_with (go_at_call 51; (with_reducible refine HI.out.mono ?_); rintro e w3 ⟨rfl, rfl⟩)
        go_ret
        rw [HE.out]
        exact ⟨rfl, leftD_below HC.out (Below.refl _ _)⟩
      · have HE := Lib.hid (show eraseC c k = (0, c.put k 0 0) by unfold eraseC; rw [if_neg HIF.out]; simp [hno, h0])
        rw [show decide (c.now = some k) = false by simp [hno]] at hne
        clear h hd hi h0 hno
        generalize c.ep k = y at *
        generalize c.us k = z at *
        generalize nowV c = m at *
        go_enter Try.func36, Try.ntmps36
        go_wp2_with (go_at_call 51; (with_reducible refine HI.out.mono ?_); rintro e w3 ⟨rfl, rfl⟩)
        go_ret
        rw [HE.out]
        have hput := HC.out.putAt k 0 0
        exact ⟨rfl, leftD_then (Below.refl _ _) hput.1 hput.2⟩
end Go.Proofs.Ytmkdhehdfdkbjaa.Chart
