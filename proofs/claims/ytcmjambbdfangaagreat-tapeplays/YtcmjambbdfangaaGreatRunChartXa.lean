/-
  Joined texts: ChartXa, ChartXb, ChartXc, ChartXd, ChartPg.
-/
import Derived.Test.YtcmjambbdfangaaGreatRunGeomA
/-
  The landed account: what is told of one region, and of all.
-/
set_option linter.unusedVariables false
set_option linter.unusedSimpArgs false
namespace Go.Proofs.YtcmjambbdfangaaGreat.Chart
open Go.RowKit
open Go.Proofs.YtcmjambbdfangaaGreat.Own
open Tup Foot

set_option maxRecDepth 100000 in
theorem isFree_any (x u : Int) (w : World) : Calls Tryz.prog 56 #[.agg #[.int .u32 x, .int .i64 u]] w fun e w' => e = .returned (.bool (x == 0)) ∧ Below w.heap.size w w' := by
  go_enter Tryz.func56, Tryz.ntmps56
  go_wp2
  go_ret
  exact ⟨rfl, Geom.bel_alloc _ _⟩
set_option maxRecDepth 100000 in
theorem all_any {w : World} {p : Nat} {c : Ch} {bS cap on : Nat} (h : CAt w p c bS cap on) :
    Calls Tryz.prog 55 #[ptr p] w fun e w' => e = .returned (.slice (some ⟨bS, 0, none⟩) c.rgs cap) ∧ w = w' := by
  have c3 := h.var.cell (j := 3) rfl
  clear h
  unfold ptr
  go_enter Tryz.func55, Tryz.ntmps55
  go_wp2
  go_ret
  exact ⟨rfl, rfl⟩
set_option maxRecDepth 100000 in
theorem geom_any {w : World} {p : Nat} {c : Ch} {bS cap on : Nat} (h : CAt w p c bS cap on) :
    Calls Tryz.prog 60 #[ptr p] w fun e w' => e = .returned (.agg #[.int .i64 (c.pg : Int), .int .i64 (c.pgs : Int), .int .i64 (c.rgs : Int)]) ∧ Below w.heap.size w w' := by
  have c0 := h.var.cell (j := 0) rfl
  have c1 := h.var.cell (j := 1) rfl
  have c2 := h.var.cell (j := 2) rfl
  have hp := h.var.lt
  clear h
  unfold ptr
  go_enter Tryz.func60, Tryz.ntmps60
  go_wp2
  refine bodyPost_ret (v := .agg #[.int .i64 (c.pg : Int), .int .i64 (c.pgs : Int), .int .i64 (c.rgs : Int)]) (by simp [results, Tryz.results60, go_sem]) rfl ⟨rfl, Geom.bel_alloc _ _⟩
set_option maxRecDepth 100000 in
theorem slots_any {w : World} {p : Nat} {c : Ch} {bS cap on : Nat} (h : CAt w p c bS cap on) (hd : c.Ok) :
    Calls Tryz.prog 53 #[ptr p] w fun e w' => e = .returned (.int .i64 (c.slots : Int)) ∧ Below w.heap.size w w' := by
  have HG := Lib.hid (geom_any h)
  have HS := Lib.hid (fun w => Geom.slots_any ⟨c.pg, c.pgs, c.rgs⟩ w)
  rw [geo_right hd] at HS
  simp only [if_true, geo_slots hd] at HS
  unfold Geom.gV at HS
  unfold ptr at HG ⊢
  clear h hd
  go_enter Tryz.func53, Tryz.ntmps53
  go_wp2_with (first
    | (go_at_call 60; (with_reducible refine HG.out.mono ?_); rintro e w3 ⟨rfl, h3⟩)
    | (go_at_call 93; (with_reducible refine (HS.out _).mono ?_); rintro e w4 ⟨rfl, h4⟩))
  go_ret
  exact ⟨rfl, bel2 h3 h4⟩
set_option maxRecDepth 100000 in
theorem isOpen_any {w : World} {p : Nat} {c : Ch} {bS cap on : Nat} (h : CAt w p c bS cap on) (k : Nat) :
    Calls Tryz.prog 74 #[ptr p, .int .i64 (k : Int)] w fun e w' => e = .returned (.bool (decide (c.now = some k))) ∧ w = w' := by
  have c4 := h.var.cell (j := 4) rfl
  have c5 := h.var.cell (j := 5) rfl
  unfold ptr
  cases hn : c.now with
  | none =>
    rw [hn] at c5
    clear h hn
    have c5' : w.cell? ⟨p, 5, none⟩ = some (.bool false) := c5
    clear c5
    go_enter Tryz.func74, Tryz.ntmps74
    go_wp2
    go_ret
    exact ⟨rfl, rfl⟩
  | some j =>
    obtain rfl := h.onk j hn
    rw [hn] at c5
    have c5' : w.cell? ⟨p, 5, none⟩ = some (.bool true) := c5
    clear c5 h hn
    go_enter Tryz.func74, Tryz.ntmps74
    go_wp2
    go_ret
    refine ⟨ret_bool ?_, rfl⟩
    by_cases e : on = k
    · subst e; simp
    · have : ¬ ((on : Int) = (k : Int)) := by omega
      simp [e, this]
def atV (c : Ch) (bS : Nat) (i : Int) : Value := if c.is i = true then .pointer (some ⟨bS, i.toNat * 2, none⟩) else .pointer none
theorem atV_not {c : Ch} {bS : Nat} {i : Int} (h : c.is i = false) : atV c bS i = .pointer none := by unfold atV; rw [h]; rfl
theorem atV_nat {c : Ch} {bS k : Nat} (h : k < c.rgs) : atV c bS (k : Int) = .pointer (some ⟨bS, k * 2, none⟩) := by unfold atV; rw [if_pos (Ch.is_nat h)]; rfl
set_option maxRecDepth 100000 in
theorem at_any {w : World} {p : Nat} {c : Ch} {bS cap on : Nat} (h : CAt w p c bS cap on) (hd : c.Ok) (i : Int) :
    Calls Tryz.prog 73 #[ptr p, .int .i64 i] w fun e w' => e = .returned (atV c bS i) ∧ w = w' := by
  have HA := Lib.hid (all_any h)
  have r1 := hd.r1
  unfold ptr at HA ⊢
  cases hi : c.is i with
  | false =>
    rw [atV_not hi]
    rcases Ch.is_not hi with hl | hl
    · have d1 : decide (i < 0) = true := decide_eq_true hl
      clear h hd hi
      go_enter Tryz.func73, Tryz.ntmps73
      go_wp2_with (go_at_call 55; (with_reducible refine HA.out.mono ?_); rintro e w3 ⟨rfl, rfl⟩)
      go_ret
      exact ⟨rfl, rfl⟩
    · have d1 : decide (i < 0) = false := decide_eq_false (by omega)
      have d2 : decide ((c.rgs : Int) ≤ i) = true := decide_eq_true hl
      clear h hd hi
      go_enter Tryz.func73, Tryz.ntmps73
      go_wp2_with (go_at_call 55; (with_reducible refine HA.out.mono ?_); rintro e w3 ⟨rfl, rfl⟩)
      go_ret
      exact ⟨rfl, rfl⟩
  | true =>
    obtain ⟨k, rfl, hk⟩ := Ch.is_lt hi
    rw [atV_nat hk]
    have d1 : decide ((k : Int) < 0) = false := decide_eq_false (by omega)
    have d2 : decide ((c.rgs : Int) ≤ (k : Int)) = false := decide_eq_false (by omega)
    have d3 : decide (k < c.rgs) = true := decide_eq_true hk
    clear h hd hi
    go_enter Tryz.func73, Tryz.ntmps73
    go_wp2_with (go_at_call 55; (with_reducible refine HA.out.mono ?_); rintro e w3 ⟨rfl, rfl⟩)
    go_ret
    exact ⟨rfl, rfl⟩
set_option maxRecDepth 100000 in
theorem atEpoch_any {w : World} {p : Nat} {c : Ch} {bS cap on : Nat} (h : CAt w p c bS cap on) (hd : c.Ok) (i : Int) :
    Calls Tryz.prog 36 #[ptr p, .int .i64 i] w fun e w' => e = .returned (.int .u32 (epochC c i : Int)) ∧ w = w' := by
  have HA := Lib.hid (at_any h hd i)
  unfold ptr at HA ⊢
  unfold epochC
  cases hi : c.is i with
  | false =>
    rw [atV_not hi] at HA
    clear h hd hi
    go_enter Tryz.func36, Tryz.ntmps36
    go_wp2_with (go_at_call 73; (with_reducible refine HA.out.mono ?_); rintro e w3 ⟨rfl, rfl⟩)
    go_ret
    exact ⟨rfl, rfl⟩
  | true =>
    obtain ⟨k, rfl, hk⟩ := Ch.is_lt hi
    rw [atV_nat hk] at HA
    obtain ⟨e0, e1, -, -⟩ := h.get hd hk
    simp only [Int.toNat_natCast, if_true]
    clear h hd hi
    go_enter Tryz.func36, Tryz.ntmps36
    go_wp2_with (go_at_call 73; (with_reducible refine HA.out.mono ?_); rintro e w3 ⟨rfl, rfl⟩)
    go_ret
    exact ⟨rfl, rfl⟩
set_option maxRecDepth 100000 in
theorem atUsed_any {w : World} {p : Nat} {c : Ch} {bS cap on : Nat} (h : CAt w p c bS cap on) (hd : c.Ok) (i : Int) :
    Calls Tryz.prog 37 #[ptr p, .int .i64 i] w fun e w' => e = .returned (.int .i64 (usedC c i : Int)) ∧ w = w' := by
  have HA := Lib.hid (at_any h hd i)
  unfold ptr at HA ⊢
  unfold usedC
  cases hi : c.is i with
  | false =>
    rw [atV_not hi] at HA
    clear h hd hi
    go_enter Tryz.func37, Tryz.ntmps37
    go_wp2_with (go_at_call 73; (with_reducible refine HA.out.mono ?_); rintro e w3 ⟨rfl, rfl⟩)
    go_ret
    exact ⟨rfl, rfl⟩
  | true =>
    obtain ⟨k, rfl, hk⟩ := Ch.is_lt hi
    rw [atV_nat hk] at HA
    obtain ⟨e0, e1, -, -⟩ := h.get hd hk
    simp only [Int.toNat_natCast, if_true]
    clear h hd hi
    go_enter Tryz.func37, Tryz.ntmps37
    go_wp2_with (go_at_call 73; (with_reducible refine HA.out.mono ?_); rintro e w3 ⟨rfl, rfl⟩)
    go_ret
    exact ⟨rfl, rfl⟩
set_option maxRecDepth 100000 in
set_option maxHeartbeats 4000000 in
theorem newest_any {w : World} {p : Nat} {c : Ch} {bS cap on : Nat} (h : CAt w p c bS cap on) (hd : c.Ok) :
    Calls Tryz.prog 100 #[ptr p] w fun e w' => e = .returned (.tuple #[.int .i64 (c.top : Int), .int .u32 (c.max : Int)]) ∧ Below w.heap.size w w' := by
  have HA := Lib.hid (all_any h)
  have HC := Lib.hid h
  have HD := Lib.hid hd
  have r1 := hd.r1
  obtain ⟨n, hn⟩ : ∃ n, c.rgs = n := ⟨_, rfl⟩
  have HN := Lib.hid hn
  rw [hn] at HA r1
  unfold Ch.top Ch.max
  rw [hn]
  unfold ptr at HA ⊢
  clear h hd hn
  go_enter Tryz.func100, Tryz.ntmps100
  go_wp2_with (go_at_call 55; (with_reducible refine HA.out.mono ?_); rintro e w3 ⟨rfl, rfl⟩)
  go_loopw [2, 3, 9] (fun a b i wr => ∃ k : Nat, i = .int .i64 (k : Int) ∧ k ≤ n ∧ a = .int .i64 (c.topTo k : Int) ∧ b = .int .u32 (c.maxTo k : Int) ∧ Below w.heap.size w wr) (fun _ _ i _ => n - (intOf i).toNat)
  case atStart => exact ⟨0, rfl, Nat.zero_le _, rfl, rfl, Below.refl _ _⟩
  case round =>
    obtain ⟨k, rfl, hk, rfl, rfl, hB⟩ := hrel
    have HB := Lib.hid hB
    by_cases hlt : k < n
    · obtain ⟨e0, e1, -, -⟩ := (HC.out.below hB).get HD.out (k := k) (by rw [HN.out]; exact hlt)
      have d1 : decide ((k : Int) < (n : Int)) = true := by simp; omega
      have d2 : decide (k < n) = true := by simp; omega
      have HT := Lib.hid (show c.topTo (k + 1) = if c.maxTo k < c.ep k then k else c.topTo k from rfl)
      have HM := Lib.hid (show c.maxTo (k + 1) = if c.maxTo k < c.ep k then c.ep k else c.maxTo k from rfl)
      clear hB
      generalize c.ep k = x at *
      generalize c.maxTo k = m at *
      generalize c.topTo k = t at *
      by_cases hx : m < x
      · have d3 : decide ((m : Int) < (x : Int)) = true := by simp; omega
        rw [if_pos hx] at HT HM
        go_wp2
        go_quiet (fail)
        go_wp2
        refine ⟨⟨k + 1, by go_num, by omega, by rw [HT.out], by rw [HM.out], bel2 HB.out (below_drewN (Geom.bel_alloc _ _) _)⟩, by simp [intOf]; omega⟩
      · have d3 : decide ((m : Int) < (x : Int)) = false := by simp; omega
        rw [if_neg hx] at HT HM
        go_wp2
        refine ⟨⟨k + 1, by go_num, by omega, by rw [HT.out], by rw [HM.out], bel2 HB.out (Geom.bel_alloc _ _)⟩, by simp [intOf]; omega⟩
    · obtain rfl : k = n := by omega
      have d1 : decide ((k : Int) < (k : Int)) = false := by simp
      clear hB
      go_wp2
      go_ret2
      exact ⟨rfl, HB.out⟩
set_option maxRecDepth 100000 in
set_option maxHeartbeats 4000000 in
theorem atFree_any {w : World} {p : Nat} {c : Ch} {bS cap on : Nat} (h : CAt w p c bS cap on) (hd : c.Ok) :
    Calls Tryz.prog 24 #[ptr p] w fun e w' => e = .returned (.int .i64 (c.free : Int)) ∧ Below w.heap.size w w' := by
  have HA := Lib.hid (all_any h)
  have HF := Lib.hid (fun x u w => isFree_any x u w)
  have HC := Lib.hid h
  have HD := Lib.hid hd
  have r1 := hd.r1
  obtain ⟨n, hn⟩ : ∃ n, c.rgs = n := ⟨_, rfl⟩
  have HN := Lib.hid hn
  rw [hn] at HA r1
  unfold Ch.free
  rw [hn]
  unfold ptr at HA ⊢
  clear h hd hn
  go_enter Tryz.func24, Tryz.ntmps24
  go_wp2_with (go_at_call 55; (with_reducible refine HA.out.mono ?_); rintro e w3 ⟨rfl, rfl⟩)
  go_loopw [3, 9] (fun a i wr => ∃ k : Nat, i = .int .i64 (k : Int) ∧ k ≤ n ∧ a = .int .i64 (c.cntTo k : Int) ∧ Below w.heap.size w wr) (fun _ i _ => n - (intOf i).toNat)
  case atStart => exact ⟨0, rfl, Nat.zero_le _, rfl, Below.refl _ _⟩
  case round =>
    obtain ⟨k, rfl, hk, rfl, hB⟩ := hrel
    have HB := Lib.hid hB
    by_cases hlt : k < n
    · obtain ⟨e0, e1, -, -⟩ := (HC.out.below hB).get HD.out (k := k) (by rw [HN.out]; exact hlt)
      have d1 : decide ((k : Int) < (n : Int)) = true := by simp; omega
      have d2 : decide (k < n) = true := by simp; omega
      have hcl := cntTo_le c k
      have HT := Lib.hid (show c.cntTo (k + 1) = if c.ep k = 0 then c.cntTo k + 1 else c.cntTo k from rfl)
      clear hB
      generalize c.ep k = x at *
      generalize c.us k = u at *
      generalize c.cntTo k = m at *
      by_cases hx : x = 0
      · rw [if_pos hx] at HT
        have HX := Lib.hid (show (((x : Nat) : Int) == 0) = true by simp; omega)
        clear hx
        go_wp2_with (go_at_call 56; (with_reducible refine (HF.out _ _ _).mono ?_); rintro e w4 ⟨rfl, h4⟩; rw [HX.out])
        refine ⟨⟨k + 1, by go_num, by omega, by rw [HT.out]; go_num, bel2 (bel2 HB.out (Geom.bel_alloc _ _)) h4⟩, by simp [intOf]; omega⟩
      · rw [if_neg hx] at HT
        have HX := Lib.hid (show (((x : Nat) : Int) == 0) = false by simp; omega)
        clear hx
        go_wp2_with (go_at_call 56; (with_reducible refine (HF.out _ _ _).mono ?_); rintro e w4 ⟨rfl, h4⟩; rw [HX.out])
        refine ⟨⟨k + 1, by go_num, by omega, by rw [HT.out], bel2 (bel2 HB.out (Geom.bel_alloc _ _)) h4⟩, by simp [intOf]; omega⟩
    · obtain rfl : k = n := by omega
      have d1 : decide ((k : Int) < (k : Int)) = false := by simp
      clear hB
      go_wp2
      go_ret
      exact ⟨rfl, HB.out⟩
end Go.Proofs.YtcmjambbdfangaaGreat.Chart
/-
  The landed account: the next free region, the oldest one, what is left.
-/
set_option linter.unusedVariables false
set_option linter.unusedSimpArgs false
namespace Go.Proofs.YtcmjambbdfangaaGreat.Chart
open Go.RowKit
open Go.Proofs.YtcmjambbdfangaaGreat.Own
open Tup Foot
open Go.Proofs.YtcmjambbdfangaaGreat.Region (fill Then Deps Each wp_region_is wp_region_is_tail)

theorem rem_nat (a b n : Nat) : ((a : Int) + (b : Int)).tmod (n : Int) = (((a + b) % n : Nat) : Int) := by
  rw [← Int.natCast_add]; rfl
theorem scan_hit {c : Ch} {first i n : Nat} (h : c.ep ((first + i) % c.rgs) = 0) : c.scan first i (n + 1) = some ((first + i) % c.rgs) := by
  rw [Ch.scan, if_pos h]
theorem scan_miss {c : Ch} {first i n : Nat} (h : c.ep ((first + i) % c.rgs) ≠ 0) : c.scan first i (n + 1) = c.scan first (i + 1) n := by
  rw [Ch.scan, if_neg h]
theorem max2 {P : Program} (w : World) (ts : Array TypeId) (t : TypeId) (x k m : Int) (hm : m = max x k) : (Builtin.max_ ts t #[.int .i64 x, .int .i64 k]).run P w = .ok (.int .i64 m) w := by
  have e : (Builtin.max_ ts t #[.int .i64 x, .int .i64 k]).run P w = .ok (.int .i64 (if x < k then k else x)) w := by
    simp [Builtin.max_, Builtin.max2]
  rw [e, hm]; congr 2; split <;> omega
def orZero (o : Option Nat) : Nat := o.getD 0
set_option maxRecDepth 100000 in
set_option maxHeartbeats 4000000 in
theorem freeFrom_any {w : World} {p : Nat} {c : Ch} {bS cap on : Nat} (h : CAt w p c bS cap on) (hd : c.Ok) (f : Nat) (hf : f < 1000) :
    Calls Tryz.prog 101 #[ptr p, .int .i64 (f : Int)] w fun e w' => e = .returned (.tuple #[.int .i64 (orZero (c.scan f 0 c.rgs) : Int), .bool (c.scan f 0 c.rgs).isSome]) ∧ Below w.heap.size w w' := by
  have HA := Lib.hid (all_any h)
  have HF := Lib.hid (fun x u w => isFree_any x u w)
  have HC := Lib.hid h
  have HD := Lib.hid hd
  have r1 := hd.r1
  have r0 := hd.r0
  obtain ⟨n, hn⟩ : ∃ n, c.rgs = n := ⟨_, rfl⟩
  have HN := Lib.hid hn
  rw [hn] at HA r1 r0
  rw [hn]
  unfold ptr at HA ⊢
  clear h hd hn
  have dn : ((n : Int) == 0) = false := by simp; omega
  go_enter Tryz.func101, Tryz.ntmps101
  go_wp2_with (go_at_call 55; (with_reducible refine HA.out.mono ?_); rintro e w3 ⟨rfl, rfl⟩)
  go_loopw [12] (fun i wr => ∃ k : Nat, i = .int .i64 (k : Int) ∧ k ≤ n ∧ c.scan f 0 n = c.scan f k (n - k) ∧ Below w.heap.size w wr) (fun i _ => n - (intOf i).toNat)
  case atStart => exact ⟨0, rfl, Nat.zero_le _, rfl, Below.refl _ _⟩
  case round =>
    obtain ⟨k, rfl, hk, hs, hB⟩ := hrel
    have HB := Lib.hid hB
    have HS := Lib.hid hs
    by_cases hlt : k < n
    · obtain ⟨r, hr⟩ : ∃ r, r = (f + k) % n := ⟨_, rfl⟩
      have hrn : r < n := by rw [hr]; exact Nat.mod_lt _ (by omega)
      obtain ⟨e0, e1, -, -⟩ := (HC.out.below hB).get HD.out (k := r) (by rw [HN.out]; exact hrn)
      have d1 : decide ((k : Int) < (n : Int)) = true := by simp; omega
      have d2 : decide (r < n) = true := by simp; omega
      have hm := rem_nat f k n
      rw [← hr] at hm
      have HM1 := Lib.hid (scan_hit (c := c) (first := f) (i := k) (n := n - (k + 1)))
      have HM2 := Lib.hid (scan_miss (c := c) (first := f) (i := k) (n := n - (k + 1)))
      rw [HN.out, ← hr, show n - (k + 1) + 1 = n - k by omega] at HM1 HM2
      clear hB hs hr
      generalize c.ep r = x at *
      generalize c.us r = u at *
      by_cases hx : x = 0
      · have HX := Lib.hid (show (((x : Nat) : Int) == 0) = true by simp; omega)
        have HE := Lib.hid (HS.out.trans (HM1.out hx))
        clear hx HM1 HM2 HS
        go_wp2_with (go_at_call 56; (with_reducible refine (HF.out _ _ _).mono ?_); rintro e w4 ⟨rfl, h4⟩; rw [HX.out])
        go_ret2
        rw [HE.out]
        exact ⟨rfl, bel2 HB.out h4⟩
      · have HX := Lib.hid (show (((x : Nat) : Int) == 0) = false by simp; omega)
        have HE := Lib.hid (HS.out.trans (HM2.out hx))
        clear hx HM1 HM2 HS
        go_wp2_with (go_at_call 56; (with_reducible refine (HF.out _ _ _).mono ?_); rintro e w4 ⟨rfl, h4⟩; rw [HX.out])
        refine ⟨⟨k + 1, by go_num, by omega, by rw [HE.out], bel2 HB.out h4⟩, by simp [intOf]; omega⟩
    · obtain rfl : k = n := by omega
      have d1 : decide ((k : Int) < (k : Int)) = false := by simp
      have HE := Lib.hid (show c.scan f 0 k = none by rw [hs, Nat.sub_self]; rfl)
      clear hB hs
      go_wp2
      go_ret2
      rw [HE.out]
      exact ⟨rfl, HB.out⟩
/-- the least epoch among what was told as the oldest -/
def Ch.oldE (c : Ch) (k : Nat) : Nat := match c.oldTo k with
  | none => 0
  | some j => c.ep j
theorem old_skip {c : Ch} {k : Nat} (h : c.ep k = 0 ∨ c.now = some k) : c.oldTo (k + 1) = c.oldTo k := by rw [Ch.oldTo, if_pos h]
theorem old_first {c : Ch} {k : Nat} (h : ¬ (c.ep k = 0 ∨ c.now = some k)) (hn : c.oldTo k = none) : c.oldTo (k + 1) = some k := by rw [Ch.oldTo, if_neg h, hn]
theorem old_less {c : Ch} {k j : Nat} (h : ¬ (c.ep k = 0 ∨ c.now = some k)) (hn : c.oldTo k = some j) (hl : c.ep k < c.ep j) : c.oldTo (k + 1) = some k := by rw [Ch.oldTo, if_neg h, hn]; simp only [if_pos hl]
theorem old_more {c : Ch} {k j : Nat} (h : ¬ (c.ep k = 0 ∨ c.now = some k)) (hn : c.oldTo k = some j) (hl : ¬ c.ep k < c.ep j) : c.oldTo (k + 1) = some j := by rw [Ch.oldTo, if_neg h, hn]; simp only [if_neg hl]
theorem oldE_some {c : Ch} {k j : Nat} (h : c.oldTo k = some j) : c.oldE k = c.ep j := by unfold Ch.oldE; rw [h]
theorem oldE_none {c : Ch} {k : Nat} (h : c.oldTo k = none) : c.oldE k = 0 := by unfold Ch.oldE; rw [h]
theorem oldest_eq (c : Ch) : oldestC c = (orZero (c.oldTo c.rgs), (c.oldTo c.rgs).isSome) := by
  unfold oldestC orZero
  cases c.oldTo c.rgs <;> rfl
set_option maxRecDepth 100000 in
set_option maxHeartbeats 4000000 in
theorem atLeft_any {w : World} {p : Nat} {c : Ch} {bS cap on : Nat} (h : CAt w p c bS cap on) (hd : c.Ok) :
    Calls Tryz.prog 22 #[ptr p] w fun e w' => e = .returned (.int .i64 (c.left : Int)) ∧ Below w.heap.size w w' := by
  have HSL : Hid (∀ w' : World, Below w.heap.size w w' → Calls Tryz.prog 53 #[.pointer (some ⟨p, 0, none⟩)] w' fun e w'' => e = .returned (.int .i64 (c.slots : Int)) ∧ Below w'.heap.size w' w'') := fun w' hb => slots_any (h.below hb) hd
  have HC := Lib.hid h
  have c4 := h.var.cell (j := 4) rfl
  have c5 := h.var.cell (j := 5) rfl
  have hs0 := hd.s0
  have hs1 := hd.s1
  have hsl : c.slots ≤ 9 := by unfold Ch.slots; omega
  unfold ptr
  unfold Ch.left
  cases hn : c.now with
  | none =>
    rw [hn] at c5
    have c5' : w.cell? ⟨p, 5, none⟩ = some (.bool false) := c5
    clear h hn c5 hd
    go_enter Tryz.func22, Tryz.ntmps22
    go_wp2
    go_ret
    exact ⟨rfl, Below.refl _ _⟩
  | some k =>
    have hkr := (hd.now k hn).1
    obtain rfl := h.onk k hn
    dsimp only
    rw [hn] at c5
    have c5' : w.cell? ⟨p, 5, none⟩ = some (.bool true) := c5
    have HU : Hid (∀ w' : World, Below w.heap.size w w' → Calls Tryz.prog 37 #[.pointer (some ⟨p, 0, none⟩), .int .i64 (on : Int)] w' fun e w'' => e = .returned (.int .i64 (c.us on : Int)) ∧ w' = w'') := fun w' hb => by
      have := atUsed_any (h.below hb) hd (on : Int)
      unfold usedC at this
      rw [Ch.is_nat hkr] at this
      exact this
    have hus := hd.us on
    have HV := Lib.hid (show ((c.slots : Int) - (c.us on : Int)) = ((c.slots - c.us on : Nat) : Int) by omega)
    clear h hn c5 hd hs0 hs1
    generalize c.slots = sl at *
    generalize c.us on = us at *
    go_enter Tryz.func22, Tryz.ntmps22
    go_wp2
    refine wp_region_is [12, 13, 14, 15, 16, 17, 18, 19, 20, 2] (fun w' => Below w.heap.size w w')
      [.pointer (some ⟨p, 0, none⟩), .int .i64 (sl : Int), .pointer (some ⟨p, 0, none⟩), .pointer (some ⟨p, 0, none⟩), .pointer (some ⟨p, 0, none⟩), .pointer (some ⟨p, 4, none⟩), .int .i64 (on : Int), .int .i64 (us : Int), .int .i64 ((sl : Int) - (us : Int)), .int .i64 ((sl : Int) - (us : Int))] (by kernel_rfl) (by kernel_rfl) rfl (by decide) (by simp) (Below.refl _ _).drew ?each ?done
    case each =>
      simp only [Each]
      repeat' (first | exact trivial | refine And.intro ?_ ?_)
      all_goals
        intro ys wx hBx hdeps
        simp only [Deps, Region.binds, List.getD_cons_zero, List.getD_cons_succ, forall_const, and_true] at hdeps
        have q4 : wx.cell? ⟨p, 4, none⟩ = some (.int .i64 (on : Int)) := (HC.out.below hBx).var.cell (j := 4) rfl
        simp only [hdeps, fill, List.foldl_cons, List.foldl_nil, Act.put, List.setIfInBounds_toArray, List.set_cons_succ, List.set_cons_zero]
        first
          | (go_wp2_with fail; exact ⟨_, rfl, rfl, hBx, Below.refl _ _⟩)
          | (go_wp2_with (go_at_call 53; (with_reducible refine (HSL.out _ hBx).mono ?_); rintro e w3 ⟨rfl, hn⟩); exact ⟨_, rfl, rfl, bel2 hBx hn, hn⟩)
          | (go_wp2_with (go_at_call 37; (with_reducible refine (HU.out _ hBx).mono ?_); rintro e w3 ⟨rfl, rfl⟩); exact ⟨_, rfl, rfl, hBx, Below.refl _ _⟩)
    case done =>
      intro ys wx hBx hV
      have h2 : ys 2 = .int .i64 ((sl : Int) - (us : Int)) := hV 9 (by decide)
      have HB5 := Lib.hid hBx
      clear hBx hV
      simp only [h2, fill, List.drop_succ_cons, List.drop_zero, List.foldl_cons, List.foldl_nil, Act.put, List.setIfInBounds_toArray, List.set_cons_succ, List.set_cons_zero]
      go_wp2
      go_ret
      exact ⟨ret_int HV.out, HB5.out⟩
end Go.Proofs.YtcmjambbdfangaaGreat.Chart
/-
  The landed account: what turns it.
-/
set_option linter.unusedVariables false
set_option linter.unusedSimpArgs false
namespace Go.Proofs.YtcmjambbdfangaaGreat.Chart
open Go.RowKit
open Go.Proofs.YtcmjambbdfangaaGreat.Own
open Tup Foot
open Go.Proofs.YtcmjambbdfangaaGreat.Region (fill Then Deps Each wp_region_is wp_region_is_tail)

theorem grows_below {S : Nat → Prop} {w w' : World} (h : Below w.heap.size w w') : Grows S w w' := (Grows.of_below (S := fun _ => False) h).mono (fun _ x => x.elim)
/-- what a call that turns the account leaves -/
def Left (w : World) (p bS cap : Nat) (c : Ch) (w' : World) : Prop := Grows (foot p bS) w w' ∧ ∃ on, CAt w' p c bS cap on
theorem left_below {w w' : World} {p : Nat} {c : Ch} {bS cap on : Nat} (h : CAt w p c bS cap on) (hb : Below w.heap.size w w') : Left w p bS cap c w' := ⟨grows_below hb, on, h.below hb⟩
theorem left_then {w w1 w' : World} {p : Nat} {c : Ch} {bS cap on : Nat} (hb : Below w.heap.size w w1) (h : CAt w' p c bS cap on) (g : Grows (foot p bS) w1 w') : Left w p bS cap c w' :=
  ⟨(grows_below hb).trans g (fun _ x => .inl x), on, h⟩
/-- .. by a code: where it refuses, nothing but new memory is there -/
def LeftN (w : World) (p bS cap : Nat) (x : Nat × Ch) (w' : World) : Prop := Left w p bS cap x.2 w' ∧ (x.1 ≠ 0 → Below w.heap.size w w')
theorem leftN_below {w w' : World} {p : Nat} {c : Ch} {bS cap on n : Nat} (h : CAt w p c bS cap on) (hb : Below w.heap.size w w') : LeftN w p bS cap (n, c) w' := ⟨left_below h hb, fun _ => hb⟩
theorem leftN_then {w w1 w' : World} {p : Nat} {c : Ch} {bS cap on : Nat} (hb : Below w.heap.size w w1) (h : CAt w' p c bS cap on) (g : Grows (foot p bS) w1 w') : LeftN w p bS cap (0, c) w' :=
  ⟨left_then hb h g, fun x => absurd rfl x⟩
theorem ret_nat {k : IntKind} {a b : Nat} (h : a = b) : Ending.returned (.int k (a : Int)) = .returned (.int k (b : Int)) := by rw [h]
set_option maxRecDepth 100000 in
set_option maxHeartbeats 8000000 in
theorem atSet_any {w : World} {p : Nat} {c : Ch} {bS cap on : Nat} (h : CAt w p c bS cap on) (hd : c.Ok) (i : Int) (x : Nat) (u : Int) :
    Calls Tryz.prog 40 #[ptr p, .int .i64 i, .int .u32 (x : Int), .int .i64 u] w fun e w' => e = .returned (.int .i64 ((setC c i x u).1 : Int)) ∧ LeftN w p bS cap (setC c i x u) w' := by
  have HA := Lib.hid (at_any h hd i)
  have HSL := Lib.hid (slots_any h hd)
  have HC := Lib.hid h
  have HD := Lib.hid hd
  unfold ptr at HA HSL ⊢
  cases hi : c.is i with
  | false =>
    rw [atV_not hi] at HA
    have HE := Lib.hid (show setC c i x u = (1, c) by unfold setC; rw [if_pos (.inl hi)])
    clear h hd hi
    go_enter Tryz.func40, Tryz.ntmps40
    go_wp2_with (go_at_call 73; (with_reducible refine HA.out.mono ?_); rintro e w3 ⟨rfl, rfl⟩)
    go_ret
    rw [HE.out]
    exact ⟨rfl, leftN_below HC.out (Below.refl _ _)⟩
  | true =>
    obtain ⟨k, rfl, hk⟩ := Ch.is_lt hi
    rw [atV_nat hk] at HA
    have hs1 := hd.s1
    have hsl : c.slots ≤ 9 := by unfold Ch.slots; omega
    have hr1 := hd.r1
    by_cases hx : x < 1 ∨ 2147483647 < x
    · have HE := Lib.hid (show setC c k x u = (1, c) by unfold setC; rw [if_pos (.inr (by omega))])
      have hd12 : decide ((x : Int) < 1) = true ∨ (decide ((x : Int) < 1) = false ∧ decide (2147483647 < (x : Int)) = true) := by simp only [decide_eq_true_eq, decide_eq_false_iff_not]; omega
      clear h hd hi hx
      rcases hd12 with d1 | ⟨d1, d2⟩
      all_goals
        go_enter Tryz.func40, Tryz.ntmps40
        go_wp2_with (go_at_call 73; (with_reducible refine HA.out.mono ?_); rintro e w3 ⟨rfl, rfl⟩)
        go_ret
        rw [HE.out]
        exact ⟨rfl, leftN_below HC.out (Below.refl _ _)⟩
    · have d1 : decide ((x : Int) < 1) = false := decide_eq_false (by omega)
      have d2 : decide (2147483647 < (x : Int)) = false := decide_eq_false (by omega)
      by_cases hu : u < 0
      · have HE := Lib.hid (show setC c k x u = (1, c) by unfold setC; rw [if_pos (.inr (.inr (.inr (.inl hu))))])
        have d3 : decide (u < 0) = true := decide_eq_true hu
        clear h hd hi hx
        go_enter Tryz.func40, Tryz.ntmps40
        go_wp2_with (go_at_call 73; (with_reducible refine HA.out.mono ?_); rintro e w3 ⟨rfl, rfl⟩)
        go_ret
        rw [HE.out]
        exact ⟨rfl, leftN_below HC.out (Below.refl _ _)⟩
      · have d3 : decide (u < 0) = false := decide_eq_false hu
        by_cases hus : (c.slots : Int) < u
        · have HE := Lib.hid (show setC c k x u = (1, c) by unfold setC; rw [if_pos (.inr (.inr (.inr (.inr hus))))])
          have d4 : decide ((c.slots : Int) < u) = true := decide_eq_true hus
          clear h hd hi hx
          go_enter Tryz.func40, Tryz.ntmps40
          go_wp2_with (first
            | (go_at_call 73; (with_reducible refine HA.out.mono ?_); rintro e w3 ⟨rfl, rfl⟩)
            | (go_at_call 53; (with_reducible refine HSL.out.mono ?_); rintro e w4 ⟨rfl, h4⟩))
          go_ret
          rw [HE.out]
          exact ⟨rfl, leftN_below HC.out h4⟩
        · have d4 : decide ((c.slots : Int) < u) = false := decide_eq_false hus
          obtain ⟨v, rfl⟩ : ∃ v : Nat, u = (v : Int) := ⟨u.toNat, by omega⟩
          have HU := Lib.hid (show ¬ (c.is (k : Int) = false ∨ x < 1 ∨ 2147483647 < x ∨ (v : Int) < 0 ∨ (c.slots : Int) < (v : Int)) by rw [hi]; simp only [Bool.true_eq_false, false_or]; omega)
          have d5 : decide (c.slots < v) = false := decide_eq_false (by omega)
          have HG := Lib.hid (fun w' (hb : Below w.heap.size w w') => (h.below hb).get hd hk)
          have HF := Lib.hid (fun x u w => isFree_any x u w)
          by_cases h0 : c.ep k = 0
          · have HE := Lib.hid (show setC c k x v = (0, c.put k x v) by unfold setC; rw [if_neg HU.out]; simp [h0])
            rw [h0] at HG
            clear h hd hi hx hus h0
            go_enter Tryz.func40, Tryz.ntmps40
            go_wp2_with (first
              | (go_at_call 73; (with_reducible refine HA.out.mono ?_); rintro e w3 ⟨rfl, rfl⟩)
              | (go_at_call 53; (with_reducible refine HSL.out.mono ?_); rintro e w4 ⟨rfl, h4⟩; have b4 := Lib.hid h4; have HGG := HG.out _ h4; have e0 := HGG.1; have e1 := HGG.2.1; clear HGG h4)
              | (go_at_call 56; (with_reducible refine (HF.out _ _ _).mono ?_); rintro e w5 ⟨rfl, h5⟩; clear e0 e1; have b5 := Lib.hid (bel2 b4.out h5); have HGG := HG.out _ b5.out; have e0 := HGG.1; have e1 := HGG.2.1; have f0 := HGG.2.2.1; have f1 := HGG.2.2.2; clear HGG h5))
            go_ret
            rw [HE.out]
            have hput := (HC.out.below b5.out).putAt k x v
            exact ⟨rfl, leftN_then b5.out hput.1 hput.2⟩
          · have HE := Lib.hid (show setC c k x v = (7, c) by unfold setC; rw [if_neg HU.out]; simp [h0])
            have HX := Lib.hid (show (((c.ep k : Nat) : Int) == 0) = false by simp; omega)
            generalize c.ep k = y at *
            generalize c.us k = z at *
            clear h hd hi hx hus h0
            go_enter Tryz.func40, Tryz.ntmps40
            go_wp2_with (first
              | (go_at_call 73; (with_reducible refine HA.out.mono ?_); rintro e w3 ⟨rfl, rfl⟩)
              | (go_at_call 53; (with_reducible refine HSL.out.mono ?_); rintro e w4 ⟨rfl, h4⟩; have b4 := Lib.hid h4; have HGG := HG.out _ h4; have e0 := HGG.1; have e1 := HGG.2.1; clear HGG h4)
              | (go_at_call 56; (with_reducible refine (HF.out _ _ _).mono ?_); rintro e w5 ⟨rfl, h5⟩; rw [HX.out]; have b5 := Lib.hid (bel2 b4.out h5); clear h5))
            go_ret
            rw [HE.out]
            exact ⟨rfl, leftN_below HC.out b5.out⟩
set_option maxRecDepth 100000 in
set_option maxHeartbeats 8000000 in
theorem atErase_any {w : World} {p : Nat} {c : Ch} {bS cap on : Nat} (h : CAt w p c bS cap on) (hd : c.Ok) (i : Int) :
    Calls Tryz.prog 38 #[ptr p, .int .i64 i] w fun e w' => e = .returned (.int .i64 ((eraseC c i).1 : Int)) ∧ LeftN w p bS cap (eraseC c i) w' := by
  have HA := Lib.hid (at_any h hd i)
  have HC := Lib.hid h
  have HD := Lib.hid hd
  unfold ptr at HA ⊢
  cases hi : c.is i with
  | false =>
    rw [atV_not hi] at HA
    have HE := Lib.hid (show eraseC c i = (1, c) by unfold eraseC; rw [if_pos hi])
    clear h hd hi
    go_enter Tryz.func38, Tryz.ntmps38
    go_wp2_with (go_at_call 73; (with_reducible refine HA.out.mono ?_); rintro e w3 ⟨rfl, rfl⟩)
    go_ret
    rw [HE.out]
    exact ⟨rfl, leftN_below HC.out (Below.refl _ _)⟩
  | true =>
    obtain ⟨k, rfl, hk⟩ := Ch.is_lt hi
    rw [atV_nat hk] at HA
    have hr1 := hd.r1
    have HG := Lib.hid (fun w' (hb : Below w.heap.size w w') => (h.below hb).get hd hk)
    have HF := Lib.hid (fun x u w => isFree_any x u w)
    have HO := Lib.hid (fun w' (hb : Below w.heap.size w w') => isOpen_any (h.below hb) k)
    unfold ptr at HO
    have HIF := Lib.hid (show ¬ c.is (k : Int) = false by rw [hi]; simp)
    have e0 := (HG.out _ (Below.refl _ _)).1
    have e1 := (HG.out _ (Below.refl _ _)).2.1
    by_cases h0 : c.ep k = 0
    · have HE := Lib.hid (show eraseC c k = (7, c) by unfold eraseC; rw [if_neg HIF.out]; simp [h0])
      have HX := Lib.hid (show (((c.ep k : Nat) : Int) == 0) = true by rw [h0]; rfl)
      clear h hd hi h0
      generalize c.ep k = y at *
      generalize c.us k = z at *
      go_enter Tryz.func38, Tryz.ntmps38
      go_wp2_with (first
        | (go_at_call 73; (with_reducible refine HA.out.mono ?_); rintro e w3 ⟨rfl, rfl⟩)
        | (go_at_call 56; (with_reducible refine (HF.out _ _ _).mono ?_); rintro e w5 ⟨rfl, h5⟩; rw [HX.out]))
      go_ret
      rw [HE.out]
      exact ⟨rfl, leftN_below HC.out h5⟩
    · have HX := Lib.hid (show (((c.ep k : Nat) : Int) == 0) = false by simp; omega)
      by_cases hno : c.now = some k
      · have HE := Lib.hid (show eraseC c k = (7, c) by unfold eraseC; rw [if_neg HIF.out]; simp [hno])
        rw [show decide (c.now = some k) = true by simp [hno]] at HO
        clear h hd hi h0 hno
        generalize c.ep k = y at *
        generalize c.us k = z at *
        go_enter Tryz.func38, Tryz.ntmps38
        go_wp2_with (first
          | (go_at_call 73; (with_reducible refine HA.out.mono ?_); rintro e w3 ⟨rfl, rfl⟩)
          | (go_at_call 56; (with_reducible refine (HF.out _ _ _).mono ?_); rintro e w5 ⟨rfl, h5⟩; rw [HX.out])
          | (go_at_call 74; (with_reducible refine (HO.out _ h5).mono ?_); rintro e w6 ⟨rfl, rfl⟩))
        go_ret
        rw [HE.out]
        exact ⟨rfl, leftN_below HC.out h5⟩
      · have HE := Lib.hid (show eraseC c k = (0, c.put k 0 0) by unfold eraseC; rw [if_neg HIF.out]; simp [hno, h0])
        rw [show decide (c.now = some k) = false by simp [hno]] at HO
        clear h hd hi h0 hno
        generalize c.ep k = y at *
        generalize c.us k = z at *
        go_enter Tryz.func38, Tryz.ntmps38
        go_wp2_with (first
          | (go_at_call 73; (with_reducible refine HA.out.mono ?_); rintro e w3 ⟨rfl, rfl⟩)
          | (go_at_call 56; (with_reducible refine (HF.out _ _ _).mono ?_); rintro e w5 ⟨rfl, h5⟩; rw [HX.out]; clear e0 e1; have HGG := HG.out _ h5; have e0 := HGG.1; have e1 := HGG.2.1; have f0 := HGG.2.2.1; have f1 := HGG.2.2.2; clear HGG)
          | (go_at_call 74; (with_reducible refine (HO.out _ h5).mono ?_); rintro e w6 ⟨rfl, rfl⟩))
        go_ret
        rw [HE.out]
        have hput := (HC.out.below h5).putAt k 0 0
        exact ⟨rfl, leftN_then h5 hput.1 hput.2⟩
end Go.Proofs.YtcmjambbdfangaaGreat.Chart
/-
  The landed account: Open and Take.
-/
set_option linter.unusedVariables false
set_option linter.unusedSimpArgs false
namespace Go.Proofs.YtcmjambbdfangaaGreat.Chart
open Go.RowKit
open Go.Proofs.YtcmjambbdfangaaGreat.Own
open Tup Foot
open Go.Proofs.YtcmjambbdfangaaGreat.Region (fill Then Deps Each wp_region_is wp_region_is_tail)

theorem page_ok {c : Ch} (h : c.Ok) {k s : Nat} (hk : k < c.rgs) (hs : s < c.pgs) : Geom.pageG ⟨c.pg, c.pgs, c.rgs⟩ (k : Int) (s : Int) = (((k * c.pgs + s : Nat) : Int), true) := by
  unfold Geom.pageG
  rw [if_pos ⟨geo_right h, by omega, by simp only; omega, by omega, by simp only; omega⟩]
  simp only [Int.natCast_add, Int.natCast_mul]
theorem open_at {c : Ch} (hm : c.max < 2147483647) {r : Nat} (hn : c.next = some r) : openC c = ((r, c.max + 1, true), c.openAt r) := by
  unfold openC; rw [if_neg (by omega), hn]
theorem open_end {c : Ch} (hm : 2147483647 ≤ c.max) : openC c = ((0, 0, false), c) := by unfold openC; rw [if_pos hm]
theorem open_full {c : Ch} (hn : c.next = none) : openC c = ((0, 0, false), c) := by unfold openC; rw [hn]; split <;> rfl
set_option maxRecDepth 100000 in
set_option maxHeartbeats 8000000 in
theorem atOpen_any {w : World} {p : Nat} {c : Ch} {bS cap on : Nat} (h : CAt w p c bS cap on) (hd : c.Ok) :
    Calls Tryz.prog 84 #[ptr p] w fun e w' => e = .returned (.tuple #[.int .i64 ((openC c).1.1 : Int), .int .u32 ((openC c).1.2.1 : Int), .bool (openC c).1.2.2]) ∧ Left w p bS cap (openC c).2 w' := by
  have HNW := Lib.hid (newest_any h hd)
  have hr1 := hd.r1
  have htop : c.top < c.rgs := topTo_lt (by have := hd.r0; omega)
  have HFF := Lib.hid (fun w' (hb : Below w.heap.size w w') => freeFrom_any (h.below hb) hd c.top (by omega))
  have HC := Lib.hid h
  have HD := Lib.hid hd
  have HNX := Lib.hid (show c.scan c.top 0 c.rgs = c.next from rfl)
  rw [HNX.out] at HFF
  unfold ptr at HNW HFF ⊢
  have hmx := max_le hd
  by_cases hm : 2147483647 ≤ c.max
  · have HE := Lib.hid (open_end hm)
    have d1 : decide (2147483647 ≤ (c.max : Int)) = true := decide_eq_true (by omega)
    clear h hd hm
    generalize c.top = tp at *
    generalize c.max = mx at *
    go_enter Tryz.func84, Tryz.ntmps84
    go_wp2_with (go_at_call 100; (with_reducible refine HNW.out.mono ?_); rintro e w4 ⟨rfl, h4⟩)
    go_ret3
    rw [HE.out]
    exact ⟨rfl, left_below HC.out h4⟩
  · have d1 : decide (2147483647 ≤ (c.max : Int)) = false := decide_eq_false (by omega)
    cases hn : c.next with
    | none =>
      have HE := Lib.hid (open_full hn)
      rw [hn, show orZero none = 0 from rfl, show (none : Option Nat).isSome = false from rfl] at HFF
      clear h hd hm hn HNX
      generalize c.top = tp at *
      generalize c.max = mx at *
      go_enter Tryz.func84, Tryz.ntmps84
      go_wp2_with (first
        | (go_at_call 100; (with_reducible refine HNW.out.mono ?_); rintro e w4 ⟨rfl, h4⟩)
        | (go_at_call 101; (with_reducible refine (HFF.out _ h4).mono ?_); rintro e w5 ⟨rfl, h5⟩))
      go_ret3
      rw [HE.out]
      exact ⟨rfl, left_below HC.out (bel2 h4 h5)⟩
    | some r =>
      have HE := Lib.hid (open_at (by omega) hn)
      rw [hn, show orZero (some r) = r from rfl, show (some r).isSome = true from rfl] at HFF
      have hrr := (next_lt hd hn).1
      have d2 : decide (r < c.rgs) = true := decide_eq_true hrr
      have HG := Lib.hid (fun w' (hb : Below w.heap.size w w') => (h.below hb).get hd hrr)
      have HV3 := Lib.hid (fun w' (hb : Below w.heap.size w w') => (h.below hb).var.cell (j := 3) rfl)
      have HV := Lib.hid (fun w' (hb : Below w.heap.size w w') => (h.below hb).var)
      have HM := Lib.hid (show ((c.max : Int) + 1) = ((c.max + 1 : Nat) : Int) by omega)
      have hne := h.ne
      have hne2 := Ne.symm h.ne
      clear h hd hm hn HNX
      generalize c.top = tp at *
      obtain ⟨mx, hmx0⟩ : ∃ mx, c.max = mx := ⟨_, rfl⟩
      rw [hmx0] at HM HE hmx d1 HNW
      have HOA := Lib.hid (show c.openAt r = { c.put r (mx + 1) 0 with now := some r } by unfold Ch.openAt; rw [hmx0])
      clear hmx0
      go_enter Tryz.func84, Tryz.ntmps84
      go_wp2_with (first
        | (go_at_call 100; (with_reducible refine HNW.out.mono ?_); rintro e w4 ⟨rfl, h4⟩)
        | (go_at_call 101; (with_reducible refine (HFF.out _ h4).mono ?_); rintro e w5 ⟨rfl, h5⟩; have b5 := Lib.hid (bel2 h4 h5); have HGG := HG.out _ b5.out; have e0 := HGG.1; have e1 := HGG.2.1; have f0 := HGG.2.2.1; have f1 := HGG.2.2.2; have v3 := HV3.out _ b5.out; have hp := (HC.out.below b5.out).putAt r (mx + 1) 0; rw [← HM.out] at hp; have HP := Lib.hid hp; clear hp; have v4 := (HV.out _ b5.out).cell (j := 4) rfl; have v5 := (HV.out _ b5.out).cell (j := 5) rfl; have g4 := (HV.out _ b5.out).frozen 4; have g5 := (HV.out _ b5.out).frozen 5; clear HGG))
      go_ret3
      rw [HE.out]
      have hnw := HP.out.1.nowAt r (by omega)
      refine ⟨by rw [HM.out]; rfl, ?_⟩
      rw [HOA.out]
      exact left_then b5.out (on := r) hnw.1 (Grows.trans HP.out.2 hnw.2 (fun _ x => .inl x))
set_option maxRecDepth 100000 in
set_option maxHeartbeats 8000000 in
theorem atTake_any {w : World} {p : Nat} {c : Ch} {bS cap on : Nat} (h : CAt w p c bS cap on) (hd : c.Ok) :
    Calls Tryz.prog 47 #[ptr p] w fun e w' => e = .returned (.tuple #[.int .i64 ((takeC c).1.1 : Int), .bool (takeC c).1.2]) ∧ Left w p bS cap (takeC c).2 w' := by
  have HL := Lib.hid (atLeft_any h hd)
  have HC := Lib.hid h
  unfold ptr at HL ⊢
  by_cases h0 : c.left = 0
  · have HE := Lib.hid (take_full h0)
    rw [h0] at HL
    clear h hd h0
    go_enter Tryz.func47, Tryz.ntmps47
    go_wp2_with (go_at_call 22; (with_reducible refine HL.out.mono ?_); rintro e w4 ⟨rfl, h4⟩)
    go_ret2
    rw [HE.out]
    exact ⟨rfl, left_below HC.out h4⟩
  · obtain ⟨k, hn, hu, hl⟩ := left_open h0
    have HE := Lib.hid (take_open hn hu)
    have hkr := (hd.now k hn).1
    obtain rfl := h.onk k hn
    have hr1 := hd.r1
    have hs0 := hd.s0
    have hs1 := hd.s1
    have hpos : c.us on + 1 < c.pgs := by unfold Ch.slots at hu; omega
    have HAT := Lib.hid (fun w' (hb : Below w.heap.size w w') => at_any (h.below hb) hd (on : Int))
    rw [atV_nat hkr] at HAT
    unfold ptr at HAT
    have HG := Lib.hid (fun w' (hb : Below w.heap.size w w') => (h.below hb).get hd hkr)
    have HV4 := Lib.hid (fun w' (hb : Below w.heap.size w w') => (h.below hb).var.cell (j := 4) rfl)
    have HU := Lib.hid (fun w' (hb : Below w.heap.size w w') => (h.below hb).useAt hd on (c.us on + 1) hkr)
    have HPG := Lib.hid (fun w => Geom.page_any ⟨c.pg, c.pgs, c.rgs⟩ (on : Int) ((c.us on + 1 : Nat) : Int) w)
    rw [page_ok hd hkr hpos] at HPG
    unfold Geom.gV at HPG
    have HM := Lib.hid (show ((c.us on : Int) + 1) = ((c.us on + 1 : Nat) : Int) by omega)
    have hl0 : ((c.left : Int) == 0) = false := by simp; omega
    have HTA := Lib.hid (show c.takeAt on = c.put on (c.ep on) (c.us on + 1) from rfl)
    obtain ⟨us, hus⟩ : ∃ us, c.us on = us := ⟨_, rfl⟩
    rw [hus] at HM HU HPG HE HTA hpos
    have HG2 := Lib.hid (fun w' (hb : Below w.heap.size w w') => (show w'.cell? ⟨bS, on * 2 + 1, none⟩ = some (.int .i64 (us : Int)) by rw [← hus]; exact (HG.out w' hb).2.1))
    have HG3 := Lib.hid (fun w' (hb : Below w.heap.size w w') => (HG.out w' hb).2.2.2)
    clear h hd h0 hn hu hl hus HG
    generalize c.left = lf at *
    obtain ⟨pp, hpp⟩ : ∃ pp, pp = on * c.pgs + (us + 1) := ⟨_, rfl⟩
    rw [← hpp] at HPG HE
    clear hpp
    go_enter Tryz.func47, Tryz.ntmps47
    go_wp2_with (first
      | (go_at_call 22; (with_reducible refine HL.out.mono ?_); rintro e w4 ⟨rfl, h4⟩; have b4 := Lib.hid h4; clear h4; have v4 := HV4.out _ b4.out; have e1 := HG2.out _ b4.out; have f1 := HG3.out _ b4.out; have HP := Lib.hid (HU.out _ b4.out))
      | (go_at_call 73; (with_reducible refine (HAT.out _ b4.out).mono ?_); rintro e w5 ⟨rfl, rfl⟩))
    rw [HM.out]
    obtain ⟨w5, hw5⟩ : ∃ w5, w5 = w4.setCell ⟨bS, on * 2 + 1, none⟩ (.int .i64 ((us + 1 : Nat) : Int)) := ⟨_, rfl⟩
    rw [← hw5]
    have HP5 := Lib.hid (show CAt w5 p (c.put on (c.ep on) (us + 1)) bS cap on by rw [hw5]; exact HP.out.1)
    have HQ5 := Lib.hid (show w5.cell? ⟨bS, on * 2 + 1, none⟩ = some (.int .i64 ((us + 1 : Nat) : Int)) by rw [hw5]; exact World.cell?_setCell_same _ _ _ e1)
    have HW5 := Lib.hid (show Grows (foot p bS) w4 w5 by rw [hw5]; exact HP.out.2)
    clear hw5 e1 f1 v4 HP
    generalize hz : ((us + 1 : Nat) : Int) = z at *
    refine wp_region_is [21, 22, 23, 24, 25, 26, 27, 28, 29, 30, 31, 32, 33, 34, 35, 2, 3] (fun w' => Below w5.heap.size w5 w')
      [.pointer (some ⟨p, 0, none⟩), .pointer (some ⟨p, 0, none⟩), .pointer (some ⟨p, 0, none⟩), .agg #[.int .i64 (c.pg : Int), .int .i64 (c.pgs : Int), .int .i64 (c.rgs : Int)], .pointer (some ⟨p, 0, none⟩), .pointer (some ⟨p, 0, none⟩), .pointer (some ⟨p, 4, none⟩), .int .i64 (on : Int), .pointer (some ⟨bS, on * 2, none⟩), .pointer (some ⟨bS, on * 2, none⟩), .pointer (some ⟨bS, on * 2 + 1, none⟩), .int .i64 z, .tuple #[.int .i64 (pp : Int), .bool true], .int .i64 (pp : Int), .bool true, .int .i64 (pp : Int), .bool true] (by kernel_rfl) (by kernel_rfl) rfl (by decide) (by simp) (Below.refl _ _).drew ?each ?done
    case each =>
      simp only [Each]
      repeat' (first | exact trivial | refine And.intro ?_ ?_)
      all_goals
        intro ys wx hBx hdeps
        simp only [Deps, Region.binds, List.getD_cons_zero, List.getD_cons_succ, forall_const, and_true] at hdeps
        have q0 : wx.cell? ⟨p, 0, none⟩ = some (.int .i64 (c.pg : Int)) := (HP5.out.below hBx).var.cell (j := 0) rfl
        have q1 : wx.cell? ⟨p, 1, none⟩ = some (.int .i64 (c.pgs : Int)) := (HP5.out.below hBx).var.cell (j := 1) rfl
        have q2 : wx.cell? ⟨p, 2, none⟩ = some (.int .i64 (c.rgs : Int)) := (HP5.out.below hBx).var.cell (j := 2) rfl
        have q4 : wx.cell? ⟨p, 4, none⟩ = some (.int .i64 (on : Int)) := (HP5.out.below hBx).var.cell (j := 4) rfl
        have q5 : wx.cell? ⟨bS, on * 2 + 1, none⟩ = some (.int .i64 z) := by rw [hBx.cell (p := ⟨bS, on * 2 + 1, none⟩) (block_lt_of_cell HQ5.out)]; exact HQ5.out
        simp only [hdeps, fill, List.foldl_cons, List.foldl_nil, Act.put, List.setIfInBounds_toArray, List.set_cons_succ, List.set_cons_zero]
        first
          | (go_wp2_with fail; exact ⟨_, rfl, rfl, hBx, Below.refl _ _⟩)
          | (go_wp2_with (go_at_call 75; (with_reducible refine (HPG.out _).mono ?_); rintro e w3 ⟨rfl, hn⟩); exact ⟨_, rfl, rfl, bel2 hBx hn, hn⟩)
    case done =>
      intro ys wx hBx hV
      have h2 : ys 2 = .int .i64 (pp : Int) := hV 15 (by decide)
      have h3 : ys 3 = .bool true := hV 16 (by decide)
      have HB5 := Lib.hid hBx
      clear hBx hV
      simp only [h2, h3, fill, List.drop_succ_cons, List.drop_zero, List.foldl_cons, List.foldl_nil, Act.put, List.setIfInBounds_toArray, List.set_cons_succ, List.set_cons_zero]
      go_wp2
      go_ret2
      rw [HE.out]
      refine ⟨rfl, left_then b4.out (on := on) ?_ ((HW5.out).trans (grows_below HB5.out) (fun _ x => .inl x))⟩
      rw [HTA.out]
      exact HP5.out.below HB5.out
end Go.Proofs.YtcmjambbdfangaaGreat.Chart
/-
  An account whose regions are taken one behind the other. Nothing of the program.
-/
set_option linter.unusedVariables false
set_option linter.unusedSimpArgs false
namespace Go.Proofs.YtcmjambbdfangaaGreat.Chart
open Go.RowKit
open Go.Proofs.YtcmjambbdfangaaGreat.Own
open Tup Foot

/-- m regions are taken, all but the last full, of the last one u slots are used -/
def pgC (pg pgs rgs m u : Nat) : Ch := ⟨pg, pgs, rgs, (List.range rgs).map (fun j => if j + 1 < m then (j + 1, pgs - 1) else if j + 1 = m then (m, u) else (0, 0)), if m = 0 then none else some (m - 1)⟩
theorem pg_get {pg pgs rgs m u j : Nat} (h : j < rgs) : (pgC pg pgs rgs m u).st.getD j (0, 0) = if j + 1 < m then (j + 1, pgs - 1) else if j + 1 = m then (m, u) else (0, 0) := by
  unfold pgC
  simp only [List.getD_eq_getElem?_getD, List.getElem?_map, List.getElem?_range h]
  rfl
theorem pg_len (pg pgs rgs m u : Nat) : (pgC pg pgs rgs m u).st.length = rgs := by simp [pgC]
theorem pg_ep {pg pgs rgs m u : Nat} (hm : m ≤ rgs) (j : Nat) : (pgC pg pgs rgs m u).ep j = if j + 1 ≤ m then j + 1 else 0 := by
  by_cases h : j < rgs
  · unfold Ch.ep
    rw [pg_get h]
    by_cases e1 : j + 1 < m
    · rw [if_pos e1, if_pos (by omega)]
    · rw [if_neg e1]
      by_cases e2 : j + 1 = m
      · rw [if_pos e2, if_pos (by omega)]; exact e2.symm
      · rw [if_neg e2, if_neg (by omega)]
  · rw [ep_out (pg_len _ _ _ _ _) (show (pgC pg pgs rgs m u).rgs ≤ j by show rgs ≤ j; omega), if_neg (by omega)]
theorem pg_us_last {pg pgs rgs m u : Nat} (hm : m + 1 ≤ rgs) : (pgC pg pgs rgs (m + 1) u).us m = u := by
  unfold Ch.us
  rw [pg_get (by omega), if_neg (by omega), if_pos rfl]
theorem pg_maxTo {pg pgs rgs m u : Nat} (hm : m ≤ rgs) (j : Nat) : (pgC pg pgs rgs m u).maxTo j = min j m := by
  induction j with
  | zero => simp [Ch.maxTo]
  | succ j ih => rw [Ch.maxTo, ih, pg_ep hm]; split <;> (try split) <;> omega
theorem pg_topTo {pg pgs rgs m u : Nat} (hm : m ≤ rgs) (j : Nat) : (pgC pg pgs rgs m u).topTo j = min j m - 1 := by
  induction j with
  | zero => simp [Ch.topTo]
  | succ j ih => rw [Ch.topTo, pg_maxTo hm, pg_ep hm, ih]; split <;> (try split) <;> (try split at *) <;> omega
theorem pg_cntTo {pg pgs rgs m u : Nat} (hm : m ≤ rgs) (j : Nat) : (pgC pg pgs rgs m u).cntTo j = j - min j m := by
  induction j with
  | zero => simp [Ch.cntTo]
  | succ j ih => rw [Ch.cntTo, ih, pg_ep hm]; split <;> (try split at *) <;> omega
theorem pg_max {pg pgs rgs m u : Nat} (hm : m ≤ rgs) : (pgC pg pgs rgs m u).max = m := by
  unfold Ch.max; rw [pg_maxTo hm]; show min rgs m = m; omega
theorem pg_top {pg pgs rgs m u : Nat} (hm : m ≤ rgs) : (pgC pg pgs rgs m u).top = m - 1 := by
  unfold Ch.top; rw [pg_topTo hm]; show min rgs m - 1 = m - 1; omega
theorem pg_free {pg pgs rgs m u : Nat} (hm : m ≤ rgs) : (pgC pg pgs rgs m u).free = rgs - m := by
  unfold Ch.free; rw [pg_cntTo hm]; show rgs - min rgs m = rgs - m; omega
theorem pg_next {pg pgs rgs m u : Nat} (hm : m < rgs) : (pgC pg pgs rgs m u).next = some m := by
  unfold Ch.next
  rw [pg_top (by omega)]
  show (pgC pg pgs rgs m u).scan (m - 1) 0 rgs = _
  cases m with
  | zero =>
    obtain ⟨n, rfl⟩ : ∃ n, rgs = n + 1 := ⟨rgs - 1, by omega⟩
    have := scan_hit (c := pgC pg pgs (n + 1) 0 u) (first := 0) (i := 0) (n := n) (by show (pgC pg pgs (n + 1) 0 u).ep (0 % (n + 1)) = 0; rw [pg_ep (by omega), if_neg (by omega)])
    exact this.trans (by show some (0 % (n + 1)) = some 0; simp)
  | succ m =>
    obtain ⟨n, rfl⟩ : ∃ n, rgs = n + 2 := ⟨rgs - 2, by omega⟩
    have h1 := scan_miss (c := pgC pg pgs (n + 2) (m + 1) u) (first := m) (i := 0) (n := n + 1) (by
      show (pgC pg pgs (n + 2) (m + 1) u).ep (m % (n + 2)) ≠ 0
      rw [Nat.mod_eq_of_lt (by omega), pg_ep (by omega), if_pos (by omega)]; omega)
    have h2 := scan_hit (c := pgC pg pgs (n + 2) (m + 1) u) (first := m) (i := 1) (n := n) (by
      show (pgC pg pgs (n + 2) (m + 1) u).ep ((m + 1) % (n + 2)) = 0
      rw [Nat.mod_eq_of_lt (by omega), pg_ep (by omega), if_neg (by omega)])
    exact (h1.trans h2).trans (by show some ((m + 1) % (n + 2)) = some (m + 1); rw [Nat.mod_eq_of_lt (by omega)])
theorem ch_ext {a b : Ch} (h1 : a.pg = b.pg) (h2 : a.pgs = b.pgs) (h3 : a.rgs = b.rgs) (h4 : a.st = b.st) (h5 : a.now = b.now) : a = b := by
  obtain ⟨a1, a2, a3, a4, a5⟩ := a
  obtain ⟨b1, b2, b3, b4, b5⟩ := b
  simp only at h1 h2 h3 h4 h5
  subst h1 h2 h3 h4 h5
  rfl
theorem pg_set {pg pgs rgs m u k : Nat} {x : Nat × Nat} {n v : Nat} (h : ∀ j, j < rgs → (if k = j then x else if j + 1 < m then (j + 1, pgs - 1) else if j + 1 = m then (m, u) else (0, 0)) = (if j + 1 < n then (j + 1, pgs - 1) else if j + 1 = n then (n, v) else (0, 0))) : (pgC pg pgs rgs m u).st.set k x = (pgC pg pgs rgs n v).st := by
  apply List.ext_getElem?
  intro j
  rw [List.getElem?_set]
  by_cases hj : j < rgs
  · have e1 : (pgC pg pgs rgs m u).st[j]? = some (if j + 1 < m then (j + 1, pgs - 1) else if j + 1 = m then (m, u) else (0, 0)) := by
      unfold pgC; simp only [List.getElem?_map, List.getElem?_range hj]; rfl
    have e2 : (pgC pg pgs rgs n v).st[j]? = some (if j + 1 < n then (j + 1, pgs - 1) else if j + 1 = n then (n, v) else (0, 0)) := by
      unfold pgC; simp only [List.getElem?_map, List.getElem?_range hj]; rfl
    rw [e1, e2, ← h j hj, pg_len]
    by_cases e : k = j
    · subst e; simp [hj]
    · simp [e]
  · rw [List.getElem?_eq_none (by rw [pg_len]; omega), List.getElem?_eq_none (by rw [pg_len]; omega), pg_len]
    by_cases e : k = j
    · subst e; simp [hj]
    · simp [e]
theorem pg_open {pg pgs rgs m u : Nat} (hm : m < rgs) (hr : rgs ≤ 12) (hu : m = 0 ∨ u = pgs - 1) : openC (pgC pg pgs rgs m u) = ((m, m + 1, true), pgC pg pgs rgs (m + 1) 0) := by
  have := open_at (c := pgC pg pgs rgs m u) (by rw [pg_max (by omega)]; omega) (pg_next hm)
  rw [this, pg_max (by omega)]
  congr 1
  unfold Ch.openAt
  rw [pg_max (by omega)]
  refine ch_ext rfl rfl rfl ?_ ?_
  · refine pg_set (fun j hj => ?_)
    by_cases e : m = j
    · subst e; rw [if_pos rfl, if_neg (by omega), if_pos rfl]
    · rw [if_neg e]
      by_cases e1 : j + 1 < m
      · rw [if_pos e1, if_pos (by omega)]
      · rw [if_neg e1]
        by_cases e2 : j + 1 = m
        · rw [if_pos e2, if_pos (by omega)]
          rcases hu with h0 | h0
          · omega
          · rw [h0, e2]
        · rw [if_neg e2, if_neg (by omega), if_neg (by omega)]
  · show some m = if m + 1 = 0 then none else some (m + 1 - 1)
    rw [if_neg (by omega)]; rfl
theorem pg_open_none {pg pgs rgs u : Nat} (hr : 0 < rgs) : openC (pgC pg pgs rgs rgs u) = ((0, 0, false), pgC pg pgs rgs rgs u) := by
  refine open_full ?_
  unfold Ch.next
  exact (scan_free (c := pgC pg pgs rgs rgs u) hr).2 (by rw [pg_free (Nat.le_refl _)]; omega)
theorem pg_take {pg pgs rgs m u : Nat} (hm : m + 1 ≤ rgs) (hu : u < pgs - 1) : takeC (pgC pg pgs rgs (m + 1) u) = ((m * pgs + (u + 1), true), pgC pg pgs rgs (m + 1) (u + 1)) := by
  have hn : (pgC pg pgs rgs (m + 1) u).now = some m := rfl
  have hus := pg_us_last (pg := pg) (pgs := pgs) (u := u) hm
  have := take_open hn (by rw [hus]; exact hu)
  rw [this, hus]
  congr 1
  unfold Ch.takeAt
  rw [hus, pg_ep hm, if_pos (Nat.le_refl _)]
  refine ch_ext rfl rfl rfl ?_ rfl
  refine pg_set (fun j hj => ?_)
  by_cases e : m = j
  · subst e; rw [if_pos rfl, if_neg (by omega), if_pos rfl]
  · rw [if_neg e]
    by_cases e1 : j + 1 < m + 1
    · rw [if_pos e1, if_pos e1]
    · rw [if_neg e1, if_neg e1, if_neg (by omega), if_neg (by omega)]
theorem pg_take_none {pg pgs rgs m u : Nat} (hm : m ≤ rgs) (hu : m = 0 ∨ u = pgs - 1) : takeC (pgC pg pgs rgs m u) = ((0, false), pgC pg pgs rgs m u) := by
  refine take_full ?_
  unfold Ch.left
  cases m with
  | zero => rfl
  | succ m =>
    show (pgC pg pgs rgs (m + 1) u).slots - (pgC pg pgs rgs (m + 1) u).us m = 0
    rw [pg_us_last hm]
    show pgs - 1 - u = 0
    omega
theorem pg_zero (pg pgs rgs u : Nat) : pgC pg pgs rgs 0 u = newC pg pgs rgs := by
  refine ch_ext rfl rfl rfl ?_ rfl
  apply List.ext_getElem?
  intro j
  unfold pgC newC
  simp only [List.getElem?_map, List.getElem?_replicate]
  by_cases hj : j < rgs
  · rw [List.getElem?_range hj, if_pos hj]; simp
  · rw [List.getElem?_eq_none (by simp; omega), if_neg hj]; rfl
theorem pg_ok {pg pgs rgs m u : Nat} (h : (newC pg pgs rgs).Ok) (hm : m ≤ rgs) (hu : u ≤ pgs - 1) (h0 : m = 0 → u = 0) : (pgC pg pgs rgs m u).Ok := by
  have hr1 : rgs ≤ 12 := h.r1
  refine ⟨h.p0, h.p1, h.s0, h.s1, h.r0, h.r1, pg_len _ _ _ _ _, fun i => ?_, fun i => ?_, fun i hi => ?_, fun k hk => ?_⟩
  · rw [pg_ep hm]; split <;> omega
  · by_cases hi : i < rgs
    · unfold Ch.us; rw [pg_get hi]
      show (if i + 1 < m then (i + 1, pgs - 1) else if i + 1 = m then (m, u) else (0, 0)).2 ≤ pgs - 1
      split
      · exact Nat.le_refl _
      · split
        · exact hu
        · exact Nat.zero_le _
    · rw [us_out (pg_len _ _ _ _ _) (show (pgC pg pgs rgs m u).rgs ≤ i by show rgs ≤ i; omega)]; omega
  · rw [pg_ep hm] at hi
    have hi2 : ¬ i + 1 ≤ m := by intro e; rw [if_pos e] at hi; omega
    by_cases hi3 : i < rgs
    · unfold Ch.us; rw [pg_get hi3, if_neg (by omega), if_neg (by omega)]
    · exact us_out (pg_len _ _ _ _ _) (show (pgC pg pgs rgs m u).rgs ≤ i by show rgs ≤ i; omega)
  · have hk2 : (if m = 0 then none else some (m - 1)) = some k := hk
    split at hk2
    · simp at hk2
    · simp only [Option.some.injEq] at hk2
      subst hk2
      exact ⟨by show m - 1 < rgs; omega, by rw [pg_ep hm, if_pos (by omega)]; omega⟩
theorem pg_oldTo {pg pgs rgs u : Nat} (hr : 2 ≤ rgs) {j : Nat} (hj : 0 < j) (hjr : j ≤ rgs) : (pgC pg pgs rgs rgs u).oldTo j = some 0 := by
  induction j with
  | zero => omega
  | succ j ih =>
    rw [Ch.oldTo]
    have hn : (pgC pg pgs rgs rgs u).now = some (rgs - 1) := by show (if rgs = 0 then none else some (rgs - 1)) = _; rw [if_neg (by omega)]
    have he : (pgC pg pgs rgs rgs u).ep j = j + 1 := by rw [pg_ep (Nat.le_refl _), if_pos (by omega)]
    cases j with
    | zero =>
      rw [if_neg (by rw [he, hn]; simp; omega)]; rfl
    | succ j =>
      have h1 := ih (by omega) (by omega)
      rw [h1]
      by_cases hl : j + 1 = rgs - 1
      · rw [if_pos (by rw [hn, hl]; exact .inr rfl)]
      · rw [if_neg (by rw [he, hn]; simp; omega)]
        simp only
        rw [if_neg (by rw [he, pg_ep (Nat.le_refl _), if_pos (by omega)]; omega)]
theorem pg_oldest {pg pgs rgs u : Nat} (hr : 2 ≤ rgs) : oldestC (pgC pg pgs rgs rgs u) = (0, true) := by
  unfold oldestC
  rw [pg_oldTo hr (show 0 < (pgC pg pgs rgs rgs u).rgs by show 0 < rgs; omega) (Nat.le_refl rgs)]
theorem pg_full_left {pg pgs rgs : Nat} (hr : 1 ≤ rgs) : (pgC pg pgs rgs rgs (pgs - 1)).left = 0 := by
  obtain ⟨n, rfl⟩ : ∃ n, rgs = n + 1 := ⟨rgs - 1, by omega⟩
  show (pgC pg pgs (n + 1) (n + 1) (pgs - 1)).slots - (pgC pg pgs (n + 1) (n + 1) (pgs - 1)).us n = 0
  rw [pg_us_last (Nat.le_refl _)]
  show pgs - 1 - (pgs - 1) = 0
  omega
theorem pg_full_avail {pg pgs rgs : Nat} (hr : 1 ≤ rgs) : (pgC pg pgs rgs rgs (pgs - 1)).avail = 0 := by
  unfold Ch.avail; rw [pg_full_left hr, pg_free (Nat.le_refl _)]; simp
theorem pg_erase_last {pg pgs rgs u : Nat} (hr : 1 ≤ rgs) : eraseC (pgC pg pgs rgs rgs u) ((rgs - 1 : Nat) : Int) = (7, pgC pg pgs rgs rgs u) := by
  unfold eraseC
  rw [if_neg (by rw [Ch.is_nat (show rgs - 1 < (pgC pg pgs rgs rgs u).rgs by show rgs - 1 < rgs; omega)]; simp), if_pos]
  right
  show (if rgs = 0 then none else some (rgs - 1)) = some (((rgs - 1 : Nat) : Int).toNat)
  rw [if_neg (by omega), Int.toNat_natCast]
theorem pg_erase_first {pg pgs rgs u : Nat} (hr : 2 ≤ rgs) : eraseC (pgC pg pgs rgs rgs u) 0 = (0, (pgC pg pgs rgs rgs u).put 0 0 0) := by
  unfold eraseC
  rw [if_neg (by rw [show (0 : Int) = ((0 : Nat) : Int) from rfl, Ch.is_nat (show 0 < (pgC pg pgs rgs rgs u).rgs by show 0 < rgs; omega)]; simp), if_neg]
  · rfl
  · rintro (h | h)
    · rw [show (0 : Int).toNat = 0 from rfl, pg_ep (Nat.le_refl _), if_pos (by omega)] at h; omega
    · have h2 : (if rgs = 0 then none else some (rgs - 1)) = some 0 := h
      rw [if_neg (by omega)] at h2
      simp at h2; omega
theorem pg_put_cnt {pg pgs rgs u : Nat} (hr : 2 ≤ rgs) {j : Nat} (hj : 0 < j) (hjr : j ≤ rgs) : ((pgC pg pgs rgs rgs u).put 0 0 0).cntTo j = 1 := by
  induction j with
  | zero => omega
  | succ j ih =>
    rw [Ch.cntTo, put_ep (pg_len _ _ _ _ _) (show 0 < (pgC pg pgs rgs rgs u).rgs by show 0 < rgs; omega)]
    cases j with
    | zero => simp [Ch.cntTo]
    | succ j =>
      rw [ih (by omega) (by omega), if_neg]
      show ¬ ((if j + 1 = 0 then 0 else (pgC pg pgs rgs rgs u).ep (j + 1)) = 0)
      rw [if_neg (by omega), pg_ep (Nat.le_refl _), if_pos (by omega)]; omega
theorem pg_put_free {pg pgs rgs u : Nat} (hr : 2 ≤ rgs) : ((pgC pg pgs rgs rgs u).put 0 0 0).free = 1 := pg_put_cnt hr (show 0 < rgs by omega) (Nat.le_refl rgs)
end Go.Proofs.YtcmjambbdfangaaGreat.Chart
