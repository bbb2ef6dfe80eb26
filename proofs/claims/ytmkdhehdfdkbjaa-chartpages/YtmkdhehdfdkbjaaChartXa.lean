/-
  The landed account: what is told of one region, and of all.
-/
import Derived.Test.YtmkdhehdfdkbjaaChartR
set_option linter.unusedVariables false
set_option linter.unusedSimpArgs false
namespace Go.Proofs.Ytmkdhehdfdkbjaa.Chart
open Go.RowKit
open Go.Proofs.Ytmkdhehdfdkbjaa.Own
open Tup Foot

set_option maxRecDepth 100000 in
theorem isFree_any (x u : Int) (w : World) : Calls Try.prog 43 #[.agg #[.int .u32 x, .int .i64 u]] w fun e w' => e = .returned (.bool (x == 0)) ∧ Below w.heap.size w w' := by
  go_enter Try.func43, Try.ntmps43
  go_wp2
  go_ret
  exact ⟨rfl, Geom.bel_alloc _ _⟩
set_option maxRecDepth 100000 in
theorem all_any {w : World} {p : Nat} {c : Ch} {bS cap on : Nat} (h : CAt w p c bS cap on) :
    Calls Try.prog 42 #[ptr p] w fun e w' => e = .returned (.slice (some ⟨bS, 0, none⟩) c.rgs cap) ∧ w = w' := by
  have c3 := h.var.cell (j := 3) rfl
  clear h
  unfold ptr
  go_enter Try.func42, Try.ntmps42
  go_wp2
  go_ret
  exact ⟨rfl, rfl⟩
set_option maxRecDepth 100000 in
theorem geom_any {w : World} {p : Nat} {c : Ch} {bS cap on : Nat} (h : CAt w p c bS cap on) :
    Calls Try.prog 13 #[ptr p] w fun e w' => e = .returned (.agg #[.int .i64 (c.pg : Int), .int .i64 (c.pgs : Int), .int .i64 (c.rgs : Int)]) ∧ Below w.heap.size w w' := by
  have c0 := h.var.cell (j := 0) rfl
  have c1 := h.var.cell (j := 1) rfl
  have c2 := h.var.cell (j := 2) rfl
  have hp := h.var.lt
  clear h
  unfold ptr
  go_enter Try.func13, Try.ntmps13
  go_wp2
  refine bodyPost_ret (v := .agg #[.int .i64 (c.pg : Int), .int .i64 (c.pgs : Int), .int .i64 (c.rgs : Int)]) (by simp [results, Try.results13, go_sem]) rfl ⟨rfl, Geom.bel_alloc _ _⟩
set_option maxRecDepth 100000 in
theorem slots_any {w : World} {p : Nat} {c : Ch} {bS cap on : Nat} (h : CAt w p c bS cap on) (hd : c.Ok) :
    Calls Try.prog 47 #[ptr p] w fun e w' => e = .returned (.int .i64 (c.slots : Int)) ∧ Below w.heap.size w w' := by
  have HG := Lib.hid (geom_any h)
  have HS := Lib.hid (fun w => Geom.slots_any ⟨c.pg, c.pgs, c.rgs⟩ w)
  rw [geo_right hd] at HS
  simp only [if_true, geo_slots hd] at HS
  unfold Geom.gV at HS
  unfold ptr at HG ⊢
  clear h hd
  go_enter Try.func47, Try.ntmps47
  go_wp2_with (first
    | (go_at_call 13; (with_reducible refine HG.out.mono ?_); rintro e w3 ⟨rfl, h3⟩)
    | (go_at_call 52; (with_reducible refine (HS.out _).mono ?_); rintro e w4 ⟨rfl, h4⟩))
  go_ret
  exact ⟨rfl, bel2 h3 h4⟩
set_option maxRecDepth 100000 in
theorem isOpen_any {w : World} {p : Nat} {c : Ch} {bS cap on : Nat} (h : CAt w p c bS cap on) (k : Nat) :
    Calls Try.prog 44 #[ptr p, .int .i64 (k : Int)] w fun e w' => e = .returned (.bool (decide (c.now = some k))) ∧ w = w' := by
  have c4 := h.var.cell (j := 4) rfl
  have c5 := h.var.cell (j := 5) rfl
  unfold ptr
  cases hn : c.now with
  | none =>
    rw [hn] at c5
    clear h hn
    have c5' : w.cell? ⟨p, 5, none⟩ = some (.bool false) := c5
    clear c5
    go_enter Try.func44, Try.ntmps44
    go_wp2
    go_ret
    exact ⟨rfl, rfl⟩
  | some j =>
    obtain rfl := h.onk j hn
    rw [hn] at c5
    have c5' : w.cell? ⟨p, 5, none⟩ = some (.bool true) := c5
    clear c5 h hn
    go_enter Try.func44, Try.ntmps44
    go_wp2
    go_ret
    refine ⟨ret_bool ?_, rfl⟩
    by_cases e : on = k
    · subst e; simp
    · have : ¬ ((on : Int) = (k : Int)) := by omega
      simp [e, this]
def atV (c : Ch) (bS : Nat) (i : Int) : Value := if c.is i = true then .pointer (some ⟨bS, i.toNat * 2, none⟩) else .pointer none
theorem atV_not {c : Ch} {bS : Nat} {i : Int} (h : c.is i = false) : atV c bS i = .pointer none := by unfold atV; rw [h]; rfl
theorem atV_nat {c : Ch} {bS k : Nat} (h : k < c.rgs) : atV c bS (k : Int) = .pointer (some ⟨bS, k * 2, none⟩) := by unfold atV; rw [if_pos (Ch.is_nat h)]; rfl
set_option maxRecDepth 100000 in
theorem at_any {w : World} {p : Nat} {c : Ch} {bS cap on : Nat} (h : CAt w p c bS cap on) (hd : c.Ok) (i : Int) :
    Calls Try.prog 45 #[ptr p, .int .i64 i] w fun e w' => e = .returned (atV c bS i) ∧ w = w' := by
  have HA := Lib.hid (all_any h)
  have r1 := hd.r1
  unfold ptr at HA ⊢
  cases hi : c.is i with
  | false =>
    rw [atV_not hi]
    rcases Ch.is_not hi with hl | hl
    · have d1 : decide (i < 0) = true := decide_eq_true hl
      clear h hd hi
      go_enter Try.func45, Try.ntmps45
      go_wp2_with (go_at_call 42; (with_reducible refine HA.out.mono ?_); rintro e w3 ⟨rfl, rfl⟩)
      go_ret
      exact ⟨rfl, rfl⟩
    · have d1 : decide (i < 0) = false := decide_eq_false (by omega)
      have d2 : decide ((c.rgs : Int) ≤ i) = true := decide_eq_true hl
      clear h hd hi
      go_enter Try.func45, Try.ntmps45
      go_wp2_with (go_at_call 42; (with_reducible refine HA.out.mono ?_); rintro e w3 ⟨rfl, rfl⟩)
      go_ret
      exact ⟨rfl, rfl⟩
  | true =>
    obtain ⟨k, rfl, hk⟩ := Ch.is_lt hi
    rw [atV_nat hk]
    have d1 : decide ((k : Int) < 0) = false := decide_eq_false (by omega)
    have d2 : decide ((c.rgs : Int) ≤ (k : Int)) = false := decide_eq_false (by omega)
    have d3 : decide (k < c.rgs) = true := decide_eq_true hk
    clear h hd hi
    go_enter Try.func45, Try.ntmps45
    go_wp2_with (go_at_call 42; (with_reducible refine HA.out.mono ?_); rintro e w3 ⟨rfl, rfl⟩)
    go_ret
    exact ⟨rfl, rfl⟩
set_option maxRecDepth 100000 in
theorem atEpoch_any {w : World} {p : Nat} {c : Ch} {bS cap on : Nat} (h : CAt w p c bS cap on) (hd : c.Ok) (i : Int) :
    Calls Try.prog 30 #[ptr p, .int .i64 i] w fun e w' => e = .returned (.int .u32 (epochC c i : Int)) ∧ w = w' := by
  have HA := Lib.hid (at_any h hd i)
  unfold ptr at HA ⊢
  unfold epochC
  cases hi : c.is i with
  | false =>
    rw [atV_not hi] at HA
    clear h hd hi
    go_enter Try.func30, Try.ntmps30
    go_wp2_with (go_at_call 45; (with_reducible refine HA.out.mono ?_); rintro e w3 ⟨rfl, rfl⟩)
    go_ret
    exact ⟨rfl, rfl⟩
  | true =>
    obtain ⟨k, rfl, hk⟩ := Ch.is_lt hi
    rw [atV_nat hk] at HA
    obtain ⟨e0, e1, -, -⟩ := h.get hd hk
    simp only [Int.toNat_natCast, if_true]
    clear h hd hi
    go_enter Try.func30, Try.ntmps30
    go_wp2_with (go_at_call 45; (with_reducible refine HA.out.mono ?_); rintro e w3 ⟨rfl, rfl⟩)
    go_ret
    exact ⟨rfl, rfl⟩
set_option maxRecDepth 100000 in
theorem atUsed_any {w : World} {p : Nat} {c : Ch} {bS cap on : Nat} (h : CAt w p c bS cap on) (hd : c.Ok) (i : Int) :
    Calls Try.prog 31 #[ptr p, .int .i64 i] w fun e w' => e = .returned (.int .i64 (usedC c i : Int)) ∧ w = w' := by
  have HA := Lib.hid (at_any h hd i)
  unfold ptr at HA ⊢
  unfold usedC
  cases hi : c.is i with
  | false =>
    rw [atV_not hi] at HA
    clear h hd hi
    go_enter Try.func31, Try.ntmps31
    go_wp2_with (go_at_call 45; (with_reducible refine HA.out.mono ?_); rintro e w3 ⟨rfl, rfl⟩)
    go_ret
    exact ⟨rfl, rfl⟩
  | true =>
    obtain ⟨k, rfl, hk⟩ := Ch.is_lt hi
    rw [atV_nat hk] at HA
    obtain ⟨e0, e1, -, -⟩ := h.get hd hk
    simp only [Int.toNat_natCast, if_true]
    clear h hd hi
    go_enter Try.func31, Try.ntmps31
    go_wp2_with (go_at_call 45; (with_reducible refine HA.out.mono ?_); rintro e w3 ⟨rfl, rfl⟩)
    go_ret
    exact ⟨rfl, rfl⟩
set_option maxRecDepth 100000 in
set_option maxHeartbeats 4000000 in
theorem newest_any {w : World} {p : Nat} {c : Ch} {bS cap on : Nat} (h : CAt w p c bS cap on) (hd : c.Ok) :
    Calls Try.prog 48 #[ptr p] w fun e w' => e = .returned (.tuple #[.int .i64 (c.top : Int), .int .u32 (c.max : Int)]) ∧ Below w.heap.size w w' := by
  have HA := Lib.hid (all_any h)
  have HC := Lib.hid h
  have HD := Lib.hid hd
  have r1 := hd.r1
  obtain ⟨n, hn⟩ : ∃ n, c.rgs = n := ⟨_, rfl⟩
  have HN := Lib.hid hn
  rw [hn] at HA r1
  unfold Ch.top Ch.max
  rw [hn]
  unfold ptr at HA ⊢
  clear h hd hn
  go_enter Try.func48, Try.ntmps48
  go_wp2_with (go_at_call 42; (with_reducible refine HA.out.mono ?_); rintro e w3 ⟨rfl, rfl⟩)
  go_loopw [2, 3, 9] (fun a b i wr => ∃ k : Nat, i = .int .i64 (k : Int) ∧ k ≤ n ∧ a = .int .i64 (c.topTo k : Int) ∧ b = .int .u32 (c.maxTo k : Int) ∧ Below w.heap.size w wr) (fun _ _ i _ => n - (intOf i).toNat)
  case atStart => exact ⟨0, rfl, Nat.zero_le _, rfl, rfl, Below.refl _ _⟩
  case round =>
    obtain ⟨k, rfl, hk, rfl, rfl, hB⟩ := hrel
    have HB := Lib.hid hB
    by_cases hlt : k < n
    · obtain ⟨e0, e1, -, -⟩ := (HC.out.below hB).get HD.out (k := k) (by rw [HN.out]; exact hlt)
      have d1 : decide ((k : Int) < (n : Int)) = true := by simp; omega
      have d2 : decide (k < n) = true := by simp; omega
      have HT := Lib.hid (show c.topTo (k + 1) = if c.maxTo k < c.ep k then k else c.topTo k from rfl)
      have HM := Lib.hid (show c.maxTo (k + 1) = if c.maxTo k < c.ep k then c.ep k else c.maxTo k from rfl)
      clear hB
      generalize c.ep k = x at *
      generalize c.maxTo k = m at *
      generalize c.topTo k = t at *
      by_cases hx : m < x
      · have d3 : decide ((m : Int) < (x : Int)) = true := by simp; omega
        rw [if_pos hx] at HT HM
        go_wp2
        go_quiet (fail)
        go_wp2
        refine ⟨⟨k + 1, by go_num, by omega, by rw [HT.out], by rw [HM.out], bel2 HB.out (below_drewN (Geom.bel_alloc _ _) _)⟩, by simp [intOf]; omega⟩
      · have d3 : decide ((m : Int) < (x : Int)) = false := by simp; omega
        rw [if_neg hx] at HT HM
        go_wp2
        refine ⟨⟨k + 1, by go_num, by omega, by rw [HT.out], by rw [HM.out], bel2 HB.out (Geom.bel_alloc _ _)⟩, by simp [intOf]; omega⟩
    · obtain rfl : k = n := by omega
      have d1 : decide ((k : Int) < (k : Int)) = false := by simp
      clear hB
      go_wp2
      go_ret2
      exact ⟨rfl, HB.out⟩
set_option maxRecDepth 100000 in
set_option maxHeartbeats 4000000 in
theorem atFree_any {w : World} {p : Nat} {c : Ch} {bS cap on : Nat} (h : CAt w p c bS cap on) (hd : c.Ok) :
    Calls Try.prog 20 #[ptr p] w fun e w' => e = .returned (.int .i64 (c.free : Int)) ∧ Below w.heap.size w w' := by
  have HA := Lib.hid (all_any h)
  have HF := Lib.hid (fun x u w => isFree_any x u w)
  have HC := Lib.hid h
  have HD := Lib.hid hd
  have r1 := hd.r1
  obtain ⟨n, hn⟩ : ∃ n, c.rgs = n := ⟨_, rfl⟩
  have HN := Lib.hid hn
  rw [hn] at HA r1
  unfold Ch.free
  rw [hn]
  unfold ptr at HA ⊢
  clear h hd hn
  go_enter Try.func20, Try.ntmps20
  go_wp2_with (go_at_call 42; (with_reducible refine HA.out.mono ?_); rintro e w3 ⟨rfl, rfl⟩)
  go_loopw [3, 9] (fun a i wr => ∃ k : Nat, i = .int .i64 (k : Int) ∧ k ≤ n ∧ a = .int .i64 (c.cntTo k : Int) ∧ Below w.heap.size w wr) (fun _ i _ => n - (intOf i).toNat)
  case atStart => exact ⟨0, rfl, Nat.zero_le _, rfl, Below.refl _ _⟩
  case round =>
    obtain ⟨k, rfl, hk, rfl, hB⟩ := hrel
    have HB := Lib.hid hB
    by_cases hlt : k < n
    · obtain ⟨e0, e1, -, -⟩ := (HC.out.below hB).get HD.out (k := k) (by rw [HN.out]; exact hlt)
      have d1 : decide ((k : Int) < (n : Int)) = true := by simp; omega
      have d2 : decide (k < n) = true := by simp; omega
      have hcl := cntTo_le c k
      have HT := Lib.hid (show c.cntTo (k + 1) = if c.ep k = 0 then c.cntTo k + 1 else c.cntTo k from rfl)
      clear hB
      generalize c.ep k = x at *
      generalize c.us k = u at *
      generalize c.cntTo k = m at *
      by_cases hx : x = 0
      · rw [if_pos hx] at HT
        have HX := Lib.hid (show (((x : Nat) : Int) == 0) = true by simp; omega)
        clear hx
        go_wp2_with (go_at_call 43; (with_reducible refine (HF.out _ _ _).mono ?_); rintro e w4 ⟨rfl, h4⟩; rw [HX.out])
        refine ⟨⟨k + 1, by go_num, by omega, by rw [HT.out]; go_num, bel2 (bel2 HB.out (Geom.bel_alloc _ _)) h4⟩, by simp [intOf]; omega⟩
      · rw [if_neg hx] at HT
        have HX := Lib.hid (show (((x : Nat) : Int) == 0) = false by simp; omega)
        clear hx
        go_wp2_with (go_at_call 43; (with_reducible refine (HF.out _ _ _).mono ?_); rintro e w4 ⟨rfl, h4⟩; rw [HX.out])
        refine ⟨⟨k + 1, by go_num, by omega, by rw [HT.out], bel2 (bel2 HB.out (Geom.bel_alloc _ _)) h4⟩, by simp [intOf]; omega⟩
    · obtain rfl : k = n := by omega
      have d1 : decide ((k : Int) < (k : Int)) = false := by simp
      clear hB
      go_wp2
      go_ret
      exact ⟨rfl, HB.out⟩
end Go.Proofs.Ytmkdhehdfdkbjaa.Chart
