/-
  Joined texts: ChartXe, ChartD, ChartDb, ChartDc.
-/
import Derived.Test.YtcmjambbdfangaaGreatRunChartXa
/-
  A new account: the landed one, the document's own.
-/
set_option linter.unusedVariables false
set_option linter.unusedSimpArgs false
namespace Go.Proofs.YtcmjambbdfangaaGreat.Chart
open Go.RowKit
open Go.Proofs.YtcmjambbdfangaaGreat.Own
open Tup Foot
open Go.Proofs.YtcmjambbdfangaaGreat.Region (fill Then Deps Each wp_region_tail)

theorem made2 (n : Nat) : (madeCells #[Value.int .u32 0, Value.int .i64 0] (n * 2)).toList = stC (List.replicate n (0, 0)) := by
  apply List.ext_getElem?
  intro j
  have hl : (stC (List.replicate n (0, 0))).length = n * 2 := by
    unfold stC; induction n with
    | zero => rfl
    | succ n ih => rw [List.replicate_succ, List.flatMap_cons, List.length_append, ih]; simp only [List.length_cons, List.length_nil]; omega
  by_cases hj : j < n * 2
  · have hk : j / 2 < (List.replicate n ((0 : Nat), (0 : Nat))).length := by simp; omega
    obtain ⟨h0, h1⟩ := stC_get hk
    simp only [List.getElem_replicate] at h0 h1
    have e1 : (madeCells #[Value.int .u32 0, Value.int .i64 0] (n * 2)).toList[j]? = some (#[Value.int .u32 0, Value.int .i64 0][j % 2]!) := by
      simp [madeCells, hj]
    rw [e1]
    rcases Nat.mod_two_eq_zero_or_one j with h | h
    · rw [h, show j = j / 2 * 2 by omega, h0]; rfl
    · rw [h, show j = j / 2 * 2 + 1 by omega, h1]; rfl
  · rw [List.getElem?_eq_none (l := stC _) (by rw [hl]; omega), List.getElem?_eq_none (by simp only [Array.length_toList, size_madeCells]; omega)]
/-- the values of operations some of which make rows -/
def NR (tab : List Value) (B : List (Nat × Nat × Nat × List Value)) : Nat → Value → World → Prop := fun i v w => match B.lookup i with
  | some (n, base, cs) => ∃ g cap, v = .slice (some ⟨g, 0, none⟩) n cap ∧ n ≤ cap ∧ Ro w g cs ∧ base ≤ g ∧ g < w.heap.size
  | none => v = tab.getD i undef
theorem NR.mono (tab : List Value) (B : List (Nat × Nat × Nat × List Value)) : ∀ i v w w', NR tab B i v w → Below w.heap.size w w' → NR tab B i v w' := by
  intro i v w w' h hb
  unfold NR at h ⊢
  split
  · rename_i n base cs e
    rw [e] at h
    obtain ⟨g, cap, h1, h2, h3, h4, h5⟩ := h
    exact ⟨g, cap, h1, h2, h3.below hb, h4, Nat.lt_of_lt_of_le h5 hb.size⟩
  · rename_i e
    rw [e] at h; exact h
theorem new_st (pg pgs rgs : Nat) : (newC pg pgs rgs).st = List.replicate rgs (0, 0) := rfl
theorem below_make {w w2 : World} (h : w.grownBy w2 none) : Below w.heap.size w w2 := (Below.refl _ _).grown h (Nat.le_refl _) (fun k hk => by simp at hk)
theorem infoState : (Tryz.prog.info? 98).map (fun i => (i.zero, i.size, i.bytes)) = some (some (.agg #[.int .u32 0, .int .i64 0]), 2, 16) := by kernel_rfl
theorem infoI64 : (Tryz.prog.info? 3).map (fun i => (i.zero, i.size, i.bytes)) = some (some (.int .i64 0), 1, 8) := by kernel_rfl
theorem infoU32 : (Tryz.prog.info? 29).map (fun i => (i.zero, i.size, i.bytes)) = some (some (.int .u32 0), 1, 4) := by kernel_rfl
/-- what a makeSlice leaves -/
def Makes (t e : TypeId) (n : Nat) (cs : List Value) : Prop := ∀ w : World, ∃ w', (Instr.makeSlice t (.int .i64 (n : Int)) (.int .i64 (n : Int))).run Tryz.prog w = .ok (.slice (some ⟨w.heap.size, 0, none⟩) n n) w' ∧ Ro w' w.heap.size cs ∧ Below w.heap.size w w' ∧ w.heap.size < w'.heap.size
theorem Makes.go {t e : TypeId} {n : Nat} {cs : List Value} (h : Makes t e n cs) (w : World) : ∃ w', (Instr.makeSlice t (.int .i64 (n : Int)) (.int .i64 (n : Int))).run Tryz.prog w = .ok (.slice (some ⟨w.heap.size, 0, none⟩) n n) w' ∧ Ro w' w.heap.size cs ∧ Below w.heap.size w w' ∧ w.heap.size < w'.heap.size := h w
theorem makes_of {t e : TypeId} {z : Value} {size bytes : Nat} (ht : Tryz.prog.underlying t = some (.slice e)) (hinfo : (Tryz.prog.info? e).map (fun i => (i.zero, i.size, i.bytes)) = some (some z, size, bytes)) (n : Nat) (hn : n ≤ 1000) (hs : size ≤ 10) (hb : bytes ≤ 1000) (h0 : 0 < size) (hp : 0 < n) (hz : (madeCells z.cells (n * size)).size = n * size) : Makes t e n (madeCells z.cells (n * size)).toList := by
  intro w
  obtain ⟨i0, hi, hz0, hz1, hz2⟩ := info_parts hinfo
  have h1 : n * size ≤ 1000 * 10 := Nat.mul_le_mul hn hs
  have h2 : bytes * n ≤ 1000 * 1000 := Nat.mul_le_mul hb hn
  obtain ⟨w1, hmk, hown, hgr⟩ := run_makeSlice_full (P := Tryz.prog) w w.heap.size t e i0 _ size ht hi hz0 hz1 .i64 .i64 n (by omega) (by rw [hz2]; omega) (by simp only [maxLen]; omega) (Nat.le_refl _)
  refine ⟨w1, hmk, Ro.of_owns hown, below_make hgr, ?_⟩
  have hpos : 0 < n * size := Nat.mul_pos hp h0
  have hc := (Ro.of_owns hown) 0 ((madeCells z.cells (n * size)).toList[0]'(by rw [Array.length_toList, hz]; exact hpos)) (List.getElem?_eq_getElem _)
  exact block_lt_of_cell hc.1
set_option maxRecDepth 100000 in
set_option maxHeartbeats 8000000 in
theorem new_good (pg pgs rgs : Nat) (p0 : 32 ≤ pg) (p1 : pg ≤ 128) (s0 : 3 ≤ pgs) (s1 : pgs ≤ 10) (r0 : 4 ≤ rgs) (r1 : rgs ≤ 12) (w : World) :
    Calls Tryz.prog 27 #[.agg #[.int .i64 (pg : Int), .int .i64 (pgs : Int), .int .i64 (rgs : Int)]] w fun e w' => ∃ p S, e = .returned (ptr p) ∧ CHas w' p (newC pg pgs rgs) S ∧ Below w.heap.size w w' ∧ ∀ k, S k → w.heap.size ≤ k := by
  have HRG := Lib.hid (fun w => Geom.right_any ⟨pg, pgs, rgs⟩ w)
  rw [Geom.right_small.mpr ⟨by simp only; omega, by simp only; omega, by simp only; omega, by simp only; omega, by simp only; omega, by simp only; omega⟩] at HRG
  unfold Geom.gV at HRG
  have HMK : Hid (Makes 93 98 rgs (stC (List.replicate rgs (0, 0)))) := by
    have := makes_of Tryz.underlying93 infoState rgs (by omega) (by omega) (by omega) (by omega) (by omega) (by simp [size_madeCells])
    rw [show (Value.agg #[.int .u32 0, .int .i64 0]).cells = #[Value.int .u32 0, Value.int .i64 0] from rfl, made2] at this
    exact this
  unfold ptr
  go_enter Tryz.func27, Tryz.ntmps27
  go_wp2_with (go_at_call 57; (with_reducible refine (HRG.out _).mono ?_); rintro e w3 ⟨rfl, h3⟩; have HB3 := Lib.hid (bel2 (Geom.bel_alloc w (.cells #[.int .i64 (pg : Int), .int .i64 (pgs : Int), .int .i64 (rgs : Int)] 23)) h3); have HVG := Lib.hid ((Var.new w 23 [.int .i64 (pg : Int), .int .i64 (pgs : Int), .int .i64 (rgs : Int)]).below h3 (by simp)); clear h3)
  refine wp_region_tail 4 [6, 7, 8, 9] (fun w' => Below w3.heap.size w3 w') (NR [.agg #[.int .i64 (pg : Int), .int .i64 (pgs : Int), .int .i64 (rgs : Int)], .pointer (some ⟨w.heap.size, 2, none⟩), .int .i64 (rgs : Int), undef] [(3, rgs, w3.heap.size, stC (List.replicate rgs (0, 0)))]) (by kernel_rfl) (by kernel_rfl) (by kernel_rfl) (by decide) rfl (by decide) (by simp) (NR.mono _ _) (Below.refl _ _).drew ?each ?done
  case each =>
    simp only [List.take_succ_cons, List.take_zero, Each]
    refine ⟨?o0, ?o1, ?o2, ?o3, trivial⟩
    case o0 =>
      intro ys wx hBx hdeps
      clear hdeps
      have c0 : wx.cell? ⟨w.heap.size, 0, none⟩ = some (.int .i64 (pg : Int)) := (HVG.out.below hBx HVG.out.lt).cell (j := 0) rfl
      have c1 : wx.cell? ⟨w.heap.size, 1, none⟩ = some (.int .i64 (pgs : Int)) := (HVG.out.below hBx HVG.out.lt).cell (j := 1) rfl
      have c2 : wx.cell? ⟨w.heap.size, 2, none⟩ = some (.int .i64 (rgs : Int)) := (HVG.out.below hBx HVG.out.lt).cell (j := 2) rfl
      simp only [fill, List.foldl_cons, List.foldl_nil, Act.put, List.setIfInBounds_toArray, List.set_cons_succ, List.set_cons_zero]
      go_wp2_with fail
      exact ⟨_, rfl, rfl, hBx, Below.refl _ _⟩
    case o1 =>
      intro ys wx hBx hdeps
      clear hdeps
      simp only [fill, List.foldl_cons, List.foldl_nil, Act.put, List.setIfInBounds_toArray, List.set_cons_succ, List.set_cons_zero]
      go_wp2_with fail
      exact ⟨_, rfl, rfl, hBx, Below.refl _ _⟩
    case o2 =>
      intro ys wx hBx hdeps
      simp only [Deps, Region.binds, List.getD_cons_zero, List.getD_cons_succ, forall_const, and_true, true_and] at hdeps
      have y1 : ys 7 = .pointer (some ⟨w.heap.size, 2, none⟩) := by first | exact hdeps | exact hdeps.1 | exact hdeps.2.1 | exact hdeps.2.2.1 | exact hdeps.2.2.2.1 | exact hdeps.2.2.2.2.1 | exact hdeps.2.2.2.2.2.1 | exact hdeps.2.2.2.2.2.2.1 | exact hdeps.2.2.2.2.2.2.2.1 | exact hdeps.2.2.2.2.2.2.2.2.1 | exact hdeps.2.2.2.2.2.2.2.2.2.1 | exact hdeps.2.2.2.2.2.2.2.2.2.2.1 | exact hdeps.2.2.2.2.2.2.2.2.2.2.2.1 | exact hdeps.2 | exact hdeps.2.2 | exact hdeps.2.2.2 | exact hdeps.2.2.2.2 | exact hdeps.2.2.2.2.2 | exact hdeps.2.2.2.2.2.2 | exact hdeps.2.2.2.2.2.2.2 | exact hdeps.2.2.2.2.2.2.2.2 | exact hdeps.2.2.2.2.2.2.2.2.2 | exact hdeps.2.2.2.2.2.2.2.2.2.2 | exact hdeps.2.2.2.2.2.2.2.2.2.2.2
      clear hdeps
      have c0 : wx.cell? ⟨w.heap.size, 0, none⟩ = some (.int .i64 (pg : Int)) := (HVG.out.below hBx HVG.out.lt).cell (j := 0) rfl
      have c1 : wx.cell? ⟨w.heap.size, 1, none⟩ = some (.int .i64 (pgs : Int)) := (HVG.out.below hBx HVG.out.lt).cell (j := 1) rfl
      have c2 : wx.cell? ⟨w.heap.size, 2, none⟩ = some (.int .i64 (rgs : Int)) := (HVG.out.below hBx HVG.out.lt).cell (j := 2) rfl
      simp only [y1, fill, List.foldl_cons, List.foldl_nil, Act.put, List.setIfInBounds_toArray, List.set_cons_succ, List.set_cons_zero]
      go_wp2_with fail
      exact ⟨_, rfl, rfl, hBx, Below.refl _ _⟩
    case o3 =>
      intro ys wx hBx hdeps
      simp only [Deps, Region.binds, List.getD_cons_zero, List.getD_cons_succ, forall_const, and_true, true_and] at hdeps
      have y2 : ys 8 = .int .i64 (rgs : Int) := by first | exact hdeps | exact hdeps.1 | exact hdeps.2.1 | exact hdeps.2.2.1 | exact hdeps.2.2.2.1 | exact hdeps.2.2.2.2.1 | exact hdeps.2.2.2.2.2.1 | exact hdeps.2.2.2.2.2.2.1 | exact hdeps.2.2.2.2.2.2.2.1 | exact hdeps.2.2.2.2.2.2.2.2.1 | exact hdeps.2.2.2.2.2.2.2.2.2.1 | exact hdeps.2.2.2.2.2.2.2.2.2.2.1 | exact hdeps.2.2.2.2.2.2.2.2.2.2.2.1 | exact hdeps.2 | exact hdeps.2.2 | exact hdeps.2.2.2 | exact hdeps.2.2.2.2 | exact hdeps.2.2.2.2.2 | exact hdeps.2.2.2.2.2.2 | exact hdeps.2.2.2.2.2.2.2 | exact hdeps.2.2.2.2.2.2.2.2 | exact hdeps.2.2.2.2.2.2.2.2.2 | exact hdeps.2.2.2.2.2.2.2.2.2.2 | exact hdeps.2.2.2.2.2.2.2.2.2.2.2
      clear hdeps
      simp only [y2, fill, List.foldl_cons, List.foldl_nil, Act.put, List.setIfInBounds_toArray, List.set_cons_succ, List.set_cons_zero]
      with_reducible refine Exists.elim (HMK.out.go wx) ?_
      intro w1 hmks
      have hmk := hmks.1
      have HRo := Lib.hid hmks.2.1
      have HBl := Lib.hid hmks.2.2.1
      have HLt := Lib.hid hmks.2.2.2
      clear hmks
      go_wp2_with fail
      exact ⟨_, rfl, ⟨wx.heap.size, rgs, rfl, Nat.le_refl _, HRo.out, hBx.size, HLt.out⟩, hBx.trans (HBl.out.mono hBx.size), HBl.out⟩
  case done =>
    intro ys wx hBx hV
    have h6 : ys 6 = .agg #[.int .i64 (pg : Int), .int .i64 (pgs : Int), .int .i64 (rgs : Int)] := hV 0 (by decide)
    have h9 : ∃ g cap, ys 9 = .slice (some ⟨g, 0, none⟩) rgs cap ∧ rgs ≤ cap ∧ Ro wx g (stC (List.replicate rgs (0, 0))) ∧ w3.heap.size ≤ g ∧ g < wx.heap.size := hV 3 (by decide)
    with_reducible refine Exists.elim h9 ?_
    intro g0 h9b
    with_reducible refine Exists.elim h9b ?_
    intro cap hh
    have hg0 := hh.1
    have HC := Lib.hid hh.2.1
    have HR := Lib.hid hh.2.2.1
    have HG := Lib.hid hh.2.2.2
    have HB := Lib.hid (bel2 HB3.out hBx)
    clear hh h9 h9b hV hBx
    simp only [h6, hg0, fill, List.drop_succ_cons, List.drop_zero, List.foldl_cons, List.foldl_nil, Act.put, List.setIfInBounds_toArray, List.set_cons_succ, List.set_cons_zero]
    go_wp2
    go_ret
    refine ⟨wx.heap.size, foot wx.heap.size g0, rfl, ?_, HB.out.alloc HB.out.size _, ?_⟩
    · have hv := Var.new wx 95 [.int .i64 (pg : Int), .int .i64 (pgs : Int), .int .i64 (rgs : Int), .slice (some ⟨g0, 0, none⟩) rgs cap, .int .i64 0, .bool false]
      have h1 := HG.out.2
      refine ⟨g0, cap, 0, ⟨hv, HR.out.below (Geom.bel_alloc _ _), by simp; omega, fun k hk => by simp [newC] at hk, by omega, HC.out, by omega⟩, rfl⟩
    · have h1 := HG.out.1; have h2 := HB3.out.size; have h3 := HB.out.size
      rintro k (rfl | rfl) <;> omega
set_option maxRecDepth 100000 in
theorem new_wrong (g : Geom.Gm) (h : Geom.rightG g = false) (w : World) : Calls Tryz.prog 27 #[Geom.gV g] w fun e w' => e = .returned (.pointer none) ∧ Below w.heap.size w w' := by
  have HRG := Lib.hid (fun w => Geom.right_any g w)
  rw [h] at HRG
  clear h
  obtain ⟨p, q, r⟩ := g
  unfold Geom.gV at HRG ⊢
  go_enter Tryz.func27, Tryz.ntmps27
  go_wp2_with (go_at_call 57; (with_reducible refine (HRG.out _).mono ?_); rintro e w3 ⟨rfl, h3⟩)
  go_ret
  exact ⟨rfl, bel2 (Geom.bel_alloc w _) h3⟩
set_option maxRecDepth 100000 in
set_option maxHeartbeats 8000000 in
theorem refNew_any (pg pgs rgs : Nat) (p0 : 32 ≤ pg) (p1 : pg ≤ 128) (s0 : 3 ≤ pgs) (s1 : pgs ≤ 10) (r0 : 4 ≤ rgs) (r1 : rgs ≤ 12) (w : World) :
    Calls Tryz.prog 30 #[.agg #[.int .i64 (pg : Int), .int .i64 (pgs : Int), .int .i64 (rgs : Int)]] w fun e w' => ∃ p S, e = .returned (ptr p) ∧ DHas w' p (newC pg pgs rgs) S ∧ Below w.heap.size w w' ∧ ∀ k, S k → w.heap.size ≤ k := by
  have HVG := Lib.hid (Var.new w 23 [.int .i64 (pg : Int), .int .i64 (pgs : Int), .int .i64 (rgs : Int)])
  have HME : Hid (Makes 79 29 rgs (List.replicate rgs (Value.int .u32 0))) := by
    have := makes_of Tryz.underlying79 infoU32 rgs (by omega) (by omega) (by omega) (by omega) (by omega) (by simp [size_madeCells])
    rw [Nat.mul_one, show (Value.int .u32 0).cells = #[Value.int .u32 0] from rfl, toList_madeCells_one] at this
    exact this
  have HMU : Hid (Makes 80 3 rgs (List.replicate rgs (Value.int .i64 0))) := by
    have := makes_of Tryz.underlying80 infoI64 rgs (by omega) (by omega) (by omega) (by omega) (by omega) (by simp [size_madeCells])
    rw [Nat.mul_one, show (Value.int .i64 0).cells = #[Value.int .i64 0] from rfl, toList_madeCells_one] at this
    exact this
  unfold ptr
  go_enter Tryz.func30, Tryz.ntmps30
  go_wp2
  refine wp_region_tail 7 [3, 4, 5, 6, 7, 8, 9] (fun w' => Below (w.alloc (.cells #[.int .i64 (pg : Int), .int .i64 (pgs : Int), .int .i64 (rgs : Int)] 23)).heap.size (w.alloc (.cells #[.int .i64 (pg : Int), .int .i64 (pgs : Int), .int .i64 (rgs : Int)] 23)) w') (NR [.agg #[.int .i64 (pg : Int), .int .i64 (pgs : Int), .int .i64 (rgs : Int)], .pointer (some ⟨w.heap.size, 2, none⟩), .int .i64 (rgs : Int), undef, .pointer (some ⟨w.heap.size, 2, none⟩), .int .i64 (rgs : Int), undef] [(3, rgs, (w.alloc (.cells #[.int .i64 (pg : Int), .int .i64 (pgs : Int), .int .i64 (rgs : Int)] 23)).heap.size, List.replicate rgs (Value.int .u32 0)), (6, rgs, (w.alloc (.cells #[.int .i64 (pg : Int), .int .i64 (pgs : Int), .int .i64 (rgs : Int)] 23)).heap.size, List.replicate rgs (Value.int .i64 0))]) (by kernel_rfl) (by kernel_rfl) (by kernel_rfl) (by decide) rfl (by decide) (by simp) (NR.mono _ _) (Below.refl _ _).drew ?each ?done
  case each =>
    simp only [List.take_succ_cons, List.take_zero, Each]
    refine ⟨?o0, ?o1, ?o2, ?o3, ?o4, ?o5, ?o6, trivial⟩
    case o0 =>
      intro ys wx hBx hdeps
      clear hdeps
      have c0 : wx.cell? ⟨w.heap.size, 0, none⟩ = some (.int .i64 (pg : Int)) := (HVG.out.below hBx (by simp)).cell (j := 0) rfl
      have c1 : wx.cell? ⟨w.heap.size, 1, none⟩ = some (.int .i64 (pgs : Int)) := (HVG.out.below hBx (by simp)).cell (j := 1) rfl
      have c2 : wx.cell? ⟨w.heap.size, 2, none⟩ = some (.int .i64 (rgs : Int)) := (HVG.out.below hBx (by simp)).cell (j := 2) rfl
      simp only [fill, List.foldl_cons, List.foldl_nil, Act.put, List.setIfInBounds_toArray, List.set_cons_succ, List.set_cons_zero]
      go_wp2_with fail
      exact ⟨_, rfl, rfl, hBx, Below.refl _ _⟩
    case o1 =>
      intro ys wx hBx hdeps
      clear hdeps
      simp only [fill, List.foldl_cons, List.foldl_nil, Act.put, List.setIfInBounds_toArray, List.set_cons_succ, List.set_cons_zero]
      go_wp2_with fail
      exact ⟨_, rfl, rfl, hBx, Below.refl _ _⟩
    case o2 =>
      intro ys wx hBx hdeps
      simp only [Deps, Region.binds, List.getD_cons_zero, List.getD_cons_succ, forall_const, and_true, true_and] at hdeps
      have y1 : ys 4 = .pointer (some ⟨w.heap.size, 2, none⟩) := by first | exact hdeps | exact hdeps.1 | exact hdeps.2.1 | exact hdeps.2.2.1 | exact hdeps.2.2.2.1 | exact hdeps.2.2.2.2.1 | exact hdeps.2.2.2.2.2.1 | exact hdeps.2.2.2.2.2.2.1 | exact hdeps.2.2.2.2.2.2.2.1 | exact hdeps.2.2.2.2.2.2.2.2.1 | exact hdeps.2.2.2.2.2.2.2.2.2.1 | exact hdeps.2.2.2.2.2.2.2.2.2.2.1 | exact hdeps.2.2.2.2.2.2.2.2.2.2.2.1 | exact hdeps.2 | exact hdeps.2.2 | exact hdeps.2.2.2 | exact hdeps.2.2.2.2 | exact hdeps.2.2.2.2.2 | exact hdeps.2.2.2.2.2.2 | exact hdeps.2.2.2.2.2.2.2 | exact hdeps.2.2.2.2.2.2.2.2 | exact hdeps.2.2.2.2.2.2.2.2.2 | exact hdeps.2.2.2.2.2.2.2.2.2.2 | exact hdeps.2.2.2.2.2.2.2.2.2.2.2
      clear hdeps
      have c0 : wx.cell? ⟨w.heap.size, 0, none⟩ = some (.int .i64 (pg : Int)) := (HVG.out.below hBx (by simp)).cell (j := 0) rfl
      have c1 : wx.cell? ⟨w.heap.size, 1, none⟩ = some (.int .i64 (pgs : Int)) := (HVG.out.below hBx (by simp)).cell (j := 1) rfl
      have c2 : wx.cell? ⟨w.heap.size, 2, none⟩ = some (.int .i64 (rgs : Int)) := (HVG.out.below hBx (by simp)).cell (j := 2) rfl
      simp only [y1, fill, List.foldl_cons, List.foldl_nil, Act.put, List.setIfInBounds_toArray, List.set_cons_succ, List.set_cons_zero]
      go_wp2_with fail
      exact ⟨_, rfl, rfl, hBx, Below.refl _ _⟩
    case o3 =>
      intro ys wx hBx hdeps
      simp only [Deps, Region.binds, List.getD_cons_zero, List.getD_cons_succ, forall_const, and_true, true_and] at hdeps
      have y2 : ys 5 = .int .i64 (rgs : Int) := by first | exact hdeps | exact hdeps.1 | exact hdeps.2.1 | exact hdeps.2.2.1 | exact hdeps.2.2.2.1 | exact hdeps.2.2.2.2.1 | exact hdeps.2.2.2.2.2.1 | exact hdeps.2.2.2.2.2.2.1 | exact hdeps.2.2.2.2.2.2.2.1 | exact hdeps.2.2.2.2.2.2.2.2.1 | exact hdeps.2.2.2.2.2.2.2.2.2.1 | exact hdeps.2.2.2.2.2.2.2.2.2.2.1 | exact hdeps.2.2.2.2.2.2.2.2.2.2.2.1 | exact hdeps.2 | exact hdeps.2.2 | exact hdeps.2.2.2 | exact hdeps.2.2.2.2 | exact hdeps.2.2.2.2.2 | exact hdeps.2.2.2.2.2.2 | exact hdeps.2.2.2.2.2.2.2 | exact hdeps.2.2.2.2.2.2.2.2 | exact hdeps.2.2.2.2.2.2.2.2.2 | exact hdeps.2.2.2.2.2.2.2.2.2.2 | exact hdeps.2.2.2.2.2.2.2.2.2.2.2
      clear hdeps
      simp only [y2, fill, List.foldl_cons, List.foldl_nil, Act.put, List.setIfInBounds_toArray, List.set_cons_succ, List.set_cons_zero]
      with_reducible refine Exists.elim (HME.out.go wx) ?_
      intro w1 hmks
      have hmk := hmks.1
      have HRo := Lib.hid hmks.2.1
      have HBl := Lib.hid hmks.2.2.1
      have HLt := Lib.hid hmks.2.2.2
      clear hmks
      go_wp2_with fail
      exact ⟨_, rfl, ⟨wx.heap.size, rgs, rfl, Nat.le_refl _, HRo.out, hBx.size, HLt.out⟩, hBx.trans (HBl.out.mono hBx.size), HBl.out⟩
    case o4 =>
      intro ys wx hBx hdeps
      clear hdeps
      simp only [fill, List.foldl_cons, List.foldl_nil, Act.put, List.setIfInBounds_toArray, List.set_cons_succ, List.set_cons_zero]
      go_wp2_with fail
      exact ⟨_, rfl, rfl, hBx, Below.refl _ _⟩
    case o5 =>
      intro ys wx hBx hdeps
      simp only [Deps, Region.binds, List.getD_cons_zero, List.getD_cons_succ, forall_const, and_true, true_and] at hdeps
      have y4 : ys 7 = .pointer (some ⟨w.heap.size, 2, none⟩) := by first | exact hdeps | exact hdeps.1 | exact hdeps.2.1 | exact hdeps.2.2.1 | exact hdeps.2.2.2.1 | exact hdeps.2.2.2.2.1 | exact hdeps.2.2.2.2.2.1 | exact hdeps.2.2.2.2.2.2.1 | exact hdeps.2.2.2.2.2.2.2.1 | exact hdeps.2.2.2.2.2.2.2.2.1 | exact hdeps.2.2.2.2.2.2.2.2.2.1 | exact hdeps.2.2.2.2.2.2.2.2.2.2.1 | exact hdeps.2.2.2.2.2.2.2.2.2.2.2.1 | exact hdeps.2 | exact hdeps.2.2 | exact hdeps.2.2.2 | exact hdeps.2.2.2.2 | exact hdeps.2.2.2.2.2 | exact hdeps.2.2.2.2.2.2 | exact hdeps.2.2.2.2.2.2.2 | exact hdeps.2.2.2.2.2.2.2.2 | exact hdeps.2.2.2.2.2.2.2.2.2 | exact hdeps.2.2.2.2.2.2.2.2.2.2 | exact hdeps.2.2.2.2.2.2.2.2.2.2.2
      clear hdeps
      have c0 : wx.cell? ⟨w.heap.size, 0, none⟩ = some (.int .i64 (pg : Int)) := (HVG.out.below hBx (by simp)).cell (j := 0) rfl
      have c1 : wx.cell? ⟨w.heap.size, 1, none⟩ = some (.int .i64 (pgs : Int)) := (HVG.out.below hBx (by simp)).cell (j := 1) rfl
      have c2 : wx.cell? ⟨w.heap.size, 2, none⟩ = some (.int .i64 (rgs : Int)) := (HVG.out.below hBx (by simp)).cell (j := 2) rfl
      simp only [y4, fill, List.foldl_cons, List.foldl_nil, Act.put, List.setIfInBounds_toArray, List.set_cons_succ, List.set_cons_zero]
      go_wp2_with fail
      exact ⟨_, rfl, rfl, hBx, Below.refl _ _⟩
    case o6 =>
      intro ys wx hBx hdeps
      simp only [Deps, Region.binds, List.getD_cons_zero, List.getD_cons_succ, forall_const, and_true, true_and] at hdeps
      have y5 : ys 8 = .int .i64 (rgs : Int) := by first | exact hdeps | exact hdeps.1 | exact hdeps.2.1 | exact hdeps.2.2.1 | exact hdeps.2.2.2.1 | exact hdeps.2.2.2.2.1 | exact hdeps.2.2.2.2.2.1 | exact hdeps.2.2.2.2.2.2.1 | exact hdeps.2.2.2.2.2.2.2.1 | exact hdeps.2.2.2.2.2.2.2.2.1 | exact hdeps.2.2.2.2.2.2.2.2.2.1 | exact hdeps.2.2.2.2.2.2.2.2.2.2.1 | exact hdeps.2.2.2.2.2.2.2.2.2.2.2.1 | exact hdeps.2 | exact hdeps.2.2 | exact hdeps.2.2.2 | exact hdeps.2.2.2.2 | exact hdeps.2.2.2.2.2 | exact hdeps.2.2.2.2.2.2 | exact hdeps.2.2.2.2.2.2.2 | exact hdeps.2.2.2.2.2.2.2.2 | exact hdeps.2.2.2.2.2.2.2.2.2 | exact hdeps.2.2.2.2.2.2.2.2.2.2 | exact hdeps.2.2.2.2.2.2.2.2.2.2.2
      clear hdeps
      simp only [y5, fill, List.foldl_cons, List.foldl_nil, Act.put, List.setIfInBounds_toArray, List.set_cons_succ, List.set_cons_zero]
      with_reducible refine Exists.elim (HMU.out.go wx) ?_
      intro w1 hmks
      have hmk := hmks.1
      have HRo := Lib.hid hmks.2.1
      have HBl := Lib.hid hmks.2.2.1
      have HLt := Lib.hid hmks.2.2.2
      clear hmks
      go_wp2_with fail
      exact ⟨_, rfl, ⟨wx.heap.size, rgs, rfl, Nat.le_refl _, HRo.out, hBx.size, HLt.out⟩, hBx.trans (HBl.out.mono hBx.size), HBl.out⟩
  case done =>
    intro ys wx hBx hV
    have h3 : ys 3 = .agg #[.int .i64 (pg : Int), .int .i64 (pgs : Int), .int .i64 (rgs : Int)] := hV 0 (by decide)
    have h6 : ∃ g cap, ys 6 = .slice (some ⟨g, 0, none⟩) rgs cap ∧ rgs ≤ cap ∧ Ro wx g (List.replicate rgs (Value.int .u32 0)) ∧ (w.alloc (.cells #[.int .i64 (pg : Int), .int .i64 (pgs : Int), .int .i64 (rgs : Int)] 23)).heap.size ≤ g ∧ g < wx.heap.size := hV 3 (by decide)
    with_reducible refine Exists.elim h6 ?_
    intro bE hbE
    with_reducible refine Exists.elim hbE ?_
    intro capE hhE
    have hgE := hhE.1
    have HCE := Lib.hid hhE.2.1
    have HRE := Lib.hid hhE.2.2.1
    have HGE := Lib.hid hhE.2.2.2
    clear h6 hbE hhE
    have h9 : ∃ g cap, ys 9 = .slice (some ⟨g, 0, none⟩) rgs cap ∧ rgs ≤ cap ∧ Ro wx g (List.replicate rgs (Value.int .i64 0)) ∧ (w.alloc (.cells #[.int .i64 (pg : Int), .int .i64 (pgs : Int), .int .i64 (rgs : Int)] 23)).heap.size ≤ g ∧ g < wx.heap.size := hV 6 (by decide)
    with_reducible refine Exists.elim h9 ?_
    intro bU hbU
    with_reducible refine Exists.elim hbU ?_
    intro capU hhU
    have hgU := hhU.1
    have HCU := Lib.hid hhU.2.1
    have HRU := Lib.hid hhU.2.2.1
    have HGU := Lib.hid hhU.2.2.2
    clear h9 hbU hhU
    have HB := Lib.hid (bel2 (Geom.bel_alloc w (.cells #[.int .i64 (pg : Int), .int .i64 (pgs : Int), .int .i64 (rgs : Int)] 23)) hBx)
    clear hV hBx
    simp only [h3, hgE, hgU, fill, List.drop_succ_cons, List.drop_zero, List.foldl_cons, List.foldl_nil, Act.put, List.setIfInBounds_toArray, List.set_cons_succ, List.set_cons_zero]
    go_wp2
    go_ret
    have hs0 : (w.alloc (.cells #[.int .i64 (pg : Int), .int .i64 (pgs : Int), .int .i64 (rgs : Int)] 23)).heap.size = w.heap.size + 1 := by simp
    have eE := (HRE.out 0 (Value.int .u32 0) (by rw [List.getElem?_replicate, if_pos (by omega)])).1
    have eU := (HRU.out 0 (Value.int .i64 0) (by rw [List.getElem?_replicate, if_pos (by omega)])).1
    have hne : bE ≠ bU := by
      intro e
      rw [e, eU] at eE
      simp at eE
    have h1 := HGE.out; have h2 := HGU.out; have h4 := HB.out.size
    refine ⟨wx.heap.size, footD wx.heap.size bE bU, rfl, ?_, HB.out.alloc HB.out.size _, ?_⟩
    · have hv := Var.new wx 82 [.int .i64 (pg : Int), .int .i64 (pgs : Int), .int .i64 (rgs : Int), .slice (some ⟨bE, 0, none⟩) rgs capE, .slice (some ⟨bU, 0, none⟩) rgs capU, .int .i64 (-1)]
      refine ⟨bE, capE, bU, capU, ⟨hv, ?_, ?_, by simp; omega, by simp; omega, HCE.out, HCU.out, by omega, by omega, hne⟩, rfl⟩
      · rw [new_st, List.map_replicate]; exact HRE.out.below (Geom.bel_alloc _ _)
      · rw [new_st, List.map_replicate]; exact HRU.out.below (Geom.bel_alloc _ _)
    · rintro k (rfl | rfl | rfl) <;> omega
end Go.Proofs.YtcmjambbdfangaaGreat.Chart
/-
  The document's own account: what is told of it.
-/
set_option linter.unusedVariables false
set_option linter.unusedSimpArgs false
namespace Go.Proofs.YtcmjambbdfangaaGreat.Chart
open Go.RowKit
open Go.Proofs.YtcmjambbdfangaaGreat.Own
open Tup Foot
open Go.Proofs.YtcmjambbdfangaaGreat.Region (fill Then Deps Each wp_region_is wp_region_is_tail)

set_option maxRecDepth 100000 in
theorem refIs_any {w : World} {r : Nat} {c : Ch} {bE capE bU capU : Nat} (h : DAt w r c bE capE bU capU) (i : Int) :
    Calls Tryz.prog 41 #[ptr r, .int .i64 i] w fun e w' => e = .returned (.bool (c.is i)) ∧ w = w' := by
  have c3 := h.var.cell (j := 3) rfl
  clear h
  unfold ptr
  have hd : decide (0 ≤ i) = false ∨ decide (0 ≤ i) = true := by cases decide (0 ≤ i) <;> simp
  rcases hd with d1 | d1
  all_goals
    go_enter Tryz.func41, Tryz.ntmps41
    go_wp2
    go_ret
    exact ⟨ret_bool (by unfold Ch.is; rw [d1]; simp), rfl⟩
set_option maxRecDepth 100000 in
set_option maxHeartbeats 4000000 in
theorem refFree_any {w : World} {r : Nat} {c : Ch} {bE capE bU capU : Nat} (h : DAt w r c bE capE bU capU) (hd : c.Ok) :
    Calls Tryz.prog 25 #[ptr r] w fun e w' => e = .returned (.int .i64 (c.free : Int)) ∧ w = w' := by
  have c3 := h.var.cell (j := 3) rfl
  have HC := Lib.hid h
  have HD := Lib.hid hd
  have r1 := hd.r1
  obtain ⟨n, hn⟩ : ∃ n, c.rgs = n := ⟨_, rfl⟩
  have HN := Lib.hid hn
  rw [hn] at r1 c3
  unfold Ch.free
  rw [hn]
  unfold ptr
  clear h hd hn
  go_enter Tryz.func25, Tryz.ntmps25
  go_wp2
  go_loop [3, 4] (fun a i => ∃ k : Nat, i = .int .i64 (k : Int) ∧ k ≤ n ∧ a = .int .i64 (c.cntTo k : Int)) (fun _ i => n - (intOf i).toNat)
  case atStart => exact ⟨0, rfl, Nat.zero_le _, rfl⟩
  case round =>
    obtain ⟨k, rfl, hk, rfl⟩ := hrel
    by_cases hlt : k < n
    · obtain ⟨e0, -⟩ := HC.out.getE HD.out (k := k) (by rw [HN.out]; exact hlt)
      have d1 : decide ((k : Int) < (n : Int)) = true := by simp; omega
      have d2 : decide (k < n) = true := by simp; omega
      have hcl := cntTo_le c k
      have HT := Lib.hid (show c.cntTo (k + 1) = if c.ep k = 0 then c.cntTo k + 1 else c.cntTo k from rfl)
      generalize c.ep k = x at *
      generalize c.cntTo k = m at *
      by_cases hx : x = 0
      · rw [if_pos hx] at HT
        have d3 : (((x : Nat) : Int) == 0) = true := by simp; omega
        have d4 : (x == 0) = true := by simp; omega
        clear hx
        go_wp2
        go_round
        case rel => exact ⟨k + 1, by go_num, by omega, by rw [HT.out]; go_num⟩
        case measure => simp [intOf]; omega
      · rw [if_neg hx] at HT
        have d3 : (((x : Nat) : Int) == 0) = false := by simp; omega
        have d4 : (x == 0) = false := by simp; omega
        clear hx
        go_wp2
        go_round
        case rel => exact ⟨k + 1, by go_num, by omega, by rw [HT.out]⟩
        case measure => simp [intOf]; omega
    · obtain rfl : k = n := by omega
      have d1 : decide ((k : Int) < (k : Int)) = false := by simp
      go_wp2
      go_ret
      exact ⟨rfl, rfl⟩
set_option maxRecDepth 100000 in
set_option maxHeartbeats 4000000 in
theorem refLeft_any {w : World} {r : Nat} {c : Ch} {bE capE bU capU : Nat} (h : DAt w r c bE capE bU capU) (hd : c.Ok) :
    Calls Tryz.prog 23 #[ptr r] w fun e w' => e = .returned (.int .i64 (c.left : Int)) ∧ Below w.heap.size w w' := by
  have c5 := h.var.cell (j := 5) rfl
  unfold ptr Ch.left
  cases hn : c.now with
  | none =>
    rw [hn] at c5
    have c5' : w.cell? ⟨r, 5, none⟩ = some (.int .i64 (-1)) := c5
    clear h hn c5 hd
    go_enter Tryz.func23, Tryz.ntmps23
    go_wp2
    go_ret
    exact ⟨rfl, Below.refl _ _⟩
  | some k =>
    dsimp only
    rw [hn] at c5
    have c5' : w.cell? ⟨r, 5, none⟩ = some (.int .i64 (k : Int)) := c5
    have HC := Lib.hid h
    have HNW := Lib.hid (fun wx (hb : Below w.heap.size w wx) => (show wx.cell? ⟨r, 5, none⟩ = some (.int .i64 (k : Int)) by have := (h.below hb).var.cell (j := 5) rfl; rw [hn] at this; exact this))
    have hkr := (hd.now k hn).1
    have hus := hd.us k
    have r1 := hd.r1
    have hs1 := hd.s1
    have hsl : c.slots ≤ 9 := by unfold Ch.slots; omega
    have HU := Lib.hid (fun wx (hb : Below w.heap.size w wx) => ((h.below hb).getU hd hkr).1)
    have HS := Lib.hid (fun w => Geom.refSlots_any ⟨c.pg, c.pgs, c.rgs⟩ (Geom.right_small.mp (geo_right hd)) w)
    rw [geo_slots hd] at HS
    unfold Geom.gV at HS
    have d2 : decide (k < c.rgs) = true := decide_eq_true hkr
    have d3 : decide ((k : Int) < 0) = false := decide_eq_false (by omega)
    have HV := Lib.hid (show ((c.slots : Int) - (c.us k : Int)) = ((c.slots - c.us k : Nat) : Int) by omega)
    clear h hn c5 hd hs1
    generalize c.slots = sl at *
    generalize c.us k = us at *
    go_enter Tryz.func23, Tryz.ntmps23
    go_wp2
    refine wp_region_is [8, 9, 10, 11, 12, 13, 14, 15, 16, 17, 18, 19, 20, 21, 22, 23, 2] (fun w' => Below w.heap.size w w')
      [.pointer (some ⟨r, 0, none⟩), .pointer (some ⟨r, 0, none⟩), .pointer (some ⟨r, 0, none⟩), .agg #[.int .i64 (c.pg : Int), .int .i64 (c.pgs : Int), .int .i64 (c.rgs : Int)], .int .i64 (sl : Int), .pointer (some ⟨r, 0, none⟩), .pointer (some ⟨r, 0, none⟩), .pointer (some ⟨r, 4, none⟩), .slice (some ⟨bU, 0, none⟩) c.rgs capU, .pointer (some ⟨r, 0, none⟩), .pointer (some ⟨r, 0, none⟩), .pointer (some ⟨r, 5, none⟩), .int .i64 (k : Int), .pointer (some ⟨bU, k, none⟩), .int .i64 (us : Int), .int .i64 ((sl : Int) - (us : Int)), .int .i64 ((sl : Int) - (us : Int))] (by kernel_rfl) (by kernel_rfl) rfl (by decide) (by simp) (Below.refl _ _).drew ?each ?done
    case each =>
      simp only [Each]
      repeat' (first | exact trivial | refine And.intro ?_ ?_)
      all_goals
        intro ys wx hBx hdeps
        simp only [Deps, Region.binds, List.getD_cons_zero, List.getD_cons_succ, forall_const, and_true] at hdeps
        have q0 : wx.cell? ⟨r, 0, none⟩ = some (.int .i64 (c.pg : Int)) := (HC.out.below hBx).var.cell (j := 0) rfl
        have q1 : wx.cell? ⟨r, 1, none⟩ = some (.int .i64 (c.pgs : Int)) := (HC.out.below hBx).var.cell (j := 1) rfl
        have q2 : wx.cell? ⟨r, 2, none⟩ = some (.int .i64 (c.rgs : Int)) := (HC.out.below hBx).var.cell (j := 2) rfl
        have q4 : wx.cell? ⟨r, 4, none⟩ = some (.slice (some ⟨bU, 0, none⟩) c.rgs capU) := (HC.out.below hBx).var.cell (j := 4) rfl
        have q5 := HNW.out wx hBx
        have q6 := HU.out wx hBx
        simp only [hdeps, fill, List.foldl_cons, List.foldl_nil, Act.put, List.setIfInBounds_toArray, List.set_cons_succ, List.set_cons_zero]
        first
          | (go_wp2_with fail; exact ⟨_, rfl, rfl, hBx, Below.refl _ _⟩)
          | (go_wp2_with (go_at_call 54; (with_reducible refine (HS.out _).mono ?_); rintro e w3 ⟨rfl, hn⟩); exact ⟨_, rfl, rfl, bel2 hBx hn, hn⟩)
    case done =>
      intro ys wx hBx hV
      have h2 : ys 2 = .int .i64 ((sl : Int) - (us : Int)) := hV 16 (by decide)
      have HB5 := Lib.hid hBx
      clear hBx hV
      simp only [h2, fill, List.drop_succ_cons, List.drop_zero, List.foldl_cons, List.foldl_nil, Act.put, List.setIfInBounds_toArray, List.set_cons_succ, List.set_cons_zero]
      go_wp2
      go_ret
      exact ⟨ret_int HV.out, HB5.out⟩
end Go.Proofs.YtcmjambbdfangaaGreat.Chart
/-
  The document's own account: what turns it, and the oldest region.
-/
set_option linter.unusedVariables false
set_option linter.unusedSimpArgs false
namespace Go.Proofs.YtcmjambbdfangaaGreat.Chart
open Go.RowKit
open Go.Proofs.YtcmjambbdfangaaGreat.Own
open Tup Foot
open Go.Proofs.YtcmjambbdfangaaGreat.Region (fill Then Deps Each wp_region_is wp_region_is_tail)

def nowV (c : Ch) : Int := match c.now with | none => -1 | some k => (k : Int)
theorem nowV_eq (c : Ch) (k : Nat) : (((k : Nat) : Int) == nowV c) = decide (c.now = some k) := by
  unfold nowV
  cases c.now with
  | none => simp
  | some j => by_cases e : j = k
              · subst e; simp
              · have : ¬ ((k : Int) = (j : Int)) := by omega
                simp [e, this]
theorem nowV_pos (c : Ch) : decide (0 ≤ nowV c) = c.now.isSome := by
  unfold nowV
  cases c.now with
  | none => rfl
  | some j => simp
theorem nowV_lo (c : Ch) : -1 ≤ nowV c := by unfold nowV; cases c.now <;> simp only <;> omega
theorem nowV_hi {c : Ch} (h : c.Ok) : nowV c < 1000 := by
  unfold nowV
  cases hn : c.now with
  | none => simp only; omega
  | some k => have := (h.now k hn).1; have := h.r1; simp only; omega
theorem DAt.now {w : World} {r : Nat} {c : Ch} {bE capE bU capU : Nat} (h : DAt w r c bE capE bU capU) : w.cell? ⟨r, 5, none⟩ = some (.int .i64 (nowV c)) := h.var.cell (j := 5) rfl
def LeftD (w : World) (r bE capE bU capU : Nat) (c : Ch) (w' : World) : Prop := Grows (footD r bE bU) w w' ∧ DAt w' r c bE capE bU capU
theorem leftD_below {w w' : World} {r : Nat} {c : Ch} {bE capE bU capU : Nat} (h : DAt w r c bE capE bU capU) (hb : Below w.heap.size w w') : LeftD w r bE capE bU capU c w' := ⟨grows_below hb, h.below hb⟩
theorem leftD_then {w w1 w' : World} {r : Nat} {c : Ch} {bE capE bU capU : Nat} (hb : Below w.heap.size w w1) (h : DAt w' r c bE capE bU capU) (g : Grows (footD r bE bU) w1 w') : LeftD w r bE capE bU capU c w' :=
  ⟨(grows_below hb).trans g (fun _ x => .inl x), h⟩
def oldV (c : Ch) (k : Nat) : Int := match c.oldTo k with | none => -1 | some j => (j : Int)
theorem oldV_some {c : Ch} {k j : Nat} (h : c.oldTo k = some j) : oldV c k = (j : Int) := by unfold oldV; rw [h]
theorem oldV_none {c : Ch} {k : Nat} (h : c.oldTo k = none) : oldV c k = -1 := by unfold oldV; rw [h]
theorem oldV_same {c : Ch} {k i : Nat} (h : c.oldTo k = c.oldTo i) : oldV c k = oldV c i := by unfold oldV; rw [h]
theorem oldV_lo (c : Ch) (k : Nat) : -1 ≤ oldV c k ∧ oldV c k < k + 1 := by
  unfold oldV
  cases h : c.oldTo k with
  | none => simp only; omega
  | some j => have := oldTo_lt h; simp only; omega
theorem old_end (c : Ch) : max (oldV c c.rgs) 0 = ((oldestC c).1 : Int) ∧ decide (0 ≤ oldV c c.rgs) = (oldestC c).2 := by
  unfold oldV oldestC
  cases c.oldTo c.rgs with
  | none => exact ⟨rfl, rfl⟩
  | some j => simp only; exact ⟨by omega, by simp⟩
set_option maxRecDepth 100000 in
set_option maxHeartbeats 8000000 in
theorem refErase_any {w : World} {r : Nat} {c : Ch} {bE capE bU capU : Nat} (h : DAt w r c bE capE bU capU) (hd : c.Ok) (i : Int) :
    Calls Tryz.prog 43 #[ptr r, .int .i64 i] w fun e w' => e = .returned (.int .i64 ((eraseC c i).1 : Int)) ∧ LeftD w r bE capE bU capU (eraseC c i).2 w' := by
  have HI := Lib.hid (refIs_any h i)
  have HC := Lib.hid h
  unfold ptr at HI ⊢
  cases hi : c.is i with
  | false =>
    rw [hi] at HI
    have HE := Lib.hid (show eraseC c i = (1, c) by unfold eraseC; rw [if_pos hi])
    clear h hd hi
    go_enter Tryz.func43, Tryz.ntmps43
    go_wp2_with (go_at_call 41; (with_reducible refine HI.out.mono ?_); rintro e w3 ⟨rfl, rfl⟩)
    go_ret
    rw [HE.out]
    exact ⟨rfl, leftD_below HC.out (Below.refl _ _)⟩
  | true =>
    rw [hi] at HI
    obtain ⟨k, rfl, hk⟩ := Ch.is_lt hi
    have hr1 := hd.r1
    have HIF := Lib.hid (show ¬ c.is (k : Int) = false by rw [hi]; simp)
    obtain ⟨e0, f0⟩ := h.getE hd hk
    obtain ⟨e1, f1⟩ := h.getU hd hk
    have v3 := h.var.cell (j := 3) rfl
    have v4 := h.var.cell (j := 4) rfl
    have v5 := h.now
    have d6 : decide (k < c.rgs) = true := decide_eq_true hk
    have hne := nowV_eq c k
    have n1 := h.neE
    have n2 := h.neU
    have n3 := h.ne
    have n4 := Ne.symm h.neE
    have n5 := Ne.symm h.neU
    have n6 := Ne.symm h.ne
    by_cases h0 : c.ep k = 0
    · have HE := Lib.hid (show eraseC c k = (7, c) by unfold eraseC; rw [if_neg HIF.out]; simp [h0])
      have d7 : (((c.ep k : Nat) : Int) == 0) = true := by rw [h0]; rfl
      have d8 : (c.ep k == 0) = true := by rw [h0]; rfl
      clear h hd hi h0
      generalize c.ep k = y at *
      generalize c.us k = z at *
      go_enter Tryz.func43, Tryz.ntmps43
      go_wp2_with (go_at_call 41; (with_reducible refine HI.out.mono ?_); rintro e w3 ⟨rfl, rfl⟩)
      go_ret
      rw [HE.out]
      exact ⟨rfl, leftD_below HC.out (Below.refl _ _)⟩
    · have d7 : (((c.ep k : Nat) : Int) == 0) = false := by simp; omega
      have d8 : (c.ep k == 0) = false := by simp; omega
      by_cases hno : c.now = some k
      · have HE := Lib.hid (show eraseC c k = (7, c) by unfold eraseC; rw [if_neg HIF.out]; simp [hno])
        rw [show decide (c.now = some k) = true by simp [hno]] at hne
        clear h hd hi h0 hno
        generalize c.ep k = y at *
        generalize c.us k = z at *
        generalize nowV c = m at *
        go_enter Tryz.func43, Tryz.ntmps43
        go_wp2_with (go_at_call 41; (with_reducible refine HI.out.mono ?_); rintro e w3 ⟨rfl, rfl⟩)
        go_ret
        rw [HE.out]
        exact ⟨rfl, leftD_below HC.out (Below.refl _ _)⟩
      · have HE := Lib.hid (show eraseC c k = (0, c.put k 0 0) by unfold eraseC; rw [if_neg HIF.out]; simp [hno, h0])
        rw [show decide (c.now = some k) = false by simp [hno]] at hne
        clear h hd hi h0 hno
        generalize c.ep k = y at *
        generalize c.us k = z at *
        generalize nowV c = m at *
        go_enter Tryz.func43, Tryz.ntmps43
        go_wp2_with (go_at_call 41; (with_reducible refine HI.out.mono ?_); rintro e w3 ⟨rfl, rfl⟩)
        go_ret
        rw [HE.out]
        have hput := HC.out.putAt k 0 0
        exact ⟨rfl, leftD_then (Below.refl _ _) hput.1 hput.2⟩
end Go.Proofs.YtcmjambbdfangaaGreat.Chart
/-
  The document's own account: Resume, Open, Take.
-/
set_option linter.unusedVariables false
set_option linter.unusedSimpArgs false
namespace Go.Proofs.YtcmjambbdfangaaGreat.Chart
open Go.RowKit
open Go.Proofs.YtcmjambbdfangaaGreat.Own
open Tup Foot
open Go.Proofs.YtcmjambbdfangaaGreat.Region (fill Then Deps Each wp_region_is wp_region_is_tail)

theorem maxTo_next {c : Ch} {k B : Nat} (h : c.maxTo k ≤ B) (hk : c.ep k ≤ B) : c.maxTo (k + 1) ≤ B := by
  rw [Ch.maxTo]; split <;> assumption
theorem topTo_in (c : Ch) {k n : Nat} (h : k ≤ n) (hn : 0 < n) : c.topTo k < n := by
  cases k with
  | zero => exact hn
  | succ k => have := topTo_lt (c := c) (k := k + 1) (by omega); omega
theorem around {t k n : Nat} (ht : t < n) (hk : k < n) : ((t + k) % n + n - t) % n = k := by
  by_cases h : t + k < n
  · rw [Nat.mod_eq_of_lt h, show t + k + n - t = k + n by omega, Nat.add_mod_right, Nat.mod_eq_of_lt hk]
  · have e : (t + k) % n = t + k - n := by rw [Nat.mod_eq_sub_mod (by omega), Nat.mod_eq_of_lt (show t + k - n < n by omega)]
    rw [e, show t + k - n + n - t = k by omega, Nat.mod_eq_of_lt hk]
theorem around_next (t k n : Nat) : ((t + k) % n + 1) % n = (t + (k + 1)) % n := by
  rw [Nat.mod_add_mod]; rfl
set_option maxRecDepth 100000 in
set_option maxHeartbeats 8000000 in
theorem refTake_any {w : World} {r : Nat} {c : Ch} {bE capE bU capU : Nat} (h : DAt w r c bE capE bU capU) (hd : c.Ok) :
    Calls Tryz.prog 52 #[ptr r] w fun e w' => e = .returned (.tuple #[.int .i64 ((takeC c).1.1 : Int), .bool (takeC c).1.2]) ∧ LeftD w r bE capE bU capU (takeC c).2 w' := by
  have HL := Lib.hid (refLeft_any h hd)
  have HC := Lib.hid h
  unfold ptr at HL ⊢
  by_cases h0 : c.left = 0
  · have HE := Lib.hid (take_full h0)
    rw [h0] at HL
    clear h hd h0
    go_enter Tryz.func52, Tryz.ntmps52
    go_wp2_with (go_at_call 23; (with_reducible refine HL.out.mono ?_); rintro e w4 ⟨rfl, h4⟩)
    go_ret2
    rw [HE.out]
    exact ⟨rfl, leftD_below HC.out h4⟩
  · obtain ⟨k, hn, hu, hl⟩ := left_open h0
    have HE := Lib.hid (take_open hn hu)
    have hkr := (hd.now k hn).1
    have hr1 := hd.r1
    have hs0 := hd.s0
    have hs1 := hd.s1
    have hpos : c.us k + 1 < c.pgs := by unfold Ch.slots at hu; omega
    have HV5 := Lib.hid (fun w' (hb : Below w.heap.size w w') => (show w'.cell? ⟨r, 5, none⟩ = some (.int .i64 (k : Int)) by have := (h.below hb).now; unfold nowV at this; rw [hn] at this; exact this))
    have HV4 := Lib.hid (fun w' (hb : Below w.heap.size w w') => (h.below hb).var.cell (j := 4) rfl)
    have HG := Lib.hid (fun w' (hb : Below w.heap.size w w') => (h.below hb).getU hd hkr)
    have HU := Lib.hid (fun w' (hb : Below w.heap.size w w') => (h.below hb).useAt hd k (c.us k + 1) hkr)
    have hl0 : ((c.left : Int) == 0) = false := by simp; omega
    have HTA := Lib.hid (show c.takeAt k = c.put k (c.ep k) (c.us k + 1) from rfl)
    have d6 : decide (k < c.rgs) = true := decide_eq_true hkr
    have d7 : decide ((k : Int) < 0) = false := decide_eq_false (by omega)
    have HM := Lib.hid (show ((c.us k : Int) + 1) = ((c.us k + 1 : Nat) : Int) by omega)
    have hmul := Geom.mul_le (show (0 : Int) ≤ (k : Int) by omega) (show (k : Int) ≤ 12 by omega) (show (0 : Int) ≤ (c.pgs : Int) by omega) (show (c.pgs : Int) ≤ 10 by omega)
    have HPP := Lib.hid (show (k : Int) * (c.pgs : Int) + ((c.us k + 1 : Nat) : Int) = ((k * c.pgs + (c.us k + 1) : Nat) : Int) by rw [Int.natCast_add (k * c.pgs), Int.natCast_mul])
    have HNW := Lib.hid hn
    obtain ⟨us, hus⟩ : ∃ us, c.us k = us := ⟨_, rfl⟩
    rw [hus] at HM HU HE HTA hpos HG HPP
    clear h hd h0 hn hu hl hus
    generalize c.left = lf at *
    obtain ⟨pp, hpp⟩ : ∃ pp, pp = k * c.pgs + (us + 1) := ⟨_, rfl⟩
    rw [← hpp] at HE HPP
    clear hpp
    go_enter Tryz.func52, Tryz.ntmps52
    go_wp2_with (go_at_call 23; (with_reducible refine HL.out.mono ?_); rintro e w4 ⟨rfl, h4⟩)
    have b4 := Lib.hid h4
    clear h4
    refine wp_region_is_tail 12 [7, 8, 9, 10, 11, 12, 13, 14, 15, 16, 17, 18] (fun w' => Below w4.heap.size w4 w')
      [.pointer (some ⟨r, 0, none⟩), .pointer (some ⟨r, 0, none⟩), .pointer (some ⟨r, 4, none⟩), .slice (some ⟨bU, 0, none⟩) c.rgs capU, .pointer (some ⟨r, 0, none⟩), .pointer (some ⟨r, 0, none⟩), .pointer (some ⟨r, 5, none⟩), .int .i64 (k : Int), .pointer (some ⟨bU, k, none⟩), .int .i64 (us : Int), .int .i64 ((us : Int) + 1), .pointer (some ⟨bU, k, none⟩)] (by kernel_rfl) (by kernel_rfl) (by kernel_rfl) (by decide) rfl (by decide) (by simp) (Below.refl _ _).drew ?each ?done
    case each =>
      simp only [List.take_succ_cons, List.take_zero, Each]
      repeat' (first | exact trivial | refine And.intro ?_ ?_)
      all_goals
        intro ys wx hBx hdeps
        simp only [Deps, Region.binds, List.getD_cons_zero, List.getD_cons_succ, forall_const, and_true] at hdeps
        have hb := bel2 b4.out hBx
        have q4 := HV4.out wx hb
        have q5 := HV5.out wx hb
        have q6 := (HG.out wx hb).1
        simp only [hdeps, fill, List.foldl_cons, List.foldl_nil, Act.put, List.setIfInBounds_toArray, List.set_cons_succ, List.set_cons_zero]
        first
          | (go_wp2_with fail; exact ⟨_, rfl, rfl, hBx, Below.refl _ _⟩)
    case done =>
      intro ys wx hBx hV
      have h17 : ys 17 = .int .i64 ((us : Int) + 1) := hV 10 (by decide)
      have h18 : ys 18 = .pointer (some ⟨bU, k, none⟩) := hV 11 (by decide)
      have B5 := Lib.hid (bel2 b4.out hBx)
      have e1 := (HG.out _ B5.out).1
      have f1 := (HG.out _ B5.out).2
      have HP := Lib.hid (HU.out _ B5.out)
      clear hBx hV
      simp only [h17, h18, fill, List.drop_succ_cons, List.drop_zero, List.foldl_cons, List.foldl_nil, Act.put, List.setIfInBounds_toArray, List.set_cons_succ, List.set_cons_zero]
      go_wp2
      rw [HM.out]
      obtain ⟨w5, hw5⟩ : ∃ w5, w5 = wx.setCell ⟨bU, k, none⟩ (.int .i64 ((us + 1 : Nat) : Int)) := ⟨_, rfl⟩
      rw [← hw5]
      have HP5 := Lib.hid (show DAt w5 r (c.put k (c.ep k) (us + 1)) bE capE bU capU by rw [hw5]; exact HP.out.1)
      have q0 := HP5.out.var.cell (j := 1) rfl
      have q4 := HP5.out.var.cell (j := 4) rfl
      have q5 : w5.cell? ⟨r, 5, none⟩ = some (.int .i64 (k : Int)) := by
        have := HP5.out.now
        unfold nowV at this
        rw [show (c.put k (c.ep k) (us + 1)).now = some k from HNW.out] at this
        exact this
      have q6 : w5.cell? ⟨bU, k, none⟩ = some (.int .i64 ((us + 1 : Nat) : Int)) := by rw [hw5]; exact World.cell?_setCell_same _ _ _ e1
      have HW5 := Lib.hid (show Grows (footD r bE bU) wx w5 by rw [hw5]; exact HP.out.2)
      have q0' : w5.cell? ⟨r, 1, none⟩ = some (.int .i64 (c.pgs : Int)) := q0
      have q4' : w5.cell? ⟨r, 4, none⟩ = some (.slice (some ⟨bU, 0, none⟩) c.rgs capU) := q4
      clear hw5 e1 f1 HP q0 q4
      generalize hz : ((us + 1 : Nat) : Int) = z at *
      have hz1 : 0 ≤ z ∧ z ≤ 12 := by omega
      go_quiet (fail)
      go_wp2
      go_ret2
      rw [HE.out]
      refine ⟨by rw [HPP.out]; rfl, leftD_then B5.out ?_ (HW5.out.trans (grows_below (below_drewN (Below.refl _ _) _)) (fun _ x => .inl x))⟩
      rw [HTA.out]
      exact HP5.out.below (below_drewN (Below.refl _ _) _)
set_option maxRecDepth 100000 in
set_option maxHeartbeats 16000000 in
theorem refOpen_any {w : World} {r : Nat} {c : Ch} {bE capE bU capU : Nat} (h : DAt w r c bE capE bU capU) (hd : c.Ok) :
    Calls Tryz.prog 50 #[ptr r] w fun e w' => e = .returned (.tuple #[.int .i64 ((openC c).1.1 : Int), .int .u32 ((openC c).1.2.1 : Int), .bool (openC c).1.2.2]) ∧ LeftD w r bE capE bU capU (openC c).2 w' := by
  have HC := Lib.hid h
  have HD := Lib.hid hd
  have hr1 := hd.r1
  have hr0 := hd.r0
  have hmx := max_le hd
  obtain ⟨n, hn⟩ : ∃ n, c.rgs = n := ⟨_, rfl⟩
  have HN := Lib.hid hn
  have HMX := Lib.hid (show c.max = c.maxTo n by rw [← hn]; rfl)
  have HTP := Lib.hid (show c.top = c.topTo n by rw [← hn]; rfl)
  have HNT := Lib.hid (show c.next = c.scan c.top 0 n by rw [← hn]; rfl)
  rw [hn] at hr1 hr0
  have HF := Lib.hid (fun wx (hb : Below w.heap.size w wx) => refFree_any (h.below hb) hd)
  have HSF := Lib.hid (show c.next = none ↔ c.free = 0 from scan_free (by rw [hn]; omega))
  have HC3 := Lib.hid (fun wx (hb : Below w.heap.size w wx) => (show wx.cell? ⟨r, 3, none⟩ = some (.slice (some ⟨bE, 0, none⟩) n capE) by rw [← HN.out]; exact (HC.out.below hb).var.cell (j := 3) rfl))
  have HC4 := Lib.hid (fun wx (hb : Below w.heap.size w wx) => (show wx.cell? ⟨r, 4, none⟩ = some (.slice (some ⟨bU, 0, none⟩) n capU) by rw [← HN.out]; exact (HC.out.below hb).var.cell (j := 4) rfl))
  have HC5 := Lib.hid (fun wx (hb : Below w.heap.size w wx) => (HC.out.below hb).now)
  have HF5 := Lib.hid (fun wx (hb : Below w.heap.size w wx) => (HC.out.below hb).var.frozen 5)
  have HCE := Lib.hid (fun wx (hb : Below w.heap.size w wx) k (hk : k < n) => (show wx.cell? ⟨bE, k, none⟩ = some (.int .u32 (c.ep k : Int)) ∧ wx.frozen? ⟨bE, k, none⟩ = false from (HC.out.below hb).getE HD.out (by rw [HN.out]; exact hk)))
  have HCU := Lib.hid (fun wx (hb : Below w.heap.size w wx) k (hk : k < n) => (show wx.cell? ⟨bU, k, none⟩ = some (.int .i64 (c.us k : Int)) ∧ wx.frozen? ⟨bU, k, none⟩ = false from (HC.out.below hb).getU HD.out (by rw [HN.out]; exact hk)))
  have n1 := h.neE
  have n2 := h.neU
  have n3 := h.ne
  have n4 := Ne.symm h.neE
  have n5 := Ne.symm h.neU
  have n6 := Ne.symm h.ne
  have hfl := cntTo_le c c.rgs
  unfold ptr at HF ⊢
  clear h hd hn
  go_enter Tryz.func50, Tryz.ntmps50
  go_wp2
  go_loopw [5, 6] (fun a i wr => ∃ k : Nat, i = .int .i64 (k : Int) ∧ k ≤ n ∧ a = .int .i64 (c.topTo k : Int) ∧ Below w.heap.size w wr) (fun _ i _ => n - (intOf i).toNat)
  case atStart => exact ⟨0, rfl, Nat.zero_le _, rfl, Below.refl _ _⟩
  case round =>
    obtain ⟨k, rfl, hk, rfl, hB⟩ := hrel
    have HB := Lib.hid hB
    have g3 := HC3.out _ hB
    have htn := topTo_in c hk (by omega)
    have gt := (HCE.out _ hB _ htn).1
    have d3 : decide (c.topTo k < n) = true := decide_eq_true htn
    by_cases hlt : k < n
    · have gk := (HCE.out _ hB k hlt).1
      have d1 : decide ((k : Int) < (n : Int)) = true := by simp; omega
      have d2 : decide (k < n) = true := by simp; omega
      have HT := Lib.hid (topTo_next c k)
      clear hB
      generalize c.ep (c.topTo k) = y at *
      generalize c.ep k = x at *
      generalize c.topTo k = t at *
      by_cases hx : y < x
      · have d9 : decide ((y : Int) < (x : Int)) = true := by simp; omega
        have d10 : decide (y < x) = true := decide_eq_true hx
        rw [if_pos hx] at HT
        go_wp2
        go_quiet (fail)
        go_wp2
        refine ⟨⟨k + 1, by go_num, by omega, by rw [HT.out], below_drewN HB.out _⟩, by simp [intOf]; omega⟩
      · have d9 : decide ((y : Int) < (x : Int)) = false := by simp; omega
        have d10 : decide (y < x) = false := decide_eq_false hx
        rw [if_neg hx] at HT
        go_wp2
        go_quiet (fail)
        go_wp2
        refine ⟨⟨k + 1, by go_num, by omega, by rw [HT.out], below_drewN HB.out _⟩, by simp [intOf]; omega⟩
    · obtain rfl : k = n := by omega
      have d1 : decide ((k : Int) < (k : Int)) = false := by simp
      have hep : c.ep (c.topTo k) = c.max := by rw [HMX.out]; exact ep_topTo (by omega)
      rw [← HTP.out] at gt htn d3 hep
      rw [← HTP.out]
      rw [hep] at gt
      have HEP := Lib.hid hep
      have HFb := Lib.hid (HF.out _ hB)
      have hmn : c.max + 1 < 4294967296 := by omega
      clear hB hep
      by_cases hf : c.free = 0
      · have HE := Lib.hid (open_full (HSF.out.2 hf))
        rw [hf] at HFb
        clear hf
        generalize c.max = mx at *
        generalize c.top = tp at *
        go_wp2_with (go_at_call 25; (with_reducible refine HFb.out.mono ?_); rintro e w5 ⟨rfl, rfl⟩)
        go_ret3
        rw [HE.out]
        exact ⟨rfl, leftD_below HC.out HB.out⟩
      · have df : ((c.free : Int) == 0) = false := by simp; omega
        by_cases hm : 2147483647 ≤ c.max
        · have HE := Lib.hid (open_end hm)
          have d4 : decide (2147483647 < ((c.max : Int) + 1)) = true := decide_eq_true (by omega)
          clear hf
          generalize c.max = mx at *
          generalize c.top = tp at *
          generalize c.free = fr at *
          go_wp2_with (go_at_call 25; (with_reducible refine HFb.out.mono ?_); rintro e w5 ⟨rfl, rfl⟩)
          go_ret3
          rw [HE.out]
          exact ⟨rfl, leftD_below HC.out HB.out⟩
        · have d4 : decide (2147483647 < ((c.max : Int) + 1)) = false := decide_eq_false (by omega)
          obtain ⟨q, hq⟩ : ∃ q, c.next = some q := by
            cases hx : c.next with
            | none => exact absurd (HSF.out.1 hx) hf
            | some q => exact ⟨q, rfl⟩
          have HE := Lib.hid (open_at (by omega) hq)
          have HM := Lib.hid (show ((c.max : Int) + 1) = ((c.max + 1 : Nat) : Int) by omega)
          have HOA := Lib.hid (show c.openAt q = { c.put q (c.max + 1) 0 with now := some q } by unfold Ch.openAt; rfl)
          have hqn : q < k := by rw [← HN.out]; exact (next_lt HD.out hq).1
          rw [hq] at HNT
          have HQ := Lib.hid hq
          have dk : ((k : Int) == 0) = false := by simp; omega
          have dk2 : (k == 0) = false := by simp; omega
          have HST : Hid (∃ k2, k2 < k ∧ (if c.max = 0 then 0 else (c.top + 1) % k) = (c.top + k2) % k ∧ some q = c.scan c.top k2 (k - k2)) := by
            by_cases h0 : c.max = 0
            · refine ⟨0, by omega, ?_, HNT.out⟩
              have : c.top = 0 := topTo_zero h0
              rw [if_pos h0, this]; simp
            · refine ⟨1, by omega, by rw [if_neg h0], ?_⟩
              have hm := scan_miss (c := c) (first := c.top) (i := 0) (n := k - 1) (by rw [HN.out, Nat.add_zero, Nat.mod_eq_of_lt htn, HEP.out]; exact h0)
              rw [show k - 1 + 1 = k by omega] at hm
              rw [← hm]; exact HNT.out
          have HCEk := Lib.hid (fun a (ha : a < k) => HCE.out _ HB.out a ha)
          have HCUk := Lib.hid (fun a (ha : a < k) => HCU.out _ HB.out a ha)
          have g4 := HC4.out _ HB.out
          have g5 := HC5.out _ HB.out
          have f5 := HF5.out _ HB.out
          have HP := Lib.hid ((HC.out.below HB.out).putAt q (c.max + 1) 0)
          rw [← HM.out] at HP
          have hmx0 : (c.max = 0 ∧ ((c.max : Int) == 0) = true) ∨ (¬ c.max = 0 ∧ ((c.max : Int) == 0) = false) := by
            by_cases h0 : c.max = 0
            · exact .inl ⟨h0, by rw [h0]; rfl⟩
            · exact .inr ⟨h0, by simp; omega⟩
          obtain ⟨s0, hs0⟩ : ∃ s0, s0 = (if c.max = 0 then 0 else (c.top + 1) % k) := ⟨_, rfl⟩
          rw [← hs0] at HST
          have hm1 : c.max = 0 → ((k : Int) - 1 + 1).tmod (k : Int) = (s0 : Int) := fun h0 => by rw [hs0, if_pos h0, Int.sub_add_cancel, Int.tmod_self]; rfl
          have hm1' : c.max = 0 → s0 = 0 := fun h0 => by rw [hs0, if_pos h0]
          have hm2 : ¬ c.max = 0 → ((c.top : Int) + 1).tmod (k : Int) = (s0 : Int) := fun h0 => by rw [hs0, if_neg h0]; exact rem_nat c.top 1 k
          have HMS := Lib.hid (fun k2 (h2 : k2 < k) => around htn h2)
          have HNXT := Lib.hid (fun k2 => around_next c.top k2 k)
          have HSH := Lib.hid (fun k2 nn => scan_hit (c := c) (first := c.top) (i := k2) (n := nn))
          have HSM := Lib.hid (fun k2 nn => scan_miss (c := c) (first := c.top) (i := k2) (n := nn))
          rw [HN.out] at HSH HSM
          clear hf hq hs0 HSF HNT hm
          obtain ⟨mx, hmxe⟩ : ∃ mx, c.max = mx := ⟨_, rfl⟩
          rw [hmxe] at HM HE HOA HP hmx0 hm1 hm1' hm2 d4 gt hmn hmx
          clear HMX HEP hmxe
          generalize c.free = fr at *
          rcases hmx0 with ⟨hz, dz⟩ | ⟨hz, dz⟩
          all_goals
            first
              | (have hm3 := hm1 hz; have hs3 := hm1' hz)
              | (have hm3 := hm2 hz)
            clear hm1 hm1' hm2
            have HZ := Lib.hid hz
            clear hz
            go_wp2_with (go_at_call 25; (with_reducible refine HFb.out.mono ?_); rintro e w5 ⟨rfl, rfl⟩)
            go_loop [8] (fun a => ∃ k2 : Nat, k2 < k ∧ a = .int .i64 (((c.top + k2) % k : Nat) : Int) ∧ some q = c.scan c.top k2 (k - k2)) (fun a => k - (((intOf a).toNat + k - c.top) % k))
            case atStart =>
              obtain ⟨k2, h1, h2, h3⟩ := HST.out
              refine ⟨k2, h1, ?_, h3⟩
              first
                | (rw [← h2]; done)
                | (rw [← h2]; rfl)
                | (rw [← h2, hs3]; rfl)
            case round =>
              obtain ⟨k2, hk2, rfl, hsc⟩ := hrel
              have HSC := Lib.hid hsc
              have HNX2 := Lib.hid (HNXT.out k2)
              have HM2 := Lib.hid (HMS.out k2 hk2)
              have HH := Lib.hid (HSH.out k2 (k - k2 - 1))
              have HS2 := Lib.hid (HSM.out k2 (k - k2 - 1))
              rw [show k - k2 - 1 + 1 = k - k2 by omega] at HH HS2
              obtain ⟨a, ha⟩ : ∃ a, a = (c.top + k2) % k := ⟨_, rfl⟩
              have hak : a < k := by rw [ha]; exact Nat.mod_lt _ (by omega)
              rw [← ha] at HNX2 HM2 HH HS2
              rw [← ha]
              have HA := Lib.hid ha
              obtain ⟨ea, fa⟩ := HCEk.out a hak
              obtain ⟨eu, fu⟩ := HCUk.out a hak
              have da : decide (a < k) = true := decide_eq_true hak
              have hm4 := rem_nat a 1 k
              have hm5 : ((a : Int) + 1).tmod (k : Int) = (((a + 1) % k : Nat) : Int) := hm4
              rw [HNX2.out] at hm5
              clear hsc ha hm4
              by_cases hx : c.ep a = 0
              · have hqa : q = a := by have := HSC.out.trans (HH.out hx); simpa using this
                subst hqa
                have dx : (((c.ep q : Nat) : Int) == 0) = true := by rw [hx]; rfl
                have dx1 : (((c.ep q : Nat) : Int) != 0) = false := by simp only [bne, dx]; rfl
                have dx2 : (c.ep q == 0) = true := by rw [hx]; rfl
                clear hx
                have hp5 := HP.out.1.var.frozen 5
                generalize c.ep q = x at *
                generalize c.us q = u at *
                go_wp2
                go_ret3
                rw [HE.out]
                have hnw := HP.out.1.nowAt q
                refine ⟨by rw [HM.out]; rfl, ?_⟩
                rw [HOA.out]
                exact leftD_then HB.out hnw.1 (Grows.trans HP.out.2 hnw.2 (fun _ x => .inl x))
              · have dx : (((c.ep a : Nat) : Int) == 0) = false := by simp; omega
                have dx1 : (((c.ep a : Nat) : Int) != 0) = true := by simp only [bne, dx]; rfl
                have dx2 : (c.ep a == 0) = false := by simp; omega
                have HT := Lib.hid (HSC.out.trans (HS2.out hx))
                have hk3 : k2 + 1 < k := by
                  rcases Nat.lt_or_ge (k2 + 1) k with h | h
                  · exact h
                  · have := HT.out
                    rw [show k - k2 - 1 = 0 by omega] at this
                    simp [Ch.scan] at this
                have HM3 := Lib.hid (HMS.out (k2 + 1) hk3)
                clear hx
                generalize c.ep a = x at *
                generalize c.us a = u at *
                go_wp2
                go_round
                case rel => exact ⟨k2 + 1, hk3, rfl, by rw [show k - (k2 + 1) = k - k2 - 1 by omega]; exact HT.out⟩
                case measure =>
                  show k - (((((c.top + (k2 + 1)) % k : Nat) : Int).toNat + k - c.top) % k) < k - (((a : Int).toNat + k - c.top) % k)
                  rw [Int.toNat_natCast, Int.toNat_natCast, HM3.out, HM2.out]; omega
end Go.Proofs.YtcmjambbdfangaaGreat.Chart
