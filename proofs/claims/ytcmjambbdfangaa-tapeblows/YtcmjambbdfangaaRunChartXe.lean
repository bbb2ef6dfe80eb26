/-
  Joined texts: ChartXe, ChartD, ChartDb, ChartDc, ChartX.
-/
import Derived.Test.YtcmjambbdfangaaRunChartXa
/-
  A new account: the landed one, the document's own.
-/
set_option linter.unusedVariables false
set_option linter.unusedSimpArgs false
namespace Go.Proofs.Ytcmjambbdfangaa.Chart
open Go.RowKit
open Go.Proofs.Ytcmjambbdfangaa.Own
open Tup Foot
open Go.Proofs.Ytcmjambbdfangaa.Region (fill Then Deps Each wp_region_tail)

theorem made2 (n : Nat) : (madeCells #[Value.int .u32 0, Value.int .i64 0] (n * 2)).toList = stC (List.replicate n (0, 0)) := by
  apply List.ext_getElem?
  intro j
  have hl : (stC (List.replicate n (0, 0))).length = n * 2 := by
    unfold stC; induction n with
    | zero => rfl
    | succ n ih => rw [List.replicate_succ, List.flatMap_cons, List.length_append, ih]; simp only [List.length_cons, List.length_nil]; omega
  by_cases hj : j < n * 2
  · have hk : j / 2 < (List.replicate n ((0 : Nat), (0 : Nat))).length := by simp; omega
    obtain ⟨h0, h1⟩ := stC_get hk
    simp only [List.getElem_replicate] at h0 h1
    have e1 : (madeCells #[Value.int .u32 0, Value.int .i64 0] (n * 2)).toList[j]? = some (#[Value.int .u32 0, Value.int .i64 0][j % 2]!) := by
      simp [madeCells, hj]
    rw [e1]
    rcases Nat.mod_two_eq_zero_or_one j with h | h
    · rw [h, show j = j / 2 * 2 by omega, h0]; rfl
    · rw [h, show j = j / 2 * 2 + 1 by omega, h1]; rfl
  · rw [List.getElem?_eq_none (l := stC _) (by rw [hl]; omega), List.getElem?_eq_none (by simp only [Array.length_toList, size_madeCells]; omega)]
/-- the values of operations some of which make rows -/
def NR (tab : List Value) (B : List (Nat × Nat × Nat × List Value)) : Nat → Value → World → Prop := fun i v w => match B.lookup i with
  | some (n, base, cs) => ∃ g cap, v = .slice (some ⟨g, 0, none⟩) n cap ∧ n ≤ cap ∧ Ro w g cs ∧ base ≤ g ∧ g < w.heap.size
  | none => v = tab.getD i undef
theorem NR.mono (tab : List Value) (B : List (Nat × Nat × Nat × List Value)) : ∀ i v w w', NR tab B i v w → Below w.heap.size w w' → NR tab B i v w' := by
  intro i v w w' h hb
  unfold NR at h ⊢
  split
  · rename_i n base cs e
    rw [e] at h
    obtain ⟨g, cap, h1, h2, h3, h4, h5⟩ := h
    exact ⟨g, cap, h1, h2, h3.below hb, h4, Nat.lt_of_lt_of_le h5 hb.size⟩
  · rename_i e
    rw [e] at h; exact h
theorem new_st (pg pgs rgs : Nat) : (newC pg pgs rgs).st = List.replicate rgs (0, 0) := rfl
theorem below_make {w w2 : World} (h : w.grownBy w2 none) : Below w.heap.size w w2 := (Below.refl _ _).grown h (Nat.le_refl _) (fun k hk => by simp at hk)
theorem infoState : (Try.prog.info? 96).map (fun i => (i.zero, i.size, i.bytes)) = some (some (.agg #[.int .u32 0, .int .i64 0]), 2, 16) := by kernel_rfl
theorem infoI64 : (Try.prog.info? 3).map (fun i => (i.zero, i.size, i.bytes)) = some (some (.int .i64 0), 1, 8) := by kernel_rfl
theorem infoU32 : (Try.prog.info? 41).map (fun i => (i.zero, i.size, i.bytes)) = some (some (.int .u32 0), 1, 4) := by kernel_rfl
/-- what a makeSlice leaves -/
def Makes (t e : TypeId) (n : Nat) (cs : List Value) : Prop := ∀ w : World, ∃ w', (Instr.makeSlice t (.int .i64 (n : Int)) (.int .i64 (n : Int))).run Try.prog w = .ok (.slice (some ⟨w.heap.size, 0, none⟩) n n) w' ∧ Ro w' w.heap.size cs ∧ Below w.heap.size w w' ∧ w.heap.size < w'.heap.size
theorem Makes.go {t e : TypeId} {n : Nat} {cs : List Value} (h : Makes t e n cs) (w : World) : ∃ w', (Instr.makeSlice t (.int .i64 (n : Int)) (.int .i64 (n : Int))).run Try.prog w = .ok (.slice (some ⟨w.heap.size, 0, none⟩) n n) w' ∧ Ro w' w.heap.size cs ∧ Below w.heap.size w w' ∧ w.heap.size < w'.heap.size := h w
theorem makes_of {t e : TypeId} {z : Value} {size bytes : Nat} (ht : Try.prog.underlying t = some (.slice e)) (hinfo : (Try.prog.info? e).map (fun i => (i.zero, i.size, i.bytes)) = some (some z, size, bytes)) (n : Nat) (hn : n ≤ 1000) (hs : size ≤ 10) (hb : bytes ≤ 1000) (h0 : 0 < size) (hp : 0 < n) (hz : (madeCells z.cells (n * size)).size = n * size) : Makes t e n (madeCells z.cells (n * size)).toList := by
  intro w
  obtain ⟨i0, hi, hz0, hz1, hz2⟩ := info_parts hinfo
  have h1 : n * size ≤ 1000 * 10 := Nat.mul_le_mul hn hs
  have h2 : bytes * n ≤ 1000 * 1000 := Nat.mul_le_mul hb hn
  obtain ⟨w1, hmk, hown, hgr⟩ := run_makeSlice_full (P := Try.prog) w w.heap.size t e i0 _ size ht hi hz0 hz1 .i64 .i64 n (by omega) (by rw [hz2]; omega) (by simp only [maxLen]; omega) (Nat.le_refl _)
  refine ⟨w1, hmk, Ro.of_owns hown, below_make hgr, ?_⟩
  have hpos : 0 < n * size := Nat.mul_pos hp h0
  have hc := (Ro.of_owns hown) 0 ((madeCells z.cells (n * size)).toList[0]'(by rw [Array.length_toList, hz]; exact hpos)) (List.getElem?_eq_getElem _)
  exact block_lt_of_cell hc.1
set_option maxRecDepth 100000 in
set_option maxHeartbeats 8000000 in
theorem new_good (pg pgs rgs : Nat) (p0 : 32 ≤ pg) (p1 : pg ≤ 128) (s0 : 3 ≤ pgs) (s1 : pgs ≤ 10) (r0 : 4 ≤ rgs) (r1 : rgs ≤ 12) (w : World) :
    Calls Try.prog 24 #[.agg #[.int .i64 (pg : Int), .int .i64 (pgs : Int), .int .i64 (rgs : Int)]] w fun e w' => ∃ p S, e = .returned (ptr p) ∧ CHas w' p (newC pg pgs rgs) S ∧ Below w.heap.size w w' ∧ ∀ k, S k → w.heap.size ≤ k := by
  have HRG := Lib.hid (fun w => Geom.right_any ⟨pg, pgs, rgs⟩ w)
  rw [Geom.right_small.mpr ⟨by simp only; omega, by simp only; omega, by simp only; omega, by simp only; omega, by simp only; omega, by simp only; omega⟩] at HRG
  unfold Geom.gV at HRG
  have HMK : Hid (Makes 93 96 rgs (stC (List.replicate rgs (0, 0)))) := by
    have := makes_of Try.underlying93 infoState rgs (by omega) (by omega) (by omega) (by omega) (by omega) (by simp [size_madeCells])
    rw [show (Value.agg #[.int .u32 0, .int .i64 0]).cells = #[Value.int .u32 0, Value.int .i64 0] from rfl, made2] at this
    exact this
  unfold ptr
  go_enter Try.func24, Try.ntmps24
  go_wp2_with (go_at_call 54; (with_reducible refine (HRG.out _).mono ?_); rintro e w3 ⟨rfl, h3⟩; have HB3 := Lib.hid (bel2 (Geom.bel_alloc w (.cells #[.int .i64 (pg : Int), .int .i64 (pgs : Int), .int .i64 (rgs : Int)] 23)) h3); have HVG := Lib.hid ((Var.new w 23 [.int .i64 (pg : Int), .int .i64 (pgs : Int), .int .i64 (rgs : Int)]).below h3 (by simp)); clear h3)
  refine wp_region_tail 4 [6, 7, 8, 9] (fun w' => Below w3.heap.size w3 w') (NR [.agg #[.int .i64 (pg : Int), .int .i64 (pgs : Int), .int .i64 (rgs : Int)], .pointer (some ⟨w.heap.size, 2, none⟩), .int .i64 (rgs : Int), undef] [(3, rgs, w3.heap.size, stC (List.replicate rgs (0, 0)))]) (by kernel_rfl) (by kernel_rfl) (by kernel_rfl) (by decide) rfl (by decide) (by simp) (NR.mono _ _) (Below.refl _ _).drew ?each ?done
  case each =>
    simp only [List.take_succ_cons, List.take_zero, Each]
    refine ⟨?o0, ?o1, ?o2, ?o3, trivial⟩
    case o0 =>
      intro ys wx hBx hdeps
      clear hdeps
      have c0 : wx.cell? ⟨w.heap.size, 0, none⟩ = some (.int .i64 (pg : Int)) := (HVG.out.below hBx HVG.out.lt).cell (j := 0) rfl
      have c1 : wx.cell? ⟨w.heap.size, 1, none⟩ = some (.int .i64 (pgs : Int)) := (HVG.out.below hBx HVG.out.lt).cell (j := 1) rfl
      have c2 : wx.cell? ⟨w.heap.size, 2, none⟩ = some (.int .i64 (rgs : Int)) := (HVG.out.below hBx HVG.out.lt).cell (j := 2) rfl
      simp only [fill, List.foldl_cons, List.foldl_nil, Act.put, List.setIfInBounds_toArray, List.set_cons_succ, List.set_cons_zero]
      go_wp2_with fail
      exact ⟨_, rfl, rfl, hBx, Below.refl _ _⟩
    case o1 =>
      intro ys wx hBx hdeps
      clear hdeps
      simp only [fill, List.foldl_cons, List.foldl_nil, Act.put, List.setIfInBounds_toArray, List.set_cons_succ, List.set_cons_zero]
      go_wp2_with fail
      exact ⟨_, rfl, rfl, hBx, Below.refl _ _⟩
    case o2 =>
      intro ys wx hBx hdeps
      simp only [Deps, Region.binds, List.getD_cons_zero, List.getD_cons_succ, forall_const, and_true, true_and] at hdeps
      have y1 : ys 7 = .pointer (some ⟨w.heap.size, 2, none⟩) := by first | exact hdeps | exact hdeps.1 | exact hdeps.2.1 | exact hdeps.2.2.1 | exact hdeps.2.2.2.1 | exact hdeps.2.2.2.2.1 | exact hdeps.2.2.2.2.2.1 | exact hdeps.2.2.2.2.2.2.1 | exact hdeps.2.2.2.2.2.2.2.1 | exact hdeps.2.2.2.2.2.2.2.2.1 | exact hdeps.2.2.2.2.2.2.2.2.2.1 | exact hdeps.2.2.2.2.2.2.2.2.2.2.1 | exact hdeps.2.2.2.2.2.2.2.2.2.2.2.1 | exact hdeps.2 | exact hdeps.2.2 | exact hdeps.2.2.2 | exact hdeps.2.2.2.2 | exact hdeps.2.2.2.2.2 | exact hdeps.2.2.2.2.2.2 | exact hdeps.2.2.2.2.2.2.2 | exact hdeps.2.2.2.2.2.2.2.2 | exact hdeps.2.2.2.2.2.2.2.2.2 | exact hdeps.2.2.2.2.2.2.2.2.2.2 | exact hdeps.2.2.2.2.2.2.2.2.2.2.2
      clear hdeps
      have c0 : wx.cell? ⟨w.heap.size, 0, none⟩ = some (.int .i64 (pg : Int)) := (HVG.out.below hBx HVG.out.lt).cell (j := 0) rfl
      have c1 : wx.cell? ⟨w.heap.size, 1, none⟩ = some (.int .i64 (pgs : Int)) := (HVG.out.below hBx HVG.out.lt).cell (j := 1) rfl
      have c2 : wx.cell? ⟨w.heap.size, 2, none⟩ = some (.int .i64 (rgs : Int)) := (HVG.out.below hBx HVG.out.lt).cell (j := 2) rfl
      simp only [y1, fill, List.foldl_cons, List.foldl_nil, Act.put, List.setIfInBounds_toArray, List.set_cons_succ, List.set_cons_zero]
      go_wp2_with fail
      exact ⟨_, rfl, rfl, hBx, Below.refl _ _⟩
    case o3 =>
      intro ys wx hBx hdeps
      simp only [Deps, Region.binds, List.getD_cons_zero, List.getD_cons_succ, forall_const, and_true, true_and] at hdeps
      have y2 : ys 8 = .int .i64 (rgs : Int) := by first | exact hdeps | exact hdeps.1 | exact hdeps.2.1 | exact hdeps.2.2.1 | exact hdeps.2.2.2.1 | exact hdeps.2.2.2.2.1 | exact hdeps.2.2.2.2.2.1 | exact hdeps.2.2.2.2.2.2.1 | exact hdeps.2.2.2.2.2.2.2.1 | exact hdeps.2.2.2.2.2.2.2.2.1 | exact hdeps.2.2.2.2.2.2.2.2.2.1 | exact hdeps.2.2.2.2.2.2.2.2.2.2.1 | exact hdeps.2.2.2.2.2.2.2.2.2.2.2.1 | exact hdeps.2 | exact hdeps.2.2 | exact hdeps.2.2.2 | exact hdeps.2.2.2.2 | exact hdeps.2.2.2.2.2 | exact hdeps.2.2.2.2.2.2 | exact hdeps.2.2.2.2.2.2.2 | exact hdeps.2.2.2.2.2.2.2.2 | exact hdeps.2.2.2.2.2.2.2.2.2 | exact hdeps.2.2.2.2.2.2.2.2.2.2 | exact hdeps.2.2.2.2.2.2.2.2.2.2.2
      clear hdeps
      simp only [y2, fill, List.foldl_cons, List.foldl_nil, Act.put, List.setIfInBounds_toArray, List.set_cons_succ, List.set_cons_zero]
      with_reducible refine Exists.elim (HMK.out.go wx) ?_
      intro w1 hmks
      have hmk := hmks.1
      have HRo := Lib.hid hmks.2.1
      have HBl := Lib.hid hmks.2.2.1
      have HLt := Lib.hid hmks.2.2.2
      clear hmks
      go_wp2_with fail
      exact ⟨_, rfl, ⟨wx.heap.size, rgs, rfl, Nat.le_refl _, HRo.out, hBx.size, HLt.out⟩, hBx.trans (HBl.out.mono hBx.size), HBl.out⟩
  case done =>
    intro ys wx hBx hV
    have h6 : ys 6 = .agg #[.int .i64 (pg : Int), .int .i64 (pgs : Int), .int .i64 (rgs : Int)] := hV 0 (by decide)
    have h9 : ∃ g cap, ys 9 = .slice (some ⟨g, 0, none⟩) rgs cap ∧ rgs ≤ cap ∧ Ro wx g (stC (List.replicate rgs (0, 0))) ∧ w3.heap.size ≤ g ∧ g < wx.heap.size := hV 3 (by decide)
    with_reducible refine Exists.elim h9 ?_
    intro g0 h9b
    with_reducible refine Exists.elim h9b ?_
    intro cap hh
    have hg0 := hh.1
    have HC := Lib.hid hh.2.1
    have HR := Lib.hid hh.2.2.1
    have HG := Lib.hid hh.2.2.2
    have HB := Lib.hid (bel2 HB3.out hBx)
    clear hh h9 h9b hV hBx
    simp only [h6, hg0, fill, List.drop_succ_cons, List.drop_zero, List.foldl_cons, List.foldl_nil, Act.put, List.setIfInBounds_toArray, List.set_cons_succ, List.set_cons_zero]
    go_wp2
    go_ret
    refine ⟨wx.heap.size, foot wx.heap.size g0, rfl, ?_, HB.out.alloc HB.out.size _, ?_⟩
    · have hv := Var.new wx 98 [.int .i64 (pg : Int), .int .i64 (pgs : Int), .int .i64 (rgs : Int), .slice (some ⟨g0, 0, none⟩) rgs cap, .int .i64 0, .bool false]
      have h1 := HG.out.2
      refine ⟨g0, cap, 0, ⟨hv, HR.out.below (Geom.bel_alloc _ _), by simp; omega, fun k hk => by simp [newC] at hk, by omega, HC.out, by omega⟩, rfl⟩
    · have h1 := HG.out.1; have h2 := HB3.out.size; have h3 := HB.out.size
      rintro k (rfl | rfl) <;> omega
set_option maxRecDepth 100000 in
theorem new_wrong (g : Geom.Gm) (h : Geom.rightG g = false) (w : World) : Calls Try.prog 24 #[Geom.gV g] w fun e w' => e = .returned (.pointer none) ∧ Below w.heap.size w w' := by
  have HRG := Lib.hid (fun w => Geom.right_any g w)
  rw [h] at HRG
  clear h
  obtain ⟨p, q, r⟩ := g
  unfold Geom.gV at HRG ⊢
  go_enter Try.func24, Try.ntmps24
  go_wp2_with (go_at_call 54; (with_reducible refine (HRG.out _).mono ?_); rintro e w3 ⟨rfl, h3⟩)
  go_ret
  exact ⟨rfl, bel2 (Geom.bel_alloc w _) h3⟩
set_option maxRecDepth 100000 in
set_option maxHeartbeats 8000000 in
theorem refNew_any (pg pgs rgs : Nat) (p0 : 32 ≤ pg) (p1 : pg ≤ 128) (s0 : 3 ≤ pgs) (s1 : pgs ≤ 10) (r0 : 4 ≤ rgs) (r1 : rgs ≤ 12) (w : World) :
    Calls Try.prog 30 #[.agg #[.int .i64 (pg : Int), .int .i64 (pgs : Int), .int .i64 (rgs : Int)]] w fun e w' => ∃ p S, e = .returned (ptr p) ∧ DHas w' p (newC pg pgs rgs) S ∧ Below w.heap.size w w' ∧ ∀ k, S k → w.heap.size ≤ k := by
  have HVG := Lib.hid (Var.new w 23 [.int .i64 (pg : Int), .int .i64 (pgs : Int), .int .i64 (rgs : Int)])
  have HME : Hid (Makes 103 41 rgs (List.replicate rgs (Value.int .u32 0))) := by
    have := makes_of Try.underlying103 infoU32 rgs (by omega) (by omega) (by omega) (by omega) (by omega) (by simp [size_madeCells])
    rw [Nat.mul_one, show (Value.int .u32 0).cells = #[Value.int .u32 0] from rfl, toList_madeCells_one] at this
    exact this
  have HMU : Hid (Makes 104 3 rgs (List.replicate rgs (Value.int .i64 0))) := by
    have := makes_of Try.underlying104 infoI64 rgs (by omega) (by omega) (by omega) (by omega) (by omega) (by simp [size_madeCells])
    rw [Nat.mul_one, show (Value.int .i64 0).cells = #[Value.int .i64 0] from rfl, toList_madeCells_one] at this
    exact this
  unfold ptr
  go_enter Try.func30, Try.ntmps30
  go_wp2
  refine wp_region_tail 7 [3, 4, 5, 6, 7, 8, 9] (fun w' => Below (w.alloc (.cells #[.int .i64 (pg : Int), .int .i64 (pgs : Int), .int .i64 (rgs : Int)] 23)).heap.size (w.alloc (.cells #[.int .i64 (pg : Int), .int .i64 (pgs : Int), .int .i64 (rgs : Int)] 23)) w') (NR [.agg #[.int .i64 (pg : Int), .int .i64 (pgs : Int), .int .i64 (rgs : Int)], .pointer (some ⟨w.heap.size, 2, none⟩), .int .i64 (rgs : Int), undef, .pointer (some ⟨w.heap.size, 2, none⟩), .int .i64 (rgs : Int), undef] [(3, rgs, (w.alloc (.cells #[.int .i64 (pg : Int), .int .i64 (pgs : Int), .int .i64 (rgs : Int)] 23)).heap.size, List.replicate rgs (Value.int .u32 0)), (6, rgs, (w.alloc (.cells #[.int .i64 (pg : Int), .int .i64 (pgs : Int), .int .i64 (rgs : Int)] 23)).heap.size, List.replicate rgs (Value.int .i64 0))]) (by kernel_rfl) (by kernel_rfl) (by kernel_rfl) (by decide) rfl (by decide) (by simp) (NR.mono _ _) (Below.refl _ _).drew ?each ?done
  case each =>
    simp only [List.take_succ_cons, List.take_zero, Each]
    refine ⟨?o0, ?o1, ?o2, ?o3, ?o4, ?o5, ?o6, trivial⟩
    case o0 =>
      intro ys wx hBx hdeps
      clear hdeps
      have c0 : wx.cell? ⟨w.heap.size, 0, none⟩ = some (.int .i64 (pg : Int)) := (HVG.out.below hBx (by simp)).cell (j := 0) rfl
      have c1 : wx.cell? ⟨w.heap.size, 1, none⟩ = some (.int .i64 (pgs : Int)) := (HVG.out.below hBx (by simp)).cell (j := 1) rfl
      have c2 : wx.cell? ⟨w.heap.size, 2, none⟩ = some (.int .i64 (rgs : Int)) := (HVG.out.below hBx (by simp)).cell (j := 2) rfl
      simp only [fill, List.foldl_cons, List.foldl_nil, Act.put, List.setIfInBounds_toArray, List.set_cons_succ, List.set_cons_zero]
      go_wp2_with fail
      exact ⟨_, rfl, rfl, hBx, Below.refl _ _⟩
    case o1 =>
      intro ys wx hBx hdeps
      clear hdeps
      simp only [fill, List.foldl_cons, List.foldl_nil, Act.put, List.setIfInBounds_toArray, List.set_cons_succ, List.set_cons_zero]
      go_wp2_with fail
      exact ⟨_, rfl, rfl, hBx, Below.refl _ _⟩
    case o2 =>
      intro ys wx hBx hdeps
      simp only [Deps, Region.binds, List.getD_cons_zero, List.getD_cons_succ, forall_const, and_true, true_and] at hdeps
      have y1 : ys 4 = .pointer (some ⟨w.heap.size, 2, none⟩) := by first | exact hdeps | exact hdeps.1 | exact hdeps.2.1 | exact hdeps.2.2.1 | exact hdeps.2.2.2.1 | exact hdeps.2.2.2.2.1 | exact hdeps.2.2.2.2.2.1 | exact hdeps.2.2.2.2.2.2.1 | exact hdeps.2.2.2.2.2.2.2.1 | exact hdeps.2.2.2.2.2.2.2.2.1 | exact hdeps.2.2.2.2.2.2.2.2.2.1 | exact hdeps.2.2.2.2.2.2.2.2.2.2.1 | exact hdeps.2.2.2.2.2.2.2.2.2.2.2.1 | exact hdeps.2 | exact hdeps.2.2 | exact hdeps.2.2.2 | exact hdeps.2.2.2.2 | exact hdeps.2.2.2.2.2 | exact hdeps.2.2.2.2.2.2 | exact hdeps.2.2.2.2.2.2.2 | exact hdeps.2.2.2.2.2.2.2.2 | exact hdeps.2.2.2.2.2.2.2.2.2 | exact hdeps.2.2.2.2.2.2.2.2.2.2 | exact hdeps.2.2.2.2.2.2.2.2.2.2.2
      clear hdeps
      have c0 : wx.cell? ⟨w.heap.size, 0, none⟩ = some (.int .i64 (pg : Int)) := (HVG.out.below hBx (by simp)).cell (j := 0) rfl
      have c1 : wx.cell? ⟨w.heap.size, 1, none⟩ = some (.int .i64 (pgs : Int)) := (HVG.out.below hBx (by simp)).cell (j := 1) rfl
      have c2 : wx.cell? ⟨w.heap.size, 2, none⟩ = some (.int .i64 (rgs : Int)) := (HVG.out.below hBx (by simp)).cell (j := 2) rfl
      simp only [y1, fill, List.foldl_cons, List.foldl_nil, Act.put, List.setIfInBounds_toArray, List.set_cons_succ, List.set_cons_zero]
      go_wp2_with fail
      exact ⟨_, rfl, rfl, hBx, Below.refl _ _⟩
    case o3 =>
      intro ys wx hBx hdeps
      simp only [Deps, Region.binds, List.getD_cons_zero, List.getD_cons_succ, forall_const, and_true, true_and] at hdeps
      have y2 : ys 5 = .int .i64 (rgs : Int) := by first | exact hdeps | exact hdeps.1 | exact hdeps.2.1 | exact hdeps.2.2.1 | exact hdeps.2.2.2.1 | exact hdeps.2.2.2.2.1 | exact hdeps.2.2.2.2.2.1 | exact hdeps.2.2.2.2.2.2.1 | exact hdeps.2.2.2.2.2.2.2.1 | exact hdeps.2.2.2.2.2.2.2.2.1 | exact hdeps.2.2.2.2.2.2.2.2.2.1 | exact hdeps.2.2.2.2.2.2.2.2.2.2.1 | exact hdeps.2.2.2.2.2.2.2.2.2.2.2.1 | exact hdeps.2 | exact hdeps.2.2 | exact hdeps.2.2.2 | exact hdeps.2.2.2.2 | exact hdeps.2.2.2.2.2 | exact hdeps.2.2.2.2.2.2 | exact hdeps.2.2.2.2.2.2.2 | exact hdeps.2.2.2.2.2.2.2.2 | exact hdeps.2.2.2.2.2.2.2.2.2 | exact hdeps.2.2.2.2.2.2.2.2.2.2 | exact hdeps.2.2.2.2.2.2.2.2.2.2.2
      clear hdeps
      simp only [y2, fill, List.foldl_cons, List.foldl_nil, Act.put, List.setIfInBounds_toArray, List.set_cons_succ, List.set_cons_zero]
      with_reducible refine Exists.elim (HME.out.go wx) ?_
      intro w1 hmks
      have hmk := hmks.1
      have HRo := Lib.hid hmks.2.1
      have HBl := Lib.hid hmks.2.2.1
      have HLt := Lib.hid hmks.2.2.2
      clear hmks
      go_wp2_with fail
      exact ⟨_, rfl, ⟨wx.heap.size, rgs, rfl, Nat.le_refl _, HRo.out, hBx.size, HLt.out⟩, hBx.trans (HBl.out.mono hBx.size), HBl.out⟩
    case o4 =>
      intro ys wx hBx hdeps
      clear hdeps
      simp only [fill, List.foldl_cons, List.foldl_nil, Act.put, List.setIfInBounds_toArray, List.set_cons_succ, List.set_cons_zero]
      go_wp2_with fail
      exact ⟨_, rfl, rfl, hBx, Below.refl _ _⟩
    case o5 =>
      intro ys wx hBx hdeps
      simp only [Deps, Region.binds, List.getD_cons_zero, List.getD_cons_succ, forall_const, and_true, true_and] at hdeps
      have y4 : ys 7 = .pointer (some ⟨w.heap.size, 2, none⟩) := by first | exact hdeps | exact hdeps.1 | exact hdeps.2.1 | exact hdeps.2.2.1 | exact hdeps.2.2.2.1 | exact hdeps.2.2.2.2.1 | exact hdeps.2.2.2.2.2.1 | exact hdeps.2.2.2.2.2.2.1 | exact hdeps.2.2.2.2.2.2.2.1 | exact hdeps.2.2.2.2.2.2.2.2.1 | exact hdeps.2.2.2.2.2.2.2.2.2.1 | exact hdeps.2.2.2.2.2.2.2.2.2.2.1 | exact hdeps.2.2.2.2.2.2.2.2.2.2.2.1 | exact hdeps.2 | exact hdeps.2.2 | exact hdeps.2.2.2 | exact hdeps.2.2.2.2 | exact hdeps.2.2.2.2.2 | exact hdeps.2.2.2.2.2.2 | exact hdeps.2.2.2.2.2.2.2 | exact hdeps.2.2.2.2.2.2.2.2 | exact hdeps.2.2.2.2.2.2.2.2.2 | exact hdeps.2.2.2.2.2.2.2.2.2.2 | exact hdeps.2.2.2.2.2.2.2.2.2.2.2
      clear hdeps
      have c0 : wx.cell? ⟨w.heap.size, 0, none⟩ = some (.int .i64 (pg : Int)) := (HVG.out.below hBx (by simp)).cell (j := 0) rfl
      have c1 : wx.cell? ⟨w.heap.size, 1, none⟩ = some (.int .i64 (pgs : Int)) := (HVG.out.below hBx (by simp)).cell (j := 1) rfl
      have c2 : wx.cell? ⟨w.heap.size, 2, none⟩ = some (.int .i64 (rgs : Int)) := (HVG.out.below hBx (by simp)).cell (j := 2) rfl
      simp only [y4, fill, List.foldl_cons, List.foldl_nil, Act.put, List.setIfInBounds_toArray, List.set_cons_succ, List.set_cons_zero]
      go_wp2_with fail
      exact ⟨_, rfl, rfl, hBx, Below.refl _ _⟩
    case o6 =>
      intro ys wx hBx hdeps
      simp only [Deps, Region.binds, List.getD_cons_zero, List.getD_cons_succ, forall_const, and_true, true_and] at hdeps
      have y5 : ys 8 = .int .i64 (rgs : Int) := by first | exact hdeps | exact hdeps.1 | exact hdeps.2.1 | exact hdeps.2.2.1 | exact hdeps.2.2.2.1 | exact hdeps.2.2.2.2.1 | exact hdeps.2.2.2.2.2.1 | exact hdeps.2.2.2.2.2.2.1 | exact hdeps.2.2.2.2.2.2.2.1 | exact hdeps.2.2.2.2.2.2.2.2.1 | exact hdeps.2.2.2.2.2.2.2.2.2.1 | exact hdeps.2.2.2.2.2.2.2.2.2.2.1 | exact hdeps.2.2.2.2.2.2.2.2.2.2.2.1 | exact hdeps.2 | exact hdeps.2.2 | exact hdeps.2.2.2 | exact hdeps.2.2.2.2 | exact hdeps.2.2.2.2.2 | exact hdeps.2.2.2.2.2.2 | exact hdeps.2.2.2.2.2.2.2 | exact hdeps.2.2.2.2.2.2.2.2 | exact hdeps.2.2.2.2.2.2.2.2.2 | exact hdeps.2.2.2.2.2.2.2.2.2.2 | exact hdeps.2.2.2.2.2.2.2.2.2.2.2
      clear hdeps
      simp only [y5, fill, List.foldl_cons, List.foldl_nil, Act.put, List.setIfInBounds_toArray, List.set_cons_succ, List.set_cons_zero]
      with_reducible refine Exists.elim (HMU.out.go wx) ?_
      intro w1 hmks
      have hmk := hmks.1
      have HRo := Lib.hid hmks.2.1
      have HBl := Lib.hid hmks.2.2.1
      have HLt := Lib.hid hmks.2.2.2
      clear hmks
      go_wp2_with fail
      exact ⟨_, rfl, ⟨wx.heap.size, rgs, rfl, Nat.le_refl _, HRo.out, hBx.size, HLt.out⟩, hBx.trans (HBl.out.mono hBx.size), HBl.out⟩
  case done =>
    intro ys wx hBx hV
    have h3 : ys 3 = .agg #[.int .i64 (pg : Int), .int .i64 (pgs : Int), .int .i64 (rgs : Int)] := hV 0 (by decide)
    have h6 : ∃ g cap, ys 6 = .slice (some ⟨g, 0, none⟩) rgs cap ∧ rgs ≤ cap ∧ Ro wx g (List.replicate rgs (Value.int .u32 0)) ∧ (w.alloc (.cells #[.int .i64 (pg : Int), .int .i64 (pgs : Int), .int .i64 (rgs : Int)] 23)).heap.size ≤ g ∧ g < wx.heap.size := hV 3 (by decide)
    with_reducible refine Exists.elim h6 ?_
    intro bE hbE
    with_reducible refine Exists.elim hbE ?_
    intro capE hhE
    have hgE := hhE.1
    have HCE := Lib.hid hhE.2.1
    have HRE := Lib.hid hhE.2.2.1
    have HGE := Lib.hid hhE.2.2.2
    clear h6 hbE hhE
    have h9 : ∃ g cap, ys 9 = .slice (some ⟨g, 0, none⟩) rgs cap ∧ rgs ≤ cap ∧ Ro wx g (List.replicate rgs (Value.int .i64 0)) ∧ (w.alloc (.cells #[.int .i64 (pg : Int), .int .i64 (pgs : Int), .int .i64 (rgs : Int)] 23)).heap.size ≤ g ∧ g < wx.heap.size := hV 6 (by decide)
    with_reducible refine Exists.elim h9 ?_
    intro bU hbU
    with_reducible refine Exists.elim hbU ?_
    intro capU hhU
    have hgU := hhU.1
    have HCU := Lib.hid hhU.2.1
    have HRU := Lib.hid hhU.2.2.1
    have HGU := Lib.hid hhU.2.2.2
    clear h9 hbU hhU
    have HB := Lib.hid (bel2 (Geom.bel_alloc w (.cells #[.int .i64 (pg : Int), .int .i64 (pgs : Int), .int .i64 (rgs : Int)] 23)) hBx)
    clear hV hBx
    simp only [h3, hgE, hgU, fill, List.drop_succ_cons, List.drop_zero, List.foldl_cons, List.foldl_nil, Act.put, List.setIfInBounds_toArray, List.set_cons_succ, List.set_cons_zero]
    go_wp2
    go_ret
    have hs0 : (w.alloc (.cells #[.int .i64 (pg : Int), .int .i64 (pgs : Int), .int .i64 (rgs : Int)] 23)).heap.size = w.heap.size + 1 := by simp
    have eE := (HRE.out 0 (Value.int .u32 0) (by rw [List.getElem?_replicate, if_pos (by omega)])).1
    have eU := (HRU.out 0 (Value.int .i64 0) (by rw [List.getElem?_replicate, if_pos (by omega)])).1
    have hne : bE ≠ bU := by
      intro e
      rw [e, eU] at eE
      simp at eE
    have h1 := HGE.out; have h2 := HGU.out; have h4 := HB.out.size
    refine ⟨wx.heap.size, footD wx.heap.size bE bU, rfl, ?_, HB.out.alloc HB.out.size _, ?_⟩
    · have hv := Var.new wx 106 [.int .i64 (pg : Int), .int .i64 (pgs : Int), .int .i64 (rgs : Int), .slice (some ⟨bE, 0, none⟩) rgs capE, .slice (some ⟨bU, 0, none⟩) rgs capU, .int .i64 (-1)]
      refine ⟨bE, capE, bU, capU, ⟨hv, ?_, ?_, by simp; omega, by simp; omega, HCE.out, HCU.out, by omega, by omega, hne⟩, rfl⟩
      · rw [new_st, List.map_replicate]; exact HRE.out.below (Geom.bel_alloc _ _)
      · rw [new_st, List.map_replicate]; exact HRU.out.below (Geom.bel_alloc _ _)
    · rintro k (rfl | rfl | rfl) <;> omega
end Go.Proofs.Ytcmjambbdfangaa.Chart
/-
  The document's own account: what is told of it.
-/
set_option linter.unusedVariables false
set_option linter.unusedSimpArgs false
namespace Go.Proofs.Ytcmjambbdfangaa.Chart
open Go.RowKit
open Go.Proofs.Ytcmjambbdfangaa.Own
open Tup Foot
open Go.Proofs.Ytcmjambbdfangaa.Region (fill Then Deps Each wp_region_is wp_region_is_tail)

end Go.Proofs.Ytcmjambbdfangaa.Chart
/-
  The document's own account: what turns it, and the oldest region.
-/
set_option linter.unusedVariables false
set_option linter.unusedSimpArgs false
namespace Go.Proofs.Ytcmjambbdfangaa.Chart
open Go.RowKit
open Go.Proofs.Ytcmjambbdfangaa.Own
open Tup Foot
open Go.Proofs.Ytcmjambbdfangaa.Region (fill Then Deps Each wp_region_is wp_region_is_tail)

def nowV (c : Ch) : Int := match c.now with | none => -1 | some k => (k : Int)
theorem nowV_eq (c : Ch) (k : Nat) : (((k : Nat) : Int) == nowV c) = decide (c.now = some k) := by
  unfold nowV
  cases c.now with
  | none => simp
  | some j => by_cases e : j = k
              · subst e; simp
              · have : ¬ ((k : Int) = (j : Int)) := by omega
                simp [e, this]
theorem nowV_pos (c : Ch) : decide (0 ≤ nowV c) = c.now.isSome := by
  unfold nowV
  cases c.now with
  | none => rfl
  | some j => simp
theorem nowV_lo (c : Ch) : -1 ≤ nowV c := by unfold nowV; cases c.now <;> simp only <;> omega
theorem nowV_hi {c : Ch} (h : c.Ok) : nowV c < 1000 := by
  unfold nowV
  cases hn : c.now with
  | none => simp only; omega
  | some k => have := (h.now k hn).1; have := h.r1; simp only; omega
theorem DAt.now {w : World} {r : Nat} {c : Ch} {bE capE bU capU : Nat} (h : DAt w r c bE capE bU capU) : w.cell? ⟨r, 5, none⟩ = some (.int .i64 (nowV c)) := h.var.cell (j := 5) rfl
def LeftD (w : World) (r bE capE bU capU : Nat) (c : Ch) (w' : World) : Prop := Grows (footD r bE bU) w w' ∧ DAt w' r c bE capE bU capU
theorem leftD_below {w w' : World} {r : Nat} {c : Ch} {bE capE bU capU : Nat} (h : DAt w r c bE capE bU capU) (hb : Below w.heap.size w w') : LeftD w r bE capE bU capU c w' := ⟨grows_below hb, h.below hb⟩
theorem leftD_then {w w1 w' : World} {r : Nat} {c : Ch} {bE capE bU capU : Nat} (hb : Below w.heap.size w w1) (h : DAt w' r c bE capE bU capU) (g : Grows (footD r bE bU) w1 w') : LeftD w r bE capE bU capU c w' :=
  ⟨(grows_below hb).trans g (fun _ x => .inl x), h⟩
def oldV (c : Ch) (k : Nat) : Int := match c.oldTo k with | none => -1 | some j => (j : Int)
theorem oldV_some {c : Ch} {k j : Nat} (h : c.oldTo k = some j) : oldV c k = (j : Int) := by unfold oldV; rw [h]
theorem oldV_none {c : Ch} {k : Nat} (h : c.oldTo k = none) : oldV c k = -1 := by unfold oldV; rw [h]
theorem oldV_same {c : Ch} {k i : Nat} (h : c.oldTo k = c.oldTo i) : oldV c k = oldV c i := by unfold oldV; rw [h]
theorem oldV_lo (c : Ch) (k : Nat) : -1 ≤ oldV c k ∧ oldV c k < k + 1 := by
  unfold oldV
  cases h : c.oldTo k with
  | none => simp only; omega
  | some j => have := oldTo_lt h; simp only; omega
theorem old_end (c : Ch) : max (oldV c c.rgs) 0 = ((oldestC c).1 : Int) ∧ decide (0 ≤ oldV c c.rgs) = (oldestC c).2 := by
  unfold oldV oldestC
  cases c.oldTo c.rgs with
  | none => exact ⟨rfl, rfl⟩
  | some j => simp only; exact ⟨by omega, by simp⟩
end Go.Proofs.Ytcmjambbdfangaa.Chart
/-
  The document's own account: Resume, Open, Take.
-/
set_option linter.unusedVariables false
set_option linter.unusedSimpArgs false
namespace Go.Proofs.Ytcmjambbdfangaa.Chart
open Go.RowKit
open Go.Proofs.Ytcmjambbdfangaa.Own
open Tup Foot
open Go.Proofs.Ytcmjambbdfangaa.Region (fill Then Deps Each wp_region_is wp_region_is_tail)

theorem maxTo_next {c : Ch} {k B : Nat} (h : c.maxTo k ≤ B) (hk : c.ep k ≤ B) : c.maxTo (k + 1) ≤ B := by
  rw [Ch.maxTo]; split <;> assumption
theorem topTo_in (c : Ch) {k n : Nat} (h : k ≤ n) (hn : 0 < n) : c.topTo k < n := by
  cases k with
  | zero => exact hn
  | succ k => have := topTo_lt (c := c) (k := k + 1) (by omega); omega
theorem around {t k n : Nat} (ht : t < n) (hk : k < n) : ((t + k) % n + n - t) % n = k := by
  by_cases h : t + k < n
  · rw [Nat.mod_eq_of_lt h, show t + k + n - t = k + n by omega, Nat.add_mod_right, Nat.mod_eq_of_lt hk]
  · have e : (t + k) % n = t + k - n := by rw [Nat.mod_eq_sub_mod (by omega), Nat.mod_eq_of_lt (show t + k - n < n by omega)]
    rw [e, show t + k - n + n - t = k by omega, Nat.mod_eq_of_lt hk]
theorem around_next (t k n : Nat) : ((t + k) % n + 1) % n = (t + (k + 1)) % n := by
  rw [Nat.mod_add_mod]; rfl
end Go.Proofs.Ytcmjambbdfangaa.Chart
/-
  The landed account and the document's: what their calls answer, over the blocks that they have.
-/
set_option linter.unusedVariables false
set_option linter.unusedSimpArgs false
namespace Go.Proofs.Ytcmjambbdfangaa.Chart
open Go.RowKit
open Go.Proofs.Ytcmjambbdfangaa.Own
open Tup Foot

theorem below_same {w w' : World} (h : w = w') : Below w.heap.size w w' := by subst h; exact Below.refl _ _
theorem cGeom_any {w : World} {p : Nat} {c : Ch} {S : Nat → Prop} (h : CHas w p c S) : Calls Try.prog 57 #[ptr p] w fun e w' => e = .returned (.agg #[.int .i64 (c.pg : Int), .int .i64 (c.pgs : Int), .int .i64 (c.rgs : Int)]) ∧ Below w.heap.size w w' := by
  obtain ⟨bS, cap, on, h, rfl⟩ := h
  exact geom_any h
theorem cEpoch_any {w : World} {p : Nat} {c : Ch} {S : Nat → Prop} (h : CHas w p c S) (hd : c.Ok) (i : Int) : Calls Try.prog 45 #[ptr p, .int .i64 i] w fun e w' => e = .returned (.int .u32 (epochC c i : Int)) ∧ w = w' := by
  obtain ⟨bS, cap, on, h, rfl⟩ := h
  exact atEpoch_any h hd i
theorem cUsed_any {w : World} {p : Nat} {c : Ch} {S : Nat → Prop} (h : CHas w p c S) (hd : c.Ok) (i : Int) : Calls Try.prog 46 #[ptr p, .int .i64 i] w fun e w' => e = .returned (.int .i64 (usedC c i : Int)) ∧ w = w' := by
  obtain ⟨bS, cap, on, h, rfl⟩ := h
  exact atUsed_any h hd i
theorem cFree_any {w : World} {p : Nat} {c : Ch} {S : Nat → Prop} (h : CHas w p c S) (hd : c.Ok) : Calls Try.prog 22 #[ptr p] w fun e w' => e = .returned (.int .i64 (c.free : Int)) ∧ Below w.heap.size w w' := by
  obtain ⟨bS, cap, on, h, rfl⟩ := h
  exact atFree_any h hd
theorem cLeft_any {w : World} {p : Nat} {c : Ch} {S : Nat → Prop} (h : CHas w p c S) (hd : c.Ok) : Calls Try.prog 33 #[ptr p] w fun e w' => e = .returned (.int .i64 (c.left : Int)) ∧ Below w.heap.size w w' := by
  obtain ⟨bS, cap, on, h, rfl⟩ := h
  exact atLeft_any h hd
theorem CHas.of_left {w w' : World} {p bS cap : Nat} {c : Ch} (h : Left w p bS cap c w') : CHas w' p c (foot p bS) ∧ Grows (foot p bS) w w' := by
  obtain ⟨g, on, h⟩ := h
  exact ⟨⟨bS, cap, on, h, rfl⟩, g⟩
theorem CHas.of_leftN {w w' : World} {p bS cap : Nat} {x : Nat × Ch} (h : LeftN w p bS cap x w') : CHas w' p x.2 (foot p bS) ∧ Grows (foot p bS) w w' ∧ (x.1 ≠ 0 → Below w.heap.size w w') := ⟨(CHas.of_left h.1).1, (CHas.of_left h.1).2, h.2⟩
theorem DHas.of_left {w w' : World} {r bE capE bU capU : Nat} {c : Ch} (h : LeftD w r bE capE bU capU c w') : DHas w' r c (footD r bE bU) ∧ Grows (footD r bE bU) w w' := ⟨⟨bE, capE, bU, capU, h.2, rfl⟩, h.1⟩
theorem cSet_any {w : World} {p : Nat} {c : Ch} {S : Nat → Prop} (h : CHas w p c S) (hd : c.Ok) (i : Int) (x : Nat) (u : Int) : Calls Try.prog 49 #[ptr p, .int .i64 i, .int .u32 (x : Int), .int .i64 u] w fun e w' => e = .returned (.int .i64 ((setC c i x u).1 : Int)) ∧ CHas w' p (setC c i x u).2 S ∧ Grows S w w' ∧ ((setC c i x u).1 ≠ 0 → Below w.heap.size w w') := by
  obtain ⟨bS, cap, on, h, rfl⟩ := h
  exact (atSet_any h hd i x u).mono fun e w' q => ⟨q.1, CHas.of_leftN q.2⟩
theorem cErase_any {w : World} {p : Nat} {c : Ch} {S : Nat → Prop} (h : CHas w p c S) (hd : c.Ok) (i : Int) : Calls Try.prog 47 #[ptr p, .int .i64 i] w fun e w' => e = .returned (.int .i64 ((eraseC c i).1 : Int)) ∧ CHas w' p (eraseC c i).2 S ∧ Grows S w w' ∧ ((eraseC c i).1 ≠ 0 → Below w.heap.size w w') := by
  obtain ⟨bS, cap, on, h, rfl⟩ := h
  exact (atErase_any h hd i).mono fun e w' q => ⟨q.1, CHas.of_leftN q.2⟩
theorem cOpen_any {w : World} {p : Nat} {c : Ch} {S : Nat → Prop} (h : CHas w p c S) (hd : c.Ok) : Calls Try.prog 67 #[ptr p] w fun e w' => e = .returned (.tuple #[.int .i64 ((openC c).1.1 : Int), .int .u32 ((openC c).1.2.1 : Int), .bool (openC c).1.2.2]) ∧ CHas w' p (openC c).2 S ∧ Grows S w w' := by
  obtain ⟨bS, cap, on, h, rfl⟩ := h
  exact (atOpen_any h hd).mono fun e w' q => ⟨q.1, CHas.of_left q.2⟩
theorem cTake_any {w : World} {p : Nat} {c : Ch} {S : Nat → Prop} (h : CHas w p c S) (hd : c.Ok) : Calls Try.prog 35 #[ptr p] w fun e w' => e = .returned (.tuple #[.int .i64 ((takeC c).1.1 : Int), .bool (takeC c).1.2]) ∧ CHas w' p (takeC c).2 S ∧ Grows S w w' := by
  obtain ⟨bS, cap, on, h, rfl⟩ := h
  exact (atTake_any h hd).mono fun e w' q => ⟨q.1, CHas.of_left q.2⟩
theorem DHas.geo {w : World} {p : Nat} {c : Ch} {S : Nat → Prop} (h : DHas w p c S) : w.cell? ⟨p, 0, none⟩ = some (.int .i64 (c.pg : Int)) ∧ w.cell? ⟨p, 1, none⟩ = some (.int .i64 (c.pgs : Int)) ∧ w.cell? ⟨p, 2, none⟩ = some (.int .i64 (c.rgs : Int)) := by
  obtain ⟨a, b, d, e, h, rfl⟩ := h
  exact ⟨h.var.cell (j := 0) rfl, h.var.cell (j := 1) rfl, h.var.cell (j := 2) rfl⟩
/-- the rows of the document's account -/
theorem DHas.rows {w : World} {p : Nat} {c : Ch} {S : Nat → Prop} (h : DHas w p c S) (hd : c.Ok) : ∃ bE capE bU capU, (∀ wx, Below w.heap.size w wx → wx.cell? ⟨p, 3, none⟩ = some (.slice (some ⟨bE, 0, none⟩) c.rgs capE) ∧ wx.cell? ⟨p, 4, none⟩ = some (.slice (some ⟨bU, 0, none⟩) c.rgs capU) ∧ ∀ k, k < c.rgs → wx.cell? ⟨bE, k, none⟩ = some (.int .u32 (c.ep k : Int)) ∧ wx.cell? ⟨bU, k, none⟩ = some (.int .i64 (c.us k : Int))) := by
  obtain ⟨a, b, d, e, h, rfl⟩ := h
  exact ⟨a, b, d, e, fun wx hb => ⟨(h.below hb).var.cell (j := 3) rfl, (h.below hb).var.cell (j := 4) rfl, fun k hk => ⟨((h.below hb).getE hd hk).1, ((h.below hb).getU hd hk).1⟩⟩⟩
theorem cNew_any (g : Geom.Gm) (w : World) : Calls Try.prog 24 #[Geom.gV g] w fun e w' => Below w.heap.size w w' ∧
    if Geom.rightG g = true then ∃ p S, e = .returned (ptr p) ∧ CHas w' p (newC g.page.toNat g.pages.toNat g.regions.toNat) S ∧ ∀ k, S k → w.heap.size ≤ k
    else e = .returned (.pointer none) := by
  rcases hr : Geom.rightG g with _ | _
  · simp only [Bool.false_eq_true, if_false]
    exact (new_wrong g hr w).mono fun e w' q => ⟨q.2, q.1⟩
  · simp only [if_true]
    obtain ⟨p0, p1, s0, s1, r0, r1⟩ := Geom.right_small.mp hr
    obtain ⟨gp, gs, gr⟩ := g
    simp only at p0 p1 s0 s1 r0 r1
    obtain ⟨pg, rfl⟩ : ∃ k : Nat, gp = (k : Int) := ⟨gp.toNat, by omega⟩
    obtain ⟨pgs, rfl⟩ : ∃ k : Nat, gs = (k : Int) := ⟨gs.toNat, by omega⟩
    obtain ⟨rgs, rfl⟩ : ∃ k : Nat, gr = (k : Int) := ⟨gr.toNat, by omega⟩
    simp only [Int.toNat_natCast]
    exact (new_good pg pgs rgs (by omega) (by omega) (by omega) (by omega) (by omega) (by omega) w).mono fun e w' q => by
      obtain ⟨p, S, h1, h2, h3, h4⟩ := q
      exact ⟨h3, p, S, h1, h2, h4⟩
/-- nothing below B has turned, and what is held lies beyond -/
structure Safe (B : Nat) (w0 w : World) (S : Nat → Prop) : Prop where
  bel : Below B w0 w
  size : B ≤ w.heap.size
  foot : ∀ k, S k → B ≤ k
theorem Safe.below {B : Nat} {w0 w w' : World} {S : Nat → Prop} (h : Safe B w0 w S) (g : Below w.heap.size w w') : Safe B w0 w' S := ⟨h.bel.trans (g.mono h.size), Nat.le_trans h.size g.size, h.foot⟩
theorem Safe.turn {B : Nat} {w0 w w' : World} {S : Nat → Prop} (h : Safe B w0 w S) (g : Grows S w w') : Safe B w0 w' S := ⟨h.bel.trans (g.below h.size h.foot), Nat.le_trans h.size g.size, h.foot⟩
def both (S R : Nat → Prop) : Nat → Prop := fun k => S k ∨ R k
/-- the two accounts, apart from one another -/
structure Two (w : World) (p r : Nat) (c d : Ch) (S R : Nat → Prop) : Prop where
  f : CHas w p c S
  r : DHas w r d R
  apart : ∀ k, S k → ¬ R k
theorem Two.below {w w' : World} {p r : Nat} {c d : Ch} {S R : Nat → Prop} (h : Two w p r c d S R) (g : Below w.heap.size w w') : Two w' p r c d S R := ⟨h.f.below g, h.r.below g, h.apart⟩
theorem Two.left {w w' : World} {p r : Nat} {c c' d : Ch} {S R : Nat → Prop} (h : Two w p r c d S R) (hf : CHas w' p c' S) (g : Grows S w w') : Two w' p r c' d S R ∧ Grows (both S R) w w' :=
  ⟨⟨hf, h.r.grows g (fun k hr hs => h.apart k hs hr), h.apart⟩, g.mono fun _ x => .inl x⟩
theorem Two.right {w w' : World} {p r : Nat} {c d d' : Ch} {S R : Nat → Prop} (h : Two w p r c d S R) (hr : DHas w' r d' R) (g : Grows R w w') : Two w' p r c d' S R ∧ Grows (both S R) w w' :=
  ⟨⟨h.f.grows g (fun k hs hk => h.apart k hs hk), hr, h.apart⟩, g.mono fun _ x => .inr x⟩
end Go.Proofs.Ytcmjambbdfangaa.Chart
