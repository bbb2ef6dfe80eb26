/-
  A new account: the landed one, the document's own.
-/
import Derived.Test.YtmkdhehdfdkbjaaChartXd
set_option linter.unusedVariables false
set_option linter.unusedSimpArgs false
namespace Go.Proofs.Ytmkdhehdfdkbjaa.Chart
open Go.RowKit
open Go.Proofs.Ytmkdhehdfdkbjaa.Own
open Tup Foot
open Go.Proofs.Ytmkdhehdfdkbjaa.Region (fill Then Deps Each wp_region_tail)

theorem made2 (n : Nat) : (madeCells #[Value.int .u32 0, Value.int .i64 0] (n * 2)).toList = stC (List.replicate n (0, 0)) := by
  apply List.ext_getElem?
  intro j
  have hl : (stC (List.replicate n (0, 0))).length = n * 2 := by
    unfold stC; induction n with
    | zero => rfl
    | succ n ih => rw [List.replicate_succ, List.flatMap_cons, List.length_append, ih]; simp only [List.length_cons, List.length_nil]; omega
  by_cases hj : j < n * 2
  · have hk : j / 2 < (List.replicate n ((0 : Nat), (0 : Nat))).length := by simp; omega
    obtain ⟨h0, h1⟩ := stC_get hk
    simp only [List.getElem_replicate] at h0 h1
    have e1 : (madeCells #[Value.int .u32 0, Value.int .i64 0] (n * 2)).toList[j]? = some (#[Value.int .u32 0, Value.int .i64 0][j % 2]!) := by
      simp [madeCells, hj]
    rw [e1]
    rcases Nat.mod_two_eq_zero_or_one j with h | h
    · rw [h, show j = j / 2 * 2 by omega, h0]; rfl
    · rw [h, show j = j / 2 * 2 + 1 by omega, h1]; rfl
  · rw [List.getElem?_eq_none (l := stC _) (by rw [hl]; omega), List.getElem?_eq_none (by simp only [Array.length_toList, size_madeCells]; omega)]
/-- the values of operations some of which make rows -/
def NR (tab : List Value) (B : List (Nat × Nat × Nat × List Value)) : Nat → Value → World → Prop := fun i v w => match B.lookup i with
  | some (n, base, cs) => ∃ g cap, v = .slice (some ⟨g, 0, none⟩) n cap ∧ n ≤ cap ∧ Ro w g cs ∧ base ≤ g ∧ g < w.heap.size
  | none => v = tab.getD i undef
theorem NR.mono (tab : List Value) (B : List (Nat × Nat × Nat × List Value)) : ∀ i v w w', NR tab B i v w → Below w.heap.size w w' → NR tab B i v w' := by
  intro i v w w' h hb
  unfold NR at h ⊢
  split
  · rename_i n base cs e
    rw [e] at h
    obtain ⟨g, cap, h1, h2, h3, h4, h5⟩ := h
    exact ⟨g, cap, h1, h2, h3.below hb, h4, Nat.lt_of_lt_of_le h5 hb.size⟩
  · rename_i e
    rw [e] at h; exact h
theorem new_st (pg pgs rgs : Nat) : (newC pg pgs rgs).st = List.replicate rgs (0, 0) := rfl
theorem below_make {w w2 : World} (h : w.grownBy w2 none) : Below w.heap.size w w2 := (Below.refl _ _).grown h (Nat.le_refl _) (fun k hk => by simp at hk)
theorem infoState : (Try.prog.info? 64).map (fun i => (i.zero, i.size, i.bytes)) = some (some (.agg #[.int .u32 0, .int .i64 0]), 2, 16) := by kernel_rfl
theorem infoI64 : (Try.prog.info? 3).map (fun i => (i.zero, i.size, i.bytes)) = some (some (.int .i64 0), 1, 8) := by kernel_rfl
theorem infoU32 : (Try.prog.info? 33).map (fun i => (i.zero, i.size, i.bytes)) = some (some (.int .u32 0), 1, 4) := by kernel_rfl
/-- what a makeSlice leaves -/
def Makes (t e : TypeId) (n : Nat) (cs : List Value) : Prop := ∀ w : World, ∃ w', (Instr.makeSlice t (.int .i64 (n : Int)) (.int .i64 (n : Int))).run Try.prog w = .ok (.slice (some ⟨w.heap.size, 0, none⟩) n n) w' ∧ Ro w' w.heap.size cs ∧ Below w.heap.size w w' ∧ w.heap.size < w'.heap.size
theorem Makes.go {t e : TypeId} {n : Nat} {cs : List Value} (h : Makes t e n cs) (w : World) : ∃ w', (Instr.makeSlice t (.int .i64 (n : Int)) (.int .i64 (n : Int))).run Try.prog w = .ok (.slice (some ⟨w.heap.size, 0, none⟩) n n) w' ∧ Ro w' w.heap.size cs ∧ Below w.heap.size w w' ∧ w.heap.size < w'.heap.size := h w
theorem makes_of {t e : TypeId} {z : Value} {size bytes : Nat} (ht : Try.prog.underlying t = some (.slice e)) (hinfo : (Try.prog.info? e).map (fun i => (i.zero, i.size, i.bytes)) = some (some z, size, bytes)) (n : Nat) (hn : n ≤ 1000) (hs : size ≤ 10) (hb : bytes ≤ 1000) (h0 : 0 < size) (hp : 0 < n) (hz : (madeCells z.cells (n * size)).size = n * size) : Makes t e n (madeCells z.cells (n * size)).toList := by
  intro w
  obtain ⟨i0, hi, hz0, hz1, hz2⟩ := info_parts hinfo
  have h1 : n * size ≤ 1000 * 10 := Nat.mul_le_mul hn hs
  have h2 : bytes * n ≤ 1000 * 1000 := Nat.mul_le_mul hb hn
  obtain ⟨w1, hmk, hown, hgr⟩ := run_makeSlice_full (P := Try.prog) w w.heap.size t e i0 _ size ht hi hz0 hz1 .i64 .i64 n (by omega) (by rw [hz2]; omega) (by simp only [maxLen]; omega) (Nat.le_refl _)
  refine ⟨w1, hmk, Ro.of_owns hown, below_make hgr, ?_⟩
  have hpos : 0 < n * size := Nat.mul_pos hp h0
  have hc := (Ro.of_owns hown) 0 ((madeCells z.cells (n * size)).toList[0]'(by rw [Array.length_toList, hz]; exact hpos)) (List.getElem?_eq_getElem _)
  exact block_lt_of_cell hc.1
set_option maxRecDepth 100000 in
set_option maxHeartbeats 8000000 in
theorem new_good (pg pgs rgs : Nat) (p0 : 32 ≤ pg) (p1 : pg ≤ 128) (s0 : 3 ≤ pgs) (s1 : pgs ≤ 10) (r0 : 4 ≤ rgs) (r1 : rgs ≤ 12) (w : World) :
    Calls Try.prog 11 #[.agg #[.int .i64 (pg : Int), .int .i64 (pgs : Int), .int .i64 (rgs : Int)]] w fun e w' => ∃ p S, e = .returned (ptr p) ∧ CHas w' p (newC pg pgs rgs) S ∧ Below w.heap.size w w' ∧ ∀ k, S k → w.heap.size ≤ k := by
  have HRG := Lib.hid (fun w => Geom.right_any ⟨pg, pgs, rgs⟩ w)
  rw [Geom.right_small.mpr ⟨by simp only; omega, by simp only; omega, by simp only; omega, by simp only; omega, by simp only; omega, by simp only; omega⟩] at HRG
  unfold Geom.gV at HRG
  have HMK : Hid (Makes 56 64 rgs (stC (List.replicate rgs (0, 0)))) := by
    have := makes_of Try.underlying56 infoState rgs (by omega) (by omega) (by omega) (by omega) (by omega) (by simp [size_madeCells])
    rw [show (Value.agg #[.int .u32 0, .int .i64 0]).cells = #[Value.int .u32 0, Value.int .i64 0] from rfl, made2] at this
    exact this
  unfold ptr
  go_enter Try.func11, Try.ntmps11
  go_wp2_with (go_at_call 32; (with_reducible refine (HRG.out _).mono ?_); rintro e w3 ⟨rfl, h3⟩; have HB3 := Lib.hid (bel2 (Geom.bel_alloc w (.cells #[.int .i64 (pg : Int), .int .i64 (pgs : Int), .int .i64 (rgs : Int)] 23)) h3); have HVG := Lib.hid ((Var.new w 23 [.int .i64 (pg : Int), .int .i64 (pgs : Int), .int .i64 (rgs : Int)]).below h3 (by simp)); clear h3)
  refine wp_region_tail 4 [6, 7, 8, 9] (fun w' => Below w3.heap.size w3 w') (NR [.agg #[.int .i64 (pg : Int), .int .i64 (pgs : Int), .int .i64 (rgs : Int)], .pointer (some ⟨w.heap.size, 2, none⟩), .int .i64 (rgs : Int), undef] [(3, rgs, w3.heap.size, stC (List.replicate rgs (0, 0)))]) (by kernel_rfl) (by kernel_rfl) (by kernel_rfl) (by decide) rfl (by decide) (by simp) (NR.mono _ _) (Below.refl _ _).drew ?each ?done
  case each =>
    simp only [List.take_succ_cons, List.take_zero, Each]
    refine ⟨?o0, ?o1, ?o2, ?o3, trivial⟩
    case o0 =>
      intro ys wx hBx hdeps
      clear hdeps
      have c0 : wx.cell? ⟨w.heap.size, 0, none⟩ = some (.int .i64 (pg : Int)) := (HVG.out.below hBx HVG.out.lt).cell (j := 0) rfl
      have c1 : wx.cell? ⟨w.heap.size, 1, none⟩ = some (.int .i64 (pgs : Int)) := (HVG.out.below hBx HVG.out.lt).cell (j := 1) rfl
      have c2 : wx.cell? ⟨w.heap.size, 2, none⟩ = some (.int .i64 (rgs : Int)) := (HVG.out.below hBx HVG.out.lt).cell (j := 2) rfl
      simp only [fill, List.foldl_cons, List.foldl_nil, Act.put, List.setIfInBounds_toArray, List.set_cons_succ, List.set_cons_zero]
      go_wp2_with fail
      exact ⟨_, rfl, rfl, hBx, Below.refl _ _⟩
    case o1 =>
      intro ys wx hBx hdeps
      clear hdeps
      simp only [fill, List.foldl_cons, List.foldl_nil, Act.put, List.setIfInBounds_toArray, List.set_cons_succ, List.set_cons_zero]
      go_wp2_with fail
      exact ⟨_, rfl, rfl, hBx, Below.refl _ _⟩
    case o2 =>
      intro ys wx hBx hdeps
      simp only [Deps, Region.binds, List.getD_cons_zero, List.getD_cons_succ, forall_const, and_true, true_and] at hdeps
      have y1 : ys 7 = .pointer (some ⟨w.heap.size, 2, none⟩) := by first | exact hdeps | exact hdeps.1 | exact hdeps.2.1 | exact hdeps.2.2.1 | exact hdeps.2.2.2.1 | exact hdeps.2.2.2.2.1 | exact hdeps.2.2.2.2.2.1 | exact hdeps.2.2.2.2.2.2.1 | exact hdeps.2.2.2.2.2.2.2.1 | exact hdeps.2.2.2.2.2.2.2.2.1 | exact hdeps.2.2.2.2.2.2.2.2.2.1 | exact hdeps.2.2.2.2.2.2.2.2.2.2.1 | exact hdeps.2.2.2.2.2.2.2.2.2.2.2.1 | exact hdeps.2 | exact hdeps.2.2 | exact hdeps.2.2.2 | exact hdeps.2.2.2.2 | exact hdeps.2.2.2.2.2 | exact hdeps.2.2.2.2.2.2 | exact hdeps.2.2.2.2.2.2.2 | exact hdeps.2.2.2.2.2.2.2.2 | exact hdeps.2.2.2.2.2.2.2.2.2 | exact hdeps.2.2.2.2.2.2.2.2.2.2 | exact hdeps.2.2.2.2.2.2.2.2.2.2.2
      clear hdeps
      have c0 : wx.cell? ⟨w.heap.size, 0, none⟩ = some (.int .i64 (pg : Int)) := (HVG.out.below hBx HVG.out.lt).cell (j := 0) rfl
      have c1 : wx.cell? ⟨w.heap.size, 1, none⟩ = some (.int .i64 (pgs : Int)) := (HVG.out.below hBx HVG.out.lt).cell (j := 1) rfl
      have c2 : wx.cell? ⟨w.heap.size, 2, none⟩ = some (.int .i64 (rgs : Int)) := (HVG.out.below hBx HVG.out.lt).cell (j := 2) rfl
      simp only [y1, fill, List.foldl_cons, List.foldl_nil, Act.put, List.setIfInBounds_toArray, List.set_cons_succ, List.set_cons_zero]
      go_wp2_with fail
      exact ⟨_, rfl, rfl, hBx, Below.refl _ _⟩
    case o3 =>
      intro ys wx hBx hdeps
      simp only [Deps, Region.binds, List.getD_cons_zero, List.getD_cons_succ, forall_const, and_true, true_and] at hdeps
      have y2 : ys 8 = .int .i64 (rgs : Int) := by first | exact hdeps | exact hdeps.1 | exact hdeps.2.1 | exact hdeps.2.2.1 | exact hdeps.2.2.2.1 | exact hdeps.2.2.2.2.1 | exact hdeps.2.2.2.2.2.1 | exact hdeps.2.2.2.2.2.2.1 | exact hdeps.2.2.2.2.2.2.2.1 | exact hdeps.2.2.2.2.2.2.2.2.1 | exact hdeps.2.2.2.2.2.2.2.2.2.1 | exact hdeps.2.2.2.2.2.2.2.2.2.2.1 | exact hdeps.2.2.2.2.2.2.2.2.2.2.2.1 | exact hdeps.2 | exact hdeps.2.2 | exact hdeps.2.2.2 | exact hdeps.2.2.2.2 | exact hdeps.2.2.2.2.2 | exact hdeps.2.2.2.2.2.2 | exact hdeps.2.2.2.2.2.2.2 | exact hdeps.2.2.2.2.2.2.2.2 | exact hdeps.2.2.2.2.2.2.2.2.2 | exact hdeps.2.2.2.2.2.2.2.2.2.2 | exact hdeps.2.2.2.2.2.2.2.2.2.2.2
      clear hdeps
      simp only [y2, fill, List.foldl_cons, List.foldl_nil, Act.put, List.setIfInBounds_toArray, List.set_cons_succ, List.set_cons_zero]
      with_reducible refine Exists.elim (HMK.out.go wx) ?_
      intro w1 hmks
      have hmk := hmks.1
      have HRo := Lib.hid hmks.2.1
      have HBl := Lib.hid hmks.2.2.1
      have HLt := Lib.hid hmks.2.2.2
      clear hmks
      go_wp2_with fail
      exact ⟨_, rfl, ⟨wx.heap.size, rgs, rfl, Nat.le_refl _, HRo.out, hBx.size, HLt.out⟩, hBx.trans (HBl.out.mono hBx.size), HBl.out⟩
  case done =>
    intro ys wx hBx hV
    have h6 : ys 6 = .agg #[.int .i64 (pg : Int), .int .i64 (pgs : Int), .int .i64 (rgs : Int)] := hV 0 (by decide)
    have h9 : ∃ g cap, ys 9 = .slice (some ⟨g, 0, none⟩) rgs cap ∧ rgs ≤ cap ∧ Ro wx g (stC (List.replicate rgs (0, 0))) ∧ w3.heap.size ≤ g ∧ g < wx.heap.size := hV 3 (by decide)
    with_reducible refine Exists.elim h9 ?_
    intro g0 h9b
    with_reducible refine Exists.elim h9b ?_
    intro cap hh
    have hg0 := hh.1
    have HC := Lib.hid hh.2.1
    have HR := Lib.hid hh.2.2.1
    have HG := Lib.hid hh.2.2.2
    have HB := Lib.hid (bel2 HB3.out hBx)
    clear hh h9 h9b hV hBx
    simp only [h6, hg0, fill, List.drop_succ_cons, List.drop_zero, List.foldl_cons, List.foldl_nil, Act.put, List.setIfInBounds_toArray, List.set_cons_succ, List.set_cons_zero]
    go_wp2
    go_ret
    refine ⟨wx.heap.size, foot wx.heap.size g0, rfl, ?_, HB.out.alloc HB.out.size _, ?_⟩
    · have hv := Var.new wx 58 [.int .i64 (pg : Int), .int .i64 (pgs : Int), .int .i64 (rgs : Int), .slice (some ⟨g0, 0, none⟩) rgs cap, .int .i64 0, .bool false]
      have h1 := HG.out.2
      refine ⟨g0, cap, 0, ⟨hv, HR.out.below (Geom.bel_alloc _ _), by simp; omega, fun k hk => by simp [newC] at hk, by omega, HC.out, by omega⟩, rfl⟩
    · have h1 := HG.out.1; have h2 := HB3.out.size; have h3 := HB.out.size
      rintro k (rfl | rfl) <;> omega
set_option maxRecDepth 100000 in
theorem new_wrong (g : Geom.Gm) (h : Geom.rightG g = false) (w : World) : Calls Try.prog 11 #[Geom.gV g] w fun e w' => e = .returned (.pointer none) ∧ Below w.heap.size w w' := by
  have HRG := Lib.hid (fun w => Geom.right_any g w)
  rw [h] at HRG
  clear h
  obtain ⟨p, q, r⟩ := g
  unfold Geom.gV at HRG ⊢
  go_enter Try.func11, Try.ntmps11
  go_wp2_with (go_at_call 32; (with_reducible refine (HRG.out _).mono ?_); rintro e w3 ⟨rfl, h3⟩)
  go_ret
  exact ⟨rfl, bel2 (Geom.bel_alloc w _) h3⟩
set_option maxRecDepth 100000 in
set_option maxHeartbeats 8000000 in
theorem refNew_any (pg pgs rgs : Nat) (p0 : 32 ≤ pg) (p1 : pg ≤ 128) (s0 : 3 ≤ pgs) (s1 : pgs ≤ 10) (r0 : 4 ≤ rgs) (r1 : rgs ≤ 12) (w : World) :
    Calls Try.prog 14 #[.agg #[.int .i64 (pg : Int), .int .i64 (pgs : Int), .int .i64 (rgs : Int)]] w fun e w' => ∃ p S, e = .returned (ptr p) ∧ DHas w' p (newC pg pgs rgs) S ∧ Below w.heap.size w w' ∧ ∀ k, S k → w.heap.size ≤ k := by
  have HVG := Lib.hid (Var.new w 23 [.int .i64 (pg : Int), .int .i64 (pgs : Int), .int .i64 (rgs : Int)])
  have HME : Hid (Makes 59 33 rgs (List.replicate rgs (Value.int .u32 0))) := by
    have := makes_of Try.underlying59 infoU32 rgs (by omega) (by omega) (by omega) (by omega) (by omega) (by simp [size_madeCells])
    rw [Nat.mul_one, show (Value.int .u32 0).cells = #[Value.int .u32 0] from rfl, toList_madeCells_one] at this
    exact this
  have HMU : Hid (Makes 50 3 rgs (List.replicate rgs (Value.int .i64 0))) := by
    have := makes_of Try.underlying50 infoI64 rgs (by omega) (by omega) (by omega) (by omega) (by omega) (by simp [size_madeCells])
    rw [Nat.mul_one, show (Value.int .i64 0).cells = #[Value.int .i64 0] from rfl, toList_madeCells_one] at this
    exact this
  unfold ptr
  go_enter Try.func14, Try.ntmps14
  go_wp2
  refine wp_region_tail 7 [3, 4, 5, 6, 7, 8, 9] (fun w' => Below (w.alloc (.cells #[.int .i64 (pg : Int), .int .i64 (pgs : Int), .int .i64 (rgs : Int)] 23)).heap.size (w.alloc (.cells #[.int .i64 (pg : Int), .int .i64 (pgs : Int), .int .i64 (rgs : Int)] 23)) w') (NR [.agg #[.int .i64 (pg : Int), .int .i64 (pgs : Int), .int .i64 (rgs : Int)], .pointer (some ⟨w.heap.size, 2, none⟩), .int .i64 (rgs : Int), undef, .pointer (some ⟨w.heap.size, 2, none⟩), .int .i64 (rgs : Int), undef] [(3, rgs, (w.alloc (.cells #[.int .i64 (pg : Int), .int .i64 (pgs : Int), .int .i64 (rgs : Int)] 23)).heap.size, List.replicate rgs (Value.int .u32 0)), (6, rgs, (w.alloc (.cells #[.int .i64 (pg : Int), .int .i64 (pgs : Int), .int .i64 (rgs : Int)] 23)).heap.size, List.replicate rgs (Value.int .i64 0))]) (by kernel_rfl) (by kernel_rfl) (by kernel_rfl) (by decide) rfl (by decide) (by simp) (NR.mono _ _) (Below.refl _ _).drew ?each ?done
  case each =>
    simp only [List.take_succ_cons, List.take_zero, Each]
    refine ⟨?o0, ?o1, ?o2, ?o3, ?o4, ?o5, ?o6, trivial⟩
    case o0 =>
      intro ys wx hBx hdeps
      clear hdeps
      have c0 : wx.cell? ⟨w.heap.size, 0, none⟩ = some (.int .i64 (pg : Int)) := (HVG.out.below hBx (by simp)).cell (j := 0) rfl
      have c1 : wx.cell? ⟨w.heap.size, 1, none⟩ = some (.int .i64 (pgs : Int)) := (HVG.out.below hBx (by simp)).cell (j := 1) rfl
      have c2 : wx.cell? ⟨w.heap.size, 2, none⟩ = some (.int .i64 (rgs : Int)) := (HVG.out.below hBx (by simp)).cell (j := 2) rfl
      simp only [fill, List.foldl_cons, List.foldl_nil, Act.put, List.setIfInBounds_toArray, List.set_cons_succ, List.set_cons_zero]
      go_wp2_with fail
      exact ⟨_, rfl, rfl, hBx, Below.refl _ _⟩
    case o1 =>
      intro ys wx hBx hdeps
      clear hdeps
      simp only [fill, List.foldl_cons, List.foldl_nil, Act.put, List.setIfInBounds_toArray, List.set_cons_succ, List.set_cons_zero]
      go_wp2_with fail
      exact ⟨_, rfl, rfl, hBx, Below.refl _ _⟩
    case o2 =>
      intro ys wx hBx hdeps
      simp only [Deps, Region.binds, List.getD_cons_zero, List.getD_cons_succ, forall_const, and_true, true_and] at hdeps
      have y1 : ys 4 = .pointer (some ⟨w.heap.size, 2, none⟩) := by first | exact hdeps | exact hdeps.1 | exact hdeps.2.1 | exact hdeps.2.2.1 | exact hdeps.2.2.2.1 | exact hdeps.2.2.2.2.1 | exact hdeps.2.2.2.2.2.1 | exact hdeps.2.2.2.2.2.2.1 | exact hdeps.2.2.2.2.2.2.2.1 | exact hdeps.2.2.2.2.2.2.2.2.1 | exact hdeps.2.2.2.2.2.2.2.2.2.1 | exact hdeps.2.2.2.2.2.2.2.2.2.2.1 | exact hdeps.2.2.2.2.2.2.2.2.2.2.2.1 | exact hdeps.2 | exact hdeps.2.2 | exact hdeps.2.2.2 | exact hdeps.2.2.2.2 | exact hdeps.2.2.2.2.2 | exact hdeps.2.2.2.2.2.2 | exact hdeps.2.2.2.2.2.2.2 | exact hdeps.2.2.2.2.2.2.2.2 | exact hdeps.2.2.2.2.2.2.2.2.2 | exact hdeps.2.2.2.2.2.2.2.2.2.2 | exact hdeps.2.2.2.2.2.2.2.2.2.2.2
      clear hdeps
      have c0 : wx.cell? ⟨w.heap.size, 0, none⟩ = some (.int .i64 (pg : Int)) := (HVG.out.below hBx (by simp)).cell (j := 0) rfl
      have c1 : wx.cell? ⟨w.heap.size, 1, none⟩ = some (.int .i64 (pgs : Int)) := (HVG.out.below hBx (by simp)).cell (j := 1) rfl
      have c2 : wx.cell? ⟨w.heap.size, 2, none⟩ = some (.int .i64 (rgs : Int)) := (HVG.out.below hBx (by simp)).cell (j := 2) rfl
      simp only [y1, fill, List.foldl_cons, List.foldl_nil, Act.put, List.setIfInBounds_toArray, List.set_cons_succ, List.set_cons_zero]
      go_wp2_with fail
      exact ⟨_, rfl, rfl, hBx, Below.refl _ _⟩
    case o3 =>
      intro ys wx hBx hdeps
      simp only [Deps, Region.binds, List.getD_cons_zero, List.getD_cons_succ, forall_const, and_true, true_and] at hdeps
      have y2 : ys 5 = .int .i64 (rgs : Int) := by first | exact hdeps | exact hdeps.1 | exact hdeps.2.1 | exact hdeps.2.2.1 | exact hdeps.2.2.2.1 | exact hdeps.2.2.2.2.1 | exact hdeps.2.2.2.2.2.1 | exact hdeps.2.2.2.2.2.2.1 | exact hdeps.2.2.2.2.2.2.2.1 | exact hdeps.2.2.2.2.2.2.2.2.1 | exact hdeps.2.2.2.2.2.2.2.2.2.1 | exact hdeps.2.2.2.2.2.2.2.2.2.2.1 | exact hdeps.2.2.2.2.2.2.2.2.2.2.2.1 | exact hdeps.2 | exact hdeps.2.2 | exact hdeps.2.2.2 | exact hdeps.2.2.2.2 | exact hdeps.2.2.2.2.2 | exact hdeps.2.2.2.2.2.2 | exact hdeps.2.2.2.2.2.2.2 | exact hdeps.2.2.2.2.2.2.2.2 | exact hdeps.2.2.2.2.2.2.2.2.2 | exact hdeps.2.2.2.2.2.2.2.2.2.2 | exact hdeps.2.2.2.2.2.2.2.2.2.2.2
      clear hdeps
      simp only [y2, fill, List.foldl_cons, List.foldl_nil, Act.put, List.setIfInBounds_toArray, List.set_cons_succ, List.set_cons_zero]
      with_reducible refine Exists.elim (HME.out.go wx) ?_
      intro w1 hmks
      have hmk := hmks.1
      have HRo := Lib.hid hmks.2.1
      have HBl := Lib.hid hmks.2.2.1
      have HLt := Lib.hid hmks.2.2.2
      clear hmks
      go_wp2_with fail
      exact ⟨_, rfl, ⟨wx.heap.size, rgs, rfl, Nat.le_refl _, HRo.out, hBx.size, HLt.out⟩, hBx.trans (HBl.out.mono hBx.size), HBl.out⟩
    case o4 =>
      intro ys wx hBx hdeps
      clear hdeps
      simp only [fill, List.foldl_cons, List.foldl_nil, Act.put, List.setIfInBounds_toArray, List.set_cons_succ, List.set_cons_zero]
      go_wp2_with fail
      exact ⟨_, rfl, rfl, hBx, Below.refl _ _⟩
    case o5 =>
      intro ys wx hBx hdeps
      simp only [Deps, Region.binds, List.getD_cons_zero, List.getD_cons_succ, forall_const, and_true, true_and] at hdeps
      have y4 : ys 7 = .pointer (some ⟨w.heap.size, 2, none⟩) := by first | exact hdeps | exact hdeps.1 | exact hdeps.2.1 | exact hdeps.2.2.1 | exact hdeps.2.2.2.1 | exact hdeps.2.2.2.2.1 | exact hdeps.2.2.2.2.2.1 | exact hdeps.2.2.2.2.2.2.1 | exact hdeps.2.2.2.2.2.2.2.1 | exact hdeps.2.2.2.2.2.2.2.2.1 | exact hdeps.2.2.2.2.2.2.2.2.2.1 | exact hdeps.2.2.2.2.2.2.2.2.2.2.1 | exact hdeps.2.2.2.2.2.2.2.2.2.2.2.1 | exact hdeps.2 | exact hdeps.2.2 | exact hdeps.2.2.2 | exact hdeps.2.2.2.2 | exact hdeps.2.2.2.2.2 | exact hdeps.2.2.2.2.2.2 | exact hdeps.2.2.2.2.2.2.2 | exact hdeps.2.2.2.2.2.2.2.2 | exact hdeps.2.2.2.2.2.2.2.2.2 | exact hdeps.2.2.2.2.2.2.2.2.2.2 | exact hdeps.2.2.2.2.2.2.2.2.2.2.2
      clear hdeps
      have c0 : wx.cell? ⟨w.heap.size, 0, none⟩ = some (.int .i64 (pg : Int)) := (HVG.out.below hBx (by simp)).cell (j := 0) rfl
      have c1 : wx.cell? ⟨w.heap.size, 1, none⟩ = some (.int .i64 (pgs : Int)) := (HVG.out.below hBx (by simp)).cell (j := 1) rfl
      have c2 : wx.cell? ⟨w.heap.size, 2, none⟩ = some (.int .i64 (rgs : Int)) := (HVG.out.below hBx (by simp)).cell (j := 2) rfl
      simp only [y4, fill, List.foldl_cons, List.foldl_nil, Act.put, List.setIfInBounds_toArray, List.set_cons_succ, List.set_cons_zero]
      go_wp2_with fail
      exact ⟨_, rfl, rfl, hBx, Below.refl _ _⟩
    case o6 =>
      intro ys wx hBx hdeps
      simp only [Deps, Region.binds, List.getD_cons_zero, List.getD_cons_succ, forall_const, and_true, true_and] at hdeps
      have y5 : ys 8 = .int .i64 (rgs : Int) := by first | exact hdeps | exact hdeps.1 | exact hdeps.2.1 | exact hdeps.2.2.1 | exact hdeps.2.2.2.1 | exact hdeps.2.2.2.2.1 | exact hdeps.2.2.2.2.2.1 | exact hdeps.2.2.2.2.2.2.1 | exact hdeps.2.2.2.2.2.2.2.1 | exact hdeps.2.2.2.2.2.2.2.2.1 | exact hdeps.2.2.2.2.2.2.2.2.2.1 | exact hdeps.2.2.2.2.2.2.2.2.2.2.1 | exact hdeps.2.2.2.2.2.2.2.2.2.2.2.1 | exact hdeps.2 | exact hdeps.2.2 | exact hdeps.2.2.2 | exact hdeps.2.2.2.2 | exact hdeps.2.2.2.2.2 | exact hdeps.2.2.2.2.2.2 | exact hdeps.2.2.2.2.2.2.2 | exact hdeps.2.2.2.2.2.2.2.2 | exact hdeps.2.2.2.2.2.2.2.2.2 | exact hdeps.2.2.2.2.2.2.2.2.2.2 | exact hdeps.2.2.2.2.2.2.2.2.2.2.2
      clear hdeps
      simp only [y5, fill, List.foldl_cons, List.foldl_nil, Act.put, List.setIfInBounds_toArray, List.set_cons_succ, List.set_cons_zero]
      with_reducible refine Exists.elim (HMU.out.go wx) ?_
      intro w1 hmks
      have hmk := hmks.1
      have HRo := Lib.hid hmks.2.1
      have HBl := Lib.hid hmks.2.2.1
      have HLt := Lib.hid hmks.2.2.2
      clear hmks
      go_wp2_with fail
      exact ⟨_, rfl, ⟨wx.heap.size, rgs, rfl, Nat.le_refl _, HRo.out, hBx.size, HLt.out⟩, hBx.trans (HBl.out.mono hBx.size), HBl.out⟩
  case done =>
    intro ys wx hBx hV
    have h3 : ys 3 = .agg #[.int .i64 (pg : Int), .int .i64 (pgs : Int), .int .i64 (rgs : Int)] := hV 0 (by decide)
    have h6 : ∃ g cap, ys 6 = .slice (some ⟨g, 0, none⟩) rgs cap ∧ rgs ≤ cap ∧ Ro wx g (List.replicate rgs (Value.int .u32 0)) ∧ (w.alloc (.cells #[.int .i64 (pg : Int), .int .i64 (pgs : Int), .int .i64 (rgs : Int)] 23)).heap.size ≤ g ∧ g < wx.heap.size := hV 3 (by decide)
    with_reducible refine Exists.elim h6 ?_
    intro bE hbE
    with_reducible refine Exists.elim hbE ?_
    intro capE hhE
    have hgE := hhE.1
    have HCE := Lib.hid hhE.2.1
    have HRE := Lib.hid hhE.2.2.1
    have HGE := Lib.hid hhE.2.2.2
    clear h6 hbE hhE
    have h9 : ∃ g cap, ys 9 = .slice (some ⟨g, 0, none⟩) rgs cap ∧ rgs ≤ cap ∧ Ro wx g (List.replicate rgs (Value.int .i64 0)) ∧ (w.alloc (.cells #[.int .i64 (pg : Int), .int .i64 (pgs : Int), .int .i64 (rgs : Int)] 23)).heap.size ≤ g ∧ g < wx.heap.size := hV 6 (by decide)
    with_reducible refine Exists.elim h9 ?_
    intro bU hbU
    with_reducible refine Exists.elim hbU ?_
    intro capU hhU
    have hgU := hhU.1
    have HCU := Lib.hid hhU.2.1
    have HRU := Lib.hid hhU.2.2.1
    have HGU := Lib.hid hhU.2.2.2
    clear h9 hbU hhU
    have HB := Lib.hid (bel2 (Geom.bel_alloc w (.cells #[.int .i64 (pg : Int), .int .i64 (pgs : Int), .int .i64 (rgs : Int)] 23)) hBx)
    clear hV hBx
    simp only [h3, hgE, hgU, fill, List.drop_succ_cons, List.drop_zero, List.foldl_cons, List.foldl_nil, Act.put, List.setIfInBounds_toArray, List.set_cons_succ, List.set_cons_zero]
    go_wp2
    go_ret
    have hs0 : (w.alloc (.cells #[.int .i64 (pg : Int), .int .i64 (pgs : Int), .int .i64 (rgs : Int)] 23)).heap.size = w.heap.size + 1 := by simp
    have eE := (HRE.out 0 (Value.int .u32 0) (by rw [List.getElem?_replicate, if_pos (by omega)])).1
    have eU := (HRU.out 0 (Value.int .i64 0) (by rw [List.getElem?_replicate, if_pos (by omega)])).1
    have hne : bE ≠ bU := by
      intro e
      rw [e, eU] at eE
      simp at eE
    have h1 := HGE.out; have h2 := HGU.out; have h4 := HB.out.size
    refine ⟨wx.heap.size, footD wx.heap.size bE bU, rfl, ?_, HB.out.alloc HB.out.size _, ?_⟩
    · have hv := Var.new wx 61 [.int .i64 (pg : Int), .int .i64 (pgs : Int), .int .i64 (rgs : Int), .slice (some ⟨bE, 0, none⟩) rgs capE, .slice (some ⟨bU, 0, none⟩) rgs capU, .int .i64 (-1)]
      refine ⟨bE, capE, bU, capU, ⟨hv, ?_, ?_, by simp; omega, by simp; omega, HCE.out, HCU.out, by omega, by omega, hne⟩, rfl⟩
      · rw [new_st, List.map_replicate]; exact HRE.out.below (Geom.bel_alloc _ _)
      · rw [new_st, List.map_replicate]; exact HRU.out.below (Geom.bel_alloc _ _)
    · rintro k (rfl | rfl | rfl) <;> omega
end Go.Proofs.Ytmkdhehdfdkbjaa.Chart
