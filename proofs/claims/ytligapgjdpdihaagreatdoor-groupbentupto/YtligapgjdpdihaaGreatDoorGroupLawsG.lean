/-
  The walk of GroupBent.
-/
import Derived.Test.YtligapgjdpdihaaGreatDoorGroupKeep
set_option linter.unusedVariables false
set_option linter.unusedSimpArgs false
namespace Go.Proofs.YtligapgjdpdihaaGreatDoor.Group
open Go.RowKit
open CrcM (W)
open Crc (le4 sumOf vl wd putS)
open Flash (bs bs_size bs_list list_bs cut)
open Go.Proofs.YtligapgjdpdihaaGreatDoor.Frame (Fr zeroF fV fC bel2 below_drewN)
open Piece (pieceR isSeqB)
open Tup Bytes Own
open Geom (Gm gV rightG mostG needG Small right_small smallG small_small)
open Batch (Wr WAt WMine Tb bytesW layB rightW readW writesOf makeW)
open Go.Proofs.YtligapgjdpdihaaGreatDoor.Region (fill Then Deps Each wp_region_is wp_region_is_tail wp_region_each wp_region_tail Deps3 Each3 Each4 slotOf slots wp_region_keep wp_region_keepI)
theorem flatF_at0 : ∀ (l : List Fr) (i : Nat) (f : Fr) (k : Int), l[i]? = some f → (flatF l).set (i * 4) (.int .i64 k) = flatF (l.set i ⟨k, f.a, f.b, f.body⟩)
  | [], i, f, k, h => by simp at h
  | g :: r, 0, f, k, h => by simp at h; subst h; rfl
  | g :: r, i + 1, f, k, h => by
    have h1 := flatF_at0 r i f k (by simpa using h)
    rw [show (i + 1) * 4 = (i * 4) + 1 + 1 + 1 + 1 by omega]
    show Value.int .i64 g.kind :: Value.int .u32 (vl g.a) :: Value.int .u32 (vl g.b) :: Value.string (bs g.body) :: (flatF r).set (i * 4) (.int .i64 k) = _
    rw [h1]; rfl
theorem flatF_at1 : ∀ (l : List Fr) (i : Nat) (f : Fr) (a : W), l[i]? = some f → (flatF l).set (i * 4 + 1) (.int .u32 (vl a)) = flatF (l.set i ⟨f.kind, a, f.b, f.body⟩)
  | [], i, f, k, h => by simp at h
  | g :: r, 0, f, k, h => by simp at h; subst h; rfl
  | g :: r, i + 1, f, k, h => by
    have h1 := flatF_at1 r i f k (by simpa using h)
    rw [show (i + 1) * 4 + 1 = (i * 4 + 1) + 1 + 1 + 1 + 1 by omega]
    show Value.int .i64 g.kind :: Value.int .u32 (vl g.a) :: Value.int .u32 (vl g.b) :: Value.string (bs g.body) :: (flatF r).set (i * 4 + 1) (.int .u32 (vl k)) = _
    rw [h1]; rfl
theorem flatF_at2 : ∀ (l : List Fr) (i : Nat) (f : Fr) (a : W), l[i]? = some f → (flatF l).set (i * 4 + 2) (.int .u32 (vl a)) = flatF (l.set i ⟨f.kind, f.a, a, f.body⟩)
  | [], i, f, k, h => by simp at h
  | g :: r, 0, f, k, h => by simp at h; subst h; rfl
  | g :: r, i + 1, f, k, h => by
    have h1 := flatF_at2 r i f k (by simpa using h)
    rw [show (i + 1) * 4 + 2 = (i * 4 + 2) + 1 + 1 + 1 + 1 by omega]
    show Value.int .i64 g.kind :: Value.int .u32 (vl g.a) :: Value.int .u32 (vl g.b) :: Value.string (bs g.body) :: (flatF r).set (i * 4 + 2) (.int .u32 (vl k)) = _
    rw [h1]; rfl
theorem flatF_put (l : List Fr) (i : Nat) (q : Fr) (h : i < l.length) : ((((flatF l).set (i * 4) (.int .i64 q.kind)).set (i * 4 + 1) (.int .u32 (vl q.a))).set (i * 4 + 2) (.int .u32 (vl q.b))).set (i * 4 + 3) (.string (bs q.body)) = flatF (l.set i q) := by
  have h0 := List.getElem?_eq_getElem h
  rw [flatF_at0 l i _ q.kind h0]
  rw [flatF_at1 _ i ⟨q.kind, (l[i]).a, (l[i]).b, (l[i]).body⟩ q.a (by rw [List.getElem?_set_self h]), List.set_set]
  rw [flatF_at2 _ i ⟨q.kind, q.a, (l[i]).b, (l[i]).body⟩ q.b (by rw [List.getElem?_set_self h]), List.set_set]
  rw [flatF_set _ i ⟨q.kind, q.a, q.b, (l[i]).body⟩ q.body (by rw [List.getElem?_set_self h]), List.set_set]
theorem frames_tight {g : Gm} {x : Gp} {b : List UInt8} (h : CutOk g x b) : (framesG g x b).length ≤ 500 := by
  obtain ⟨r1, _, h1, h2, h3, h4, _⟩ := h.sizes
  rw [framesG_len]
  have h5 := (partsN_spec (r := roomN g) (n := b.length) (by omega) (partsN (roomN g) b.length - 1)).2 (by omega)
  have h6 : (partsN (roomN g) b.length - 1) * 17 ≤ (partsN (roomN g) b.length - 1) * roomN g := Nat.mul_le_mul_left _ r1
  omega
theorem owns_take {w : World} {base : Nat} {e : TypeId} {g n c : Nat} {l : List Fr} (h : w.ownsRow base e 4 (.slice (some ⟨g, 0, none⟩) n c) n (flatF l)) (hn : n = l.length) (i : Nat) (hi : i ≤ n) : w.ownsRow base e 4 (.slice (some ⟨g, 0, none⟩) i c) i (flatF (l.take i)) := by
  refine ⟨by rw [flatF_length, List.length_take]; omega, ?_⟩
  rcases h.2 with ⟨e1, _⟩ | ⟨g', cap, cur, e1, hg, hh, h1, h2, h3, h4⟩
  · simp at e1
  · simp only [Value.slice.injEq, Option.some.injEq, Addr.mk.injEq, and_true] at e1
    obtain ⟨rfl, _, rfl⟩ := e1
    refine .inr ⟨g, c, cur, rfl, hg, hh, by omega, h2, h3, ?_⟩
    rw [flatF_take, ← h4, List.take_take, show min (i * 4) (n * 4) = i * 4 by omega]
set_option maxRecDepth 100000 in
set_option maxHeartbeats 8000000 in
theorem cut_core (gp gs gr hp hq hr : Int) (sq pv fr : W) (a : Option Addr) (n cap : Nat) (L : List Wr) (s0 s1 s2 : W) (M : List Wr) (PL : List Fr) (c9 : Nat)
    (HGE : Hid (∀ w, Calls Tryz.prog 11 #[.agg #[.int .i64 gp, .int .i64 gs, .int .i64 gr]] w fun e w' => e = .returned (.agg #[.int .i64 hp, .int .i64 hq, .int .i64 hr]) ∧ Below w.heap.size w w'))
    (HSH : Hid (∀ w, WAt w a L → Calls Tryz.prog 12 #[.agg #[.int .u32 (vl sq), .int .u32 (vl pv), .int .u32 (vl fr), .slice a n cap]] w fun e w' => ∃ va vc, e = .returned (.agg #[.int .u32 (vl s0), .int .u32 (vl s1), .int .u32 (vl s2), .slice va M.length vc]) ∧ WMine w' w.heap.size (.slice va M.length vc) M ∧ Below w.heap.size w w'))
    (HC : Hid (∀ w a c, WAt w a M → Calls Tryz.prog 10 #[.agg #[.int .i64 hp, .int .i64 hq, .int .i64 hr], .agg #[.int .u32 (vl s0), .int .u32 (vl s1), .int .u32 (vl s2), .slice a M.length c]] w fun e w' => ∃ va vc, e = .returned (.tuple #[.slice va PL.length vc, .int .i64 (c9 : Int)]) ∧ FMine w' w.heap.size (.slice va PL.length vc) PL ∧ Below w.heap.size w w')) (w : World) (HT : Hid (Tb w)) (HRW : Hid (WAt w a L)) :
    Calls Tryz.prog 4 #[.agg #[.int .i64 gp, .int .i64 gs, .int .i64 gr], .agg #[.int .u32 (vl sq), .int .u32 (vl pv), .int .u32 (vl fr), .slice a n cap]] w fun e w' => ∃ va vc, e = .returned (.slice va PL.length vc) ∧ FMine w' w.heap.size (.slice va PL.length vc) PL ∧ Below w.heap.size w w' := by
  go_enter Tryz.func4, Tryz.ntmps4
  go_wp2
  obtain ⟨w1, hw1⟩ : ∃ wx, wx = ((w.alloc (.cells #[.int .i64 gp, .int .i64 gs, .int .i64 gr] 23)).alloc (.cells #[.int .u32 (vl sq), .int .u32 (vl pv), .int .u32 (vl fr), .slice a n cap] 27)) := ⟨_, rfl⟩
  have bw1 := Lib.hid (show Below w.heap.size w w1 by rw [hw1]; exact (bel2 (Geom.bel_alloc _ _) (Geom.bel_alloc _ _)))
  have zw1 := Lib.hid (show w.heap.size + 2 ≤ w1.heap.size by rw [hw1]; simp)
  have vw1g := Lib.hid (show Var w1 (w.heap.size) 23 [.int .i64 gp, .int .i64 gs, .int .i64 gr] by rw [hw1]; exact ((Var.new w 23 [.int .i64 gp, .int .i64 gs, .int .i64 gr]).alloc _))
  have vw1x := Lib.hid (show Var w1 (w.heap.size + 1) 27 [.int .u32 (vl sq), .int .u32 (vl pv), .int .u32 (vl fr), .slice a n cap] by rw [hw1]; exact (show Var ((w.alloc (.cells #[.int .i64 gp, .int .i64 gs, .int .i64 gr] 23)).alloc (.cells #[.int .u32 (vl sq), .int .u32 (vl pv), .int .u32 (vl fr), .slice a n cap] 27)) (w.heap.size + 1) 27 [.int .u32 (vl sq), .int .u32 (vl pv), .int .u32 (vl fr), .slice a n cap] from by have h := Var.new (w.alloc (.cells #[.int .i64 gp, .int .i64 gs, .int .i64 gr] 23)) 27 [.int .u32 (vl sq), .int .u32 (vl pv), .int .u32 (vl fr), .slice a n cap]; rw [show (w.alloc (.cells #[.int .i64 gp, .int .i64 gs, .int .i64 gr] 23)).heap.size = w.heap.size + 1 by simp] at h; exact h))
  rw [← hw1]
  refine wp_region_each [8, 9, 10, 11, 12, 7, 13, 14, 5, 6] (fun w' => Below w1.heap.size w1 w') (VT [.agg #[.int .i64 gp, .int .i64 gs, .int .i64 gr], .agg #[.int .i64 hp, .int .i64 hq, .int .i64 hr], .agg #[.int .u32 (vl sq), .int .u32 (vl pv), .int .u32 (vl fr), .slice a n cap], undef, undef, undef, undef, .int .i64 (c9 : Int), undef, .int .i64 (c9 : Int)] [(3, gp2 w1.heap.size s0 s1 s2 M), (4, cut2 w1.heap.size PL (c9 : Int)), (5, cut2 w1.heap.size PL (c9 : Int)), (6, row2 w1.heap.size PL), (8, row2 w1.heap.size PL)]) (by kernel_rfl) (by kernel_rfl) rfl (by decide) (by simp) (VT.mono _ _) (Below.refl _ _).drew ?each ?done
  case each =>
    simp only [Each]
    refine ⟨?o0, ?o1, ?o2, ?o3, ?o4, ?o5, ?o6, ?o7, ?o8, ?o9, trivial⟩
    case o0 =>
      intro ys wx hBx hdeps
      clear hdeps
      have q1 := (vw1g.out.below hBx vw1g.out.lt).cell (j := 0) rfl
      have q2 := (vw1g.out.below hBx vw1g.out.lt).cell (j := 1) rfl
      have q3 := (vw1g.out.below hBx vw1g.out.lt).cell (j := 2) rfl
      simp only [fill, List.foldl_cons, List.foldl_nil, Act.put, List.setIfInBounds_toArray, List.set_cons_succ, List.set_cons_zero]
      go_wp2_with fail
      exact ⟨_, rfl, rfl, hBx, Below.refl _ _⟩
    case o1 =>
      intro ys wx hBx hdeps
      simp only [Deps, Region.binds, List.getD_cons_zero, List.getD_cons_succ, forall_const, and_true, true_and] at hdeps
      have y0 : ys 8 = .agg #[.int .i64 gp, .int .i64 gs, .int .i64 gr] := by first | exact hdeps | exact hdeps.1 | exact hdeps.2.1 | exact hdeps.2 | exact hdeps.2.2
      clear hdeps
      simp only [y0, fill, List.foldl_cons, List.foldl_nil, Act.put, List.setIfInBounds_toArray, List.set_cons_succ, List.set_cons_zero]
      go_wp2_with (go_at_call 11; (with_reducible refine (HGE.out _).mono ?_); rintro e w3 ⟨rfl, hbm⟩)
      exact ⟨_, rfl, rfl, hBx.trans (hbm.mono hBx.size), hbm⟩
    case o2 =>
      intro ys wx hBx hdeps
      clear hdeps
      have q4 := (vw1x.out.below hBx vw1x.out.lt).cell (j := 0) rfl
      have q5 := (vw1x.out.below hBx vw1x.out.lt).cell (j := 1) rfl
      have q6 := (vw1x.out.below hBx vw1x.out.lt).cell (j := 2) rfl
      have q7 := (vw1x.out.below hBx vw1x.out.lt).cell (j := 3) rfl
      simp only [fill, List.foldl_cons, List.foldl_nil, Act.put, List.setIfInBounds_toArray, List.set_cons_succ, List.set_cons_zero]
      go_wp2_with fail
      exact ⟨_, rfl, rfl, hBx, Below.refl _ _⟩
    case o3 =>
      intro ys wx hBx hdeps
      simp only [Deps, Region.binds, List.getD_cons_zero, List.getD_cons_succ, forall_const, and_true, true_and] at hdeps
      have y2 : ys 10 = .agg #[.int .u32 (vl sq), .int .u32 (vl pv), .int .u32 (vl fr), .slice a n cap] := by first | exact hdeps | exact hdeps.1 | exact hdeps.2.1 | exact hdeps.2 | exact hdeps.2.2
      clear hdeps
      simp only [y2, fill, List.foldl_cons, List.foldl_nil, Act.put, List.setIfInBounds_toArray, List.set_cons_succ, List.set_cons_zero]
      go_wp2_with (go_at_call 12; go_loud ((with_reducible refine (HSH.out _ (Batch.WAt.below HRW.out (bel2 bw1.out hBx))).mono ?_); rintro e w3 ⟨va, vc, rfl, hown, hbm⟩))
      exact ⟨_, rfl, ⟨(va, vc), rfl, owns_base hown hBx.size⟩, hBx.trans (hbm.mono hBx.size), hbm⟩
    case o4 =>
      intro ys wx hBx hdeps
      simp only [Deps, Region.binds, List.getD_cons_zero, List.getD_cons_succ, forall_const, and_true, true_and] at hdeps
      have y1 : ys 9 = .agg #[.int .i64 hp, .int .i64 hq, .int .i64 hr] := by first | exact hdeps.1 | exact hdeps.2.1 | exact hdeps.2.2.1 | exact hdeps.2 | exact hdeps.2.2 | exact hdeps.2.2.2
      have z3 : ∃ u : Option Addr × Nat, ys 11 = .agg #[.int .u32 (vl s0), .int .u32 (vl s1), .int .u32 (vl s2), .slice u.1 M.length u.2] ∧ Batch.WMine wx w1.heap.size (.slice u.1 M.length u.2) M := by first | exact hdeps.1 | exact hdeps.2.1 | exact hdeps.2.2.1 | exact hdeps.2 | exact hdeps.2.2 | exact hdeps.2.2.2
      with_reducible refine Exists.elim z3 ?_
      intro g3 hh
      have y3 := hh.1
      have r3 := hh.2
      clear hh z3
      clear hdeps
      simp only [y1, y3, fill, List.foldl_cons, List.foldl_nil, Act.put, List.setIfInBounds_toArray, List.set_cons_succ, List.set_cons_zero]
      go_wp2_with (go_at_call 10; go_loud ((with_reducible refine (HC.out _ _ _ (wat_mine r3)).mono ?_); rintro e w3 ⟨va, vc, rfl, hown, hbm⟩))
      exact ⟨_, rfl, ⟨(va, vc), rfl, hown.base hBx.size⟩, hBx.trans (hbm.mono hBx.size), hbm⟩
    case o5 =>
      intro ys wx hBx hdeps
      simp only [Deps, Region.binds, List.getD_cons_zero, List.getD_cons_succ, forall_const, and_true, true_and] at hdeps
      have z4 : ∃ u : Option Addr × Nat, ys 12 = .tuple #[.slice u.1 PL.length u.2, .int .i64 (c9 : Int)] ∧ FMine wx w1.heap.size (.slice u.1 PL.length u.2) PL := by first | exact hdeps | exact hdeps.1 | exact hdeps.2.1 | exact hdeps.2 | exact hdeps.2.2
      with_reducible refine Exists.elim z4 ?_
      intro g4 hh
      have y4 := hh.1
      have r4 := hh.2
      clear hh z4
      clear hdeps
      simp only [y4, fill, List.foldl_cons, List.foldl_nil, Act.put, List.setIfInBounds_toArray, List.set_cons_succ, List.set_cons_zero]
      go_wp2_with fail
      exact ⟨_, rfl, ⟨g4, rfl, r4⟩, hBx, Below.refl _ _⟩
    case o6 =>
      intro ys wx hBx hdeps
      simp only [Deps, Region.binds, List.getD_cons_zero, List.getD_cons_succ, forall_const, and_true, true_and] at hdeps
      have z5 : ∃ u : Option Addr × Nat, ys 7 = .tuple #[.slice u.1 PL.length u.2, .int .i64 (c9 : Int)] ∧ FMine wx w1.heap.size (.slice u.1 PL.length u.2) PL := by first | exact hdeps | exact hdeps.1 | exact hdeps.2.1 | exact hdeps.2 | exact hdeps.2.2
      with_reducible refine Exists.elim z5 ?_
      intro g5 hh
      have y5 := hh.1
      have r5 := hh.2
      clear hh z5
      clear hdeps
      simp only [y5, fill, List.foldl_cons, List.foldl_nil, Act.put, List.setIfInBounds_toArray, List.set_cons_succ, List.set_cons_zero]
      go_wp2_with fail
      exact ⟨_, rfl, ⟨g5, rfl, r5⟩, hBx, Below.refl _ _⟩
    case o7 =>
      intro ys wx hBx hdeps
      simp only [Deps, Region.binds, List.getD_cons_zero, List.getD_cons_succ, forall_const, and_true, true_and] at hdeps
      have z5 : ∃ u : Option Addr × Nat, ys 7 = .tuple #[.slice u.1 PL.length u.2, .int .i64 (c9 : Int)] ∧ FMine wx w1.heap.size (.slice u.1 PL.length u.2) PL := by first | exact hdeps | exact hdeps.1 | exact hdeps.2.1 | exact hdeps.2 | exact hdeps.2.2
      with_reducible refine Exists.elim z5 ?_
      intro g5 hh
      have y5 := hh.1
      have r5 := hh.2
      clear hh z5
      clear hdeps
      simp only [y5, fill, List.foldl_cons, List.foldl_nil, Act.put, List.setIfInBounds_toArray, List.set_cons_succ, List.set_cons_zero]
      go_wp2_with fail
      exact ⟨_, rfl, rfl, hBx, Below.refl _ _⟩
    case o8 =>
      intro ys wx hBx hdeps
      simp only [Deps, Region.binds, List.getD_cons_zero, List.getD_cons_succ, forall_const, and_true, true_and] at hdeps
      have z6 : ∃ u : Option Addr × Nat, ys 13 = .slice u.1 PL.length u.2 ∧ FMine wx w1.heap.size (.slice u.1 PL.length u.2) PL := by first | exact hdeps | exact hdeps.1 | exact hdeps.2.1 | exact hdeps.2 | exact hdeps.2.2
      with_reducible refine Exists.elim z6 ?_
      intro g6 hh
      have y6 := hh.1
      have r6 := hh.2
      clear hh z6
      clear hdeps
      simp only [y6, fill, List.foldl_cons, List.foldl_nil, Act.put, List.setIfInBounds_toArray, List.set_cons_succ, List.set_cons_zero]
      go_wp2_with fail
      exact ⟨_, rfl, ⟨g6, rfl, r6⟩, hBx, Below.refl _ _⟩
    case o9 =>
      intro ys wx hBx hdeps
      simp only [Deps, Region.binds, List.getD_cons_zero, List.getD_cons_succ, forall_const, and_true, true_and] at hdeps
      have y7 : ys 14 = .int .i64 (c9 : Int) := by first | exact hdeps | exact hdeps.1 | exact hdeps.2.1 | exact hdeps.2 | exact hdeps.2.2
      clear hdeps
      simp only [y7, fill, List.foldl_cons, List.foldl_nil, Act.put, List.setIfInBounds_toArray, List.set_cons_succ, List.set_cons_zero]
      go_wp2_with fail
      exact ⟨_, rfl, rfl, hBx, Below.refl _ _⟩
  case done =>
    intro ys w2 hBx hV
    have bw2 := Lib.hid (bel2 bw1.out hBx)
    have zw2 := Lib.hid hBx.size
    have vw2g := Lib.hid (vw1g.out.below hBx vw1g.out.lt)
    have vw2x := Lib.hid (vw1x.out.below hBx vw1x.out.lt)
    have hh : ∃ u : Option Addr × Nat, ys 5 = .slice u.1 PL.length u.2 ∧ FMine w2 w1.heap.size (.slice u.1 PL.length u.2) PL := hV 8 (by decide)
    with_reducible refine Exists.elim hh ?_
    intro uP hh2
    have eP := hh2.1
    have MP := Lib.hid hh2.2
    clear hh hh2
    have h6 : ys 6 = .int .i64 (c9 : Int) := hV 9 (by decide)
    clear hBx hV
    simp only [eP, h6, fill, List.drop_succ_cons, List.drop_zero, List.foldl_cons, List.foldl_nil, Act.put, List.setIfInBounds_toArray, List.set_cons_succ, List.set_cons_zero]
    go_wp2
    go_ret
    exact ⟨uP.1, uP.2, rfl, MP.out.base bw1.out.size, bw2.out⟩
theorem cut_frames (g : Gm) (x : Gp) (a : Option Addr) (cap : Nat) (hl : x.wr.length ≤ maxLen) (w : World) (hT : Tb w) (hr : WAt w a x.wr) :
    Calls Tryz.prog 4 #[gV g, gpV x (.slice a x.wr.length cap)] w fun e w' => ∃ va vc, e = .returned (.slice va (cutG (smallG g) (shapedG x)).1.length vc) ∧ FMine w' w.heap.size (.slice va (cutG (smallG g) (shapedG x)).1.length vc) (cutG (smallG g) (shapedG x)).1 ∧ Below w.heap.size w w' := by
  have HSH := fun w hr => shaped_mine (shaped_any x a cap hl w hr)
  have hl2 := shaped_few x
  have hk2 := shaped_key x
  have HC := fun w a c hr => cut_mine (refCut_any (smallG g) (shapedG x) a c (by unfold maxLen; omega) hk2 w hr)
  have HGE := fun w => Geom.geom_any g w
  generalize smallG g = h at *
  generalize shapedG x = y at *
  exact cut_core g.page g.pages g.regions h.page h.pages h.regions x.seq x.prev x.frm a x.wr.length cap x.wr y.seq y.prev y.frm y.wr (cutG h y).1 (cutG h y).2 HGE HSH HC w hT hr
set_option maxRecDepth 100000 in
set_option maxHeartbeats 8000000 in
theorem bent_f (gp gs gr : Int) (sq pv fr : W) (a : Option Addr) (n cap : Nat) (L : List Wr) (PL : List Fr) (how at_ to_ : Int) (fk : Int) (fa fb : W) (FB : ByteArray) (h0 : Hid (PL.length = 0))
    (HCT : Hid (∀ w, Tb w → WAt w a L → Calls Tryz.prog 4 #[.agg #[.int .i64 gp, .int .i64 gs, .int .i64 gr], .agg #[.int .u32 (vl sq), .int .u32 (vl pv), .int .u32 (vl fr), .slice a n cap]] w fun e w' => ∃ va vc, e = .returned (.slice va PL.length vc) ∧ FMine w' w.heap.size (.slice va PL.length vc) PL ∧ Below w.heap.size w w'))
    (HAL : Hid (∀ w, Tb w → Calls Tryz.prog 5 #[] w fun e w' => e = .returned (.bool true) ∧ Below w.heap.size w w')) (w : World) (HT : Hid (Tb w)) (HRW : Hid (WAt w a L)) :
    Calls Tryz.prog 3 #[.agg #[.int .i64 gp, .int .i64 gs, .int .i64 gr], .agg #[.int .u32 (vl sq), .int .u32 (vl pv), .int .u32 (vl fr), .slice a n cap], .int .i64 how, .int .i64 at_, .int .i64 to_, .agg #[.int .i64 fk, .int .u32 (vl fa), .int .u32 (vl fb), .string FB]] w fun e w' => e = .returned (.bool true) ∧ Below w.heap.size w w' := by
  have q0 : ((PL.length : Int) == 0) = true := by rw [h0.out]; rfl
  go_enter Tryz.func3, Tryz.ntmps3
  go_wp2_with (first
    | (go_at_call 4; ((with_reducible refine (HCT.out _ (Batch.Tb.below HT.out (bel2 (bel2 (Geom.bel_alloc _ _) (Geom.bel_alloc _ _)) (Geom.bel_alloc _ _))) (Batch.WAt.below HRW.out (bel2 (bel2 (Geom.bel_alloc _ _) (Geom.bel_alloc _ _)) (Geom.bel_alloc _ _)))).mono ?_); rintro e w2 ⟨va, vc, rfl, hown, bz⟩; obtain ⟨w1, hw1⟩ : ∃ wx, wx = (((w.alloc (.cells #[.int .i64 gp, .int .i64 gs, .int .i64 gr] 23)).alloc (.cells #[.int .u32 (vl sq), .int .u32 (vl pv), .int .u32 (vl fr), .slice a n cap] 27)).alloc (.cells #[.int .i64 fk, .int .u32 (vl fa), .int .u32 (vl fb), .string FB] 29)) := ⟨_, rfl⟩; have bw1 := Lib.hid (show Below w.heap.size w w1 by rw [hw1]; exact (bel2 (bel2 (Geom.bel_alloc _ _) (Geom.bel_alloc _ _)) (Geom.bel_alloc _ _))); have zw1 := Lib.hid (show w.heap.size + 3 ≤ w1.heap.size by rw [hw1]; simp); have vw1g := Lib.hid (show Var w1 (w.heap.size) 23 [.int .i64 gp, .int .i64 gs, .int .i64 gr] by rw [hw1]; exact (((Var.new w 23 [.int .i64 gp, .int .i64 gs, .int .i64 gr]).alloc _).alloc _)); have vw1x := Lib.hid (show Var w1 (w.heap.size + 1) 27 [.int .u32 (vl sq), .int .u32 (vl pv), .int .u32 (vl fr), .slice a n cap] by rw [hw1]; exact ((show Var ((w.alloc (.cells #[.int .i64 gp, .int .i64 gs, .int .i64 gr] 23)).alloc (.cells #[.int .u32 (vl sq), .int .u32 (vl pv), .int .u32 (vl fr), .slice a n cap] 27)) (w.heap.size + 1) 27 [.int .u32 (vl sq), .int .u32 (vl pv), .int .u32 (vl fr), .slice a n cap] from by have h := Var.new (w.alloc (.cells #[.int .i64 gp, .int .i64 gs, .int .i64 gr] 23)) 27 [.int .u32 (vl sq), .int .u32 (vl pv), .int .u32 (vl fr), .slice a n cap]; rw [show (w.alloc (.cells #[.int .i64 gp, .int .i64 gs, .int .i64 gr] 23)).heap.size = w.heap.size + 1 by simp] at h; exact h).alloc _)); have vw1f := Lib.hid (show Var w1 (w.heap.size + 2) 29 [.int .i64 fk, .int .u32 (vl fa), .int .u32 (vl fb), .string FB] by rw [hw1]; exact (show Var (((w.alloc (.cells #[.int .i64 gp, .int .i64 gs, .int .i64 gr] 23)).alloc (.cells #[.int .u32 (vl sq), .int .u32 (vl pv), .int .u32 (vl fr), .slice a n cap] 27)).alloc (.cells #[.int .i64 fk, .int .u32 (vl fa), .int .u32 (vl fb), .string FB] 29)) (w.heap.size + 2) 29 [.int .i64 fk, .int .u32 (vl fa), .int .u32 (vl fb), .string FB] from by have h := Var.new ((w.alloc (.cells #[.int .i64 gp, .int .i64 gs, .int .i64 gr] 23)).alloc (.cells #[.int .u32 (vl sq), .int .u32 (vl pv), .int .u32 (vl fr), .slice a n cap] 27)) 29 [.int .i64 fk, .int .u32 (vl fa), .int .u32 (vl fb), .string FB]; rw [show ((w.alloc (.cells #[.int .i64 gp, .int .i64 gs, .int .i64 gr] 23)).alloc (.cells #[.int .u32 (vl sq), .int .u32 (vl pv), .int .u32 (vl fr), .slice a n cap] 27)).heap.size = w.heap.size + 2 by simp] at h; exact h)); have hbel : Below w1.heap.size w1 w2 := (by rw [hw1]; exact bz); clear bz; have bw2 := Lib.hid (bel2 bw1.out hbel); have zw2 := Lib.hid hbel.size; have vw2g := Lib.hid (vw1g.out.below hbel vw1g.out.lt); have vw2x := Lib.hid (vw1x.out.below hbel vw1x.out.lt); have vw2f := Lib.hid (vw1f.out.below hbel vw1f.out.lt); have rw2P := Lib.hid (show World.ownsRow w2 w1.heap.size 29 4 (.slice va PL.length vc) (PL.length) (flatF PL) from (by rw [hw1]; exact hown)); clear hbel; clear hown))
    | (go_at_call 5; ((with_reducible refine (HAL.out _ (Batch.Tb.below HT.out bw2.out)).mono ?_); rintro e w3 ⟨rfl, bz⟩; have hbel : Below w2.heap.size w2 w3 := (by exact bz); clear bz; have bw3 := Lib.hid (bel2 bw2.out hbel); have zw3 := Lib.hid hbel.size; have vw3g := Lib.hid (vw2g.out.below hbel vw2g.out.lt); have vw3x := Lib.hid (vw2x.out.below hbel vw2x.out.lt); have vw3f := Lib.hid (vw2f.out.below hbel vw2f.out.lt); have rw3P := Lib.hid (owns_below rw2P.out hbel); clear hbel))
    | (go_at_call 5; ((with_reducible refine (HAL.out _ (Batch.Tb.below HT.out bw3.out)).mono ?_); rintro e w4 ⟨rfl, bz⟩; have hbel : Below w3.heap.size w3 w4 := (by exact bz); clear bz; have bw4 := Lib.hid (bel2 bw3.out hbel); have zw4 := Lib.hid hbel.size; have vw4g := Lib.hid (vw3g.out.below hbel vw3g.out.lt); have vw4x := Lib.hid (vw3x.out.below hbel vw3x.out.lt); have vw4f := Lib.hid (vw3f.out.below hbel vw3f.out.lt); have rw4P := Lib.hid (owns_below rw3P.out hbel); clear hbel)))
  go_ret
  exact ⟨rfl, bw4.out⟩
set_option maxRecDepth 100000 in
set_option maxHeartbeats 8000000 in
theorem bent_0 (gp gs gr : Int) (sq pv fr : W) (a : Option Addr) (n cap : Nat) (L : List Wr) (PL : List Fr) (how at_ to_ : Int) (fk : Int) (fa fb : W) (FB : ByteArray) (h1 : 0 < PL.length) (hfew : PL.length ≤ 1000) (i k : Nat) (hi : i < PL.length) (hk : k < PL.length) (LK : List Fr) (t0 t1 t2 : W) (M : List Wr) (c9 : Nat) (hset : (flatF PL).set (i * 4 + 1) (.int .u32 (vl fa)) = flatF LK) (u0 : Value) (hu0 : (flatF PL)[i * 4 + 1]? = some u0)
    (HCT : Hid (∀ w, Tb w → WAt w a L → Calls Tryz.prog 4 #[.agg #[.int .i64 gp, .int .i64 gs, .int .i64 gr], .agg #[.int .u32 (vl sq), .int .u32 (vl pv), .int .u32 (vl fr), .slice a n cap]] w fun e w' => ∃ gP vc, e = .returned (.slice (some ⟨gP, 0, none⟩) PL.length vc) ∧ FMine w' w.heap.size (.slice (some ⟨gP, 0, none⟩) PL.length vc) PL ∧ Below w.heap.size w w'))
    (HAL : Hid (∀ w, Tb w → Calls Tryz.prog 5 #[] w fun e w' => e = .returned (.bool true) ∧ Below w.heap.size w w'))
    (HPI : Hid (∀ w, Calls Tryz.prog 6 #[.int .i64 at_, .int .i64 (PL.length : Int)] w fun e w' => e = .returned (.int .i64 (i : Int)) ∧ w = w'))
    (HPK : Hid (∀ w, Calls Tryz.prog 6 #[.int .i64 to_, .int .i64 (PL.length : Int)] w fun e w' => e = .returned (.int .i64 (k : Int)) ∧ w = w'))
    (HPH : Hid (∀ w, Calls Tryz.prog 6 #[.int .i64 how, .int .i64 7] w fun e w' => e = .returned (.int .i64 0) ∧ w = w'))
    (HJ : Hid (∀ w base a c, Tb w → w.ownsRow base 29 4 (.slice a PL.length c) PL.length (flatF LK) → Calls Tryz.prog 7 #[.slice a PL.length c] w fun e w' => ∃ va vc, e = .returned (.tuple #[.agg #[.int .u32 (vl t0), .int .u32 (vl t1), .int .u32 (vl t2), .slice va M.length vc], .int .i64 (c9 : Int)]) ∧ WMine w' w.heap.size (.slice va M.length vc) M ∧ Below w.heap.size w w'))
    (HK : Hid (∀ w base a c, w.ownsRow base 29 4 (.slice a PL.length c) PL.length (flatF LK) → Calls Tryz.prog 8 #[.slice a PL.length c] w fun e w' => ∃ va vc, e = .returned (.tuple #[.agg #[.int .u32 (vl t0), .int .u32 (vl t1), .int .u32 (vl t2), .slice va M.length vc], .int .i64 (c9 : Int)]) ∧ WMine w' w.heap.size (.slice va M.length vc) M ∧ Below w.heap.size w w'))
    (HSG : Hid (∀ w a b c d, WAt w a M → WAt w b M → Calls Tryz.prog 9 #[.agg #[.int .u32 (vl t0), .int .u32 (vl t1), .int .u32 (vl t2), .slice a M.length c], .agg #[.int .u32 (vl t0), .int .u32 (vl t1), .int .u32 (vl t2), .slice b M.length d]] w fun e w' => e = .returned (.bool true) ∧ Below w.heap.size w w')) (w : World) (HT : Hid (Tb w)) (HRW : Hid (WAt w a L)) :
    Calls Tryz.prog 3 #[.agg #[.int .i64 gp, .int .i64 gs, .int .i64 gr], .agg #[.int .u32 (vl sq), .int .u32 (vl pv), .int .u32 (vl fr), .slice a n cap], .int .i64 how, .int .i64 at_, .int .i64 to_, .agg #[.int .i64 fk, .int .u32 (vl fa), .int .u32 (vl fb), .string FB]] w fun e w' => e = .returned (.bool true) ∧ Below w.heap.size w w' := by
  have q0 : ((PL.length : Int) == 0) = false := by rw [beq_eq_false_iff_ne]; omega
  have qc : ((c9 : Int) == (c9 : Int)) = true := beq_self_eq_true _
  have hiI : (i : Int) < (PL.length : Int) := by omega
  have hkI : (k : Int) < (PL.length : Int) := by omega
  go_enter Tryz.func3, Tryz.ntmps3
  go_wp2_with (first
    | (go_at_call 4; ((with_reducible refine (HCT.out _ (Batch.Tb.below HT.out (bel2 (bel2 (Geom.bel_alloc _ _) (Geom.bel_alloc _ _)) (Geom.bel_alloc _ _))) (Batch.WAt.below HRW.out (bel2 (bel2 (Geom.bel_alloc _ _) (Geom.bel_alloc _ _)) (Geom.bel_alloc _ _)))).mono ?_); rintro e w2 ⟨gP, vc, rfl, hown, bz⟩; obtain ⟨w1, hw1⟩ : ∃ wx, wx = (((w.alloc (.cells #[.int .i64 gp, .int .i64 gs, .int .i64 gr] 23)).alloc (.cells #[.int .u32 (vl sq), .int .u32 (vl pv), .int .u32 (vl fr), .slice a n cap] 27)).alloc (.cells #[.int .i64 fk, .int .u32 (vl fa), .int .u32 (vl fb), .string FB] 29)) := ⟨_, rfl⟩; have bw1 := Lib.hid (show Below w.heap.size w w1 by rw [hw1]; exact (bel2 (bel2 (Geom.bel_alloc _ _) (Geom.bel_alloc _ _)) (Geom.bel_alloc _ _))); have zw1 := Lib.hid (show w.heap.size + 3 ≤ w1.heap.size by rw [hw1]; simp); have vw1g := Lib.hid (show Var w1 (w.heap.size) 23 [.int .i64 gp, .int .i64 gs, .int .i64 gr] by rw [hw1]; exact (((Var.new w 23 [.int .i64 gp, .int .i64 gs, .int .i64 gr]).alloc _).alloc _)); have vw1x := Lib.hid (show Var w1 (w.heap.size + 1) 27 [.int .u32 (vl sq), .int .u32 (vl pv), .int .u32 (vl fr), .slice a n cap] by rw [hw1]; exact ((show Var ((w.alloc (.cells #[.int .i64 gp, .int .i64 gs, .int .i64 gr] 23)).alloc (.cells #[.int .u32 (vl sq), .int .u32 (vl pv), .int .u32 (vl fr), .slice a n cap] 27)) (w.heap.size + 1) 27 [.int .u32 (vl sq), .int .u32 (vl pv), .int .u32 (vl fr), .slice a n cap] from by have h := Var.new (w.alloc (.cells #[.int .i64 gp, .int .i64 gs, .int .i64 gr] 23)) 27 [.int .u32 (vl sq), .int .u32 (vl pv), .int .u32 (vl fr), .slice a n cap]; rw [show (w.alloc (.cells #[.int .i64 gp, .int .i64 gs, .int .i64 gr] 23)).heap.size = w.heap.size + 1 by simp] at h; exact h).alloc _)); have vw1f := Lib.hid (show Var w1 (w.heap.size + 2) 29 [.int .i64 fk, .int .u32 (vl fa), .int .u32 (vl fb), .string FB] by rw [hw1]; exact (show Var (((w.alloc (.cells #[.int .i64 gp, .int .i64 gs, .int .i64 gr] 23)).alloc (.cells #[.int .u32 (vl sq), .int .u32 (vl pv), .int .u32 (vl fr), .slice a n cap] 27)).alloc (.cells #[.int .i64 fk, .int .u32 (vl fa), .int .u32 (vl fb), .string FB] 29)) (w.heap.size + 2) 29 [.int .i64 fk, .int .u32 (vl fa), .int .u32 (vl fb), .string FB] from by have h := Var.new ((w.alloc (.cells #[.int .i64 gp, .int .i64 gs, .int .i64 gr] 23)).alloc (.cells #[.int .u32 (vl sq), .int .u32 (vl pv), .int .u32 (vl fr), .slice a n cap] 27)) 29 [.int .i64 fk, .int .u32 (vl fa), .int .u32 (vl fb), .string FB]; rw [show ((w.alloc (.cells #[.int .i64 gp, .int .i64 gs, .int .i64 gr] 23)).alloc (.cells #[.int .u32 (vl sq), .int .u32 (vl pv), .int .u32 (vl fr), .slice a n cap] 27)).heap.size = w.heap.size + 2 by simp] at h; exact h)); have hbel : Below w1.heap.size w1 w2 := (by rw [hw1]; exact bz); clear bz; have bw2 := Lib.hid (bel2 bw1.out hbel); have zw2 := Lib.hid hbel.size; have vw2g := Lib.hid (vw1g.out.below hbel vw1g.out.lt); have vw2x := Lib.hid (vw1x.out.below hbel vw1x.out.lt); have vw2f := Lib.hid (vw1f.out.below hbel vw1f.out.lt); have rw2P := Lib.hid (show World.ownsRow w2 w1.heap.size 29 4 (.slice (some ⟨gP, 0, none⟩) PL.length vc) (PL.length) (flatF PL) from (by rw [hw1]; exact hown)); clear hbel; clear hown))
    | (go_at_call 5; ((with_reducible refine (HAL.out _ (Batch.Tb.below HT.out bw2.out)).mono ?_); rintro e w3 ⟨rfl, bz⟩; have hbel : Below w2.heap.size w2 w3 := (by exact bz); clear bz; have bw3 := Lib.hid (bel2 bw2.out hbel); have zw3 := Lib.hid hbel.size; have vw3g := Lib.hid (vw2g.out.below hbel vw2g.out.lt); have vw3x := Lib.hid (vw2x.out.below hbel vw2x.out.lt); have vw3f := Lib.hid (vw2f.out.below hbel vw2f.out.lt); have rw3P := Lib.hid (owns_below rw2P.out hbel); clear hbel))
    | (go_at_call 6; (with_reducible refine (HPI.out _).mono ?_); rintro e wsame ⟨rfl, rfl⟩)
    | (go_at_call 6; (with_reducible refine (HPK.out _).mono ?_); rintro e wsame ⟨rfl, rfl⟩)
    | (at_builtin; go_loud (refine append_at rfl _ _ 30 rfl w3.heap.size 29 (.agg #[.int .i64 0, .int .u32 0, .int .u32 0, .string ⟨#[]⟩]) 4 32 Tryz.underlying30 infoF rfl (by decide) (.slice none 0 0) 0 [] rfl ⟨rfl, .inl ⟨rfl, rfl⟩⟩ ⟨gP, 0, none⟩ PL.length vc (flatF PL) rfl (flatF_length _) (fat_news (fat_of rw3P.out)) (flat_one _) ?c1 ?c2 ?c3 ?_; (case c1 => omega); (case c2 => (unfold maxLen; omega)); (case c3 => exact Nat.le_refl _); intro v9 w9 hown9 hgrow9 hat9; have hb9 := below_append (Below.refl w3.heap.size w3) hgrow9 (Nat.le_refl _) (fun t ht => by cases ht); rw [Nat.zero_add, List.nil_append] at hown9; with_reducible refine Exists.elim (owns_slice hown9) ?_; intro aM hh; with_reducible refine Exists.elim hh ?_; intro cM he9; clear hh; subst he9; with_reducible refine Exists.elim (fmine_some (fm_of hown9) h1) ?_; intro gM hh; have hgM := hh.1; subst hgM; clear hh; have hgB := Lib.hid (owns_block hown9 gM 0 rfl).2.2.1; have rM := Lib.hid hown9; have rP9 := Lib.hid (owns_below rw3P.out hb9); have vf9 := Lib.hid (vw3f.out.below hb9 vw3f.out.lt); have HB9 := Lib.hid (bel2 bw3.out hb9); have HW9 := Lib.hid (show w.heap.size ≤ w3.heap.size from bw3.out.size); have hcM := fm_cap (fm_of rM.out); have hglt := owns_lt' rM.out; clear hown9 hgrow9 hat9 hb9; have vf1501 := (show Var w9 (w.heap.size + 2) 29 [.int .i64 fk, .int .u32 (vl fa), .int .u32 (vl fb), .string FB] from vf9.out); have c1502 := vf1501.cell (j := 0) rfl; have c1503 := vf1501.cell (j := 1) rfl; have c1504 := vf1501.cell (j := 2) rfl; have c1505 := vf1501.cell (j := 3) rfl; clear vf1501; have k0 := owns_cell rM.out hu0; have k1 := owns_frozen rM.out (i * 4 + 1)))
    | (go_at_call 6; (with_reducible refine (HPH.out _).mono ?_); rintro e wsame ⟨rfl, rfl⟩))
  obtain ⟨wS, hwS⟩ : ∃ wS, wS = (w9.setCell ⟨gM, i * 4 + 1, none⟩ (.int .u32 (vl fa))) := ⟨_, rfl⟩
  rw [← hwS]
  have rS := Lib.hid (show World.ownsRow wS w3.heap.size 29 4 (.slice (some ⟨gM, 0, none⟩) PL.length cM) PL.length (flatF LK) by rw [hwS, ← hset]; exact owns_set rM.out (i * 4 + 1) (.int .u32 (vl fa)))
  have bS := Lib.hid (show Below w.heap.size w wS by rw [hwS]; exact HB9.out.setCell (p := ⟨gM, i * 4 + 1, none⟩) (by have := hgB.out; have := HW9.out; simp only; omega) _)
  clear hwS k0 k1 c1502 c1503 c1504 c1505
  go_wp2_with (first
    | (go_at_call 7; ((with_reducible refine (HJ.out _ _ _ _ (Batch.Tb.below HT.out bS.out) rS.out).mono ?_); rintro e w101 ⟨vi, vj, rfl, hown, bz⟩; have hbel : Below wS.heap.size wS w101 := (by exact bz); clear bz; have bw101 := Lib.hid (bel2 bS.out hbel); have zw101 := Lib.hid hbel.size; have rw101m := Lib.hid (owns_below rS.out hbel); have rw101Q := Lib.hid (show World.ownsRow w101 wS.heap.size 44 3 (.slice vi M.length vj) (M.length) (Batch.flatW M) from hown); clear hbel; clear hown))
    | (go_at_call 8; ((with_reducible refine (HK.out _ _ _ _ (owns_below rw101m.out (Geom.bel_alloc _ _))).mono ?_); rintro e w103 ⟨vk, vl_, rfl, hown, bz⟩; obtain ⟨w102, hw102⟩ : ∃ wx, wx = (w101.alloc (.cells #[.int .u32 (vl t0), .int .u32 (vl t1), .int .u32 (vl t2), .slice vi M.length vj] 27)) := ⟨_, rfl⟩; have bw102 := Lib.hid (show Below w.heap.size w w102 by rw [hw102]; exact (bel2 bw101.out (Geom.bel_alloc _ _))); have zw102 := Lib.hid (show w101.heap.size + 1 ≤ w102.heap.size by rw [hw102]; simp); have vw102y := Lib.hid (show Var w102 (w101.heap.size) 27 [.int .u32 (vl t0), .int .u32 (vl t1), .int .u32 (vl t2), .slice vi M.length vj] by rw [hw102]; exact (Var.new w101 27 [.int .u32 (vl t0), .int .u32 (vl t1), .int .u32 (vl t2), .slice vi M.length vj])); have rw102m := Lib.hid (show World.ownsRow (w102) (w3.heap.size) 29 4 (.slice (some ⟨gM, 0, none⟩) PL.length cM) (PL.length) (flatF LK) by rw [hw102]; exact (owns_below rw101m.out (Geom.bel_alloc _ _))); have rw102Q := Lib.hid (show World.ownsRow (w102) (wS.heap.size) 44 3 (.slice vi M.length vj) (M.length) (Batch.flatW M) by rw [hw102]; exact (owns_below rw101Q.out (Geom.bel_alloc _ _))); have hbel : Below w102.heap.size w102 w103 := (by rw [hw102]; exact bz); clear bz; have bw103 := Lib.hid (bel2 bw102.out hbel); have zw103 := Lib.hid hbel.size; have vw103y := Lib.hid (vw102y.out.below hbel vw102y.out.lt); have rw103m := Lib.hid (owns_below rw102m.out hbel); have rw103Q := Lib.hid (owns_below rw102Q.out hbel); have rw103S := Lib.hid (show World.ownsRow w103 w102.heap.size 44 3 (.slice vk M.length vl_) (M.length) (Batch.flatW M) from (by rw [hw102]; exact hown)); clear hbel; clear hown; have vf2001 := (show Var w103 (w101.heap.size) 27 [.int .u32 (vl t0), .int .u32 (vl t1), .int .u32 (vl t2), .slice vi M.length vj] from vw103y.out); have c2002 := vf2001.cell (j := 0) rfl; have c2003 := vf2001.cell (j := 1) rfl; have c2004 := vf2001.cell (j := 2) rfl; have c2005 := vf2001.cell (j := 3) rfl; clear vf2001; have vf2006 := (show Var (w103.alloc (.cells #[.int .u32 (vl t0), .int .u32 (vl t1), .int .u32 (vl t2), .slice vk M.length vl_] 27)) (w101.heap.size) 27 [.int .u32 (vl t0), .int .u32 (vl t1), .int .u32 (vl t2), .slice vi M.length vj] from (vw103y.out.alloc _)); have c2007 := vf2006.cell (j := 0) rfl; have c2008 := vf2006.cell (j := 1) rfl; have c2009 := vf2006.cell (j := 2) rfl; have c2010 := vf2006.cell (j := 3) rfl; clear vf2006; have vf2011 := (show Var (w103.alloc (.cells #[.int .u32 (vl t0), .int .u32 (vl t1), .int .u32 (vl t2), .slice vk M.length vl_] 27)) (w103.heap.size) 27 [.int .u32 (vl t0), .int .u32 (vl t1), .int .u32 (vl t2), .slice vk M.length vl_] from (Var.new w103 27 [.int .u32 (vl t0), .int .u32 (vl t1), .int .u32 (vl t2), .slice vk M.length vl_])); have c2012 := vf2011.cell (j := 0) rfl; have c2013 := vf2011.cell (j := 1) rfl; have c2014 := vf2011.cell (j := 2) rfl; have c2015 := vf2011.cell (j := 3) rfl; clear vf2011))
    | (go_at_call 9; ((with_reducible refine (HSG.out _ _ _ _ _ (wat_of (owns_below rw103Q.out (Geom.bel_alloc _ _))) (wat_of (owns_below rw103S.out (Geom.bel_alloc _ _)))).mono ?_); rintro e w105 ⟨rfl, bz⟩; obtain ⟨w104, hw104⟩ : ∃ wx, wx = (w103.alloc (.cells #[.int .u32 (vl t0), .int .u32 (vl t1), .int .u32 (vl t2), .slice vk M.length vl_] 27)) := ⟨_, rfl⟩; have bw104 := Lib.hid (show Below w.heap.size w w104 by rw [hw104]; exact (bel2 bw103.out (Geom.bel_alloc _ _))); have zw104 := Lib.hid (show w103.heap.size + 1 ≤ w104.heap.size by rw [hw104]; simp); have vw104y := Lib.hid (show Var w104 (w101.heap.size) 27 [.int .u32 (vl t0), .int .u32 (vl t1), .int .u32 (vl t2), .slice vi M.length vj] by rw [hw104]; exact (vw103y.out.alloc _)); have vw104z := Lib.hid (show Var w104 (w103.heap.size) 27 [.int .u32 (vl t0), .int .u32 (vl t1), .int .u32 (vl t2), .slice vk M.length vl_] by rw [hw104]; exact (Var.new w103 27 [.int .u32 (vl t0), .int .u32 (vl t1), .int .u32 (vl t2), .slice vk M.length vl_])); have rw104m := Lib.hid (show World.ownsRow (w104) (w3.heap.size) 29 4 (.slice (some ⟨gM, 0, none⟩) PL.length cM) (PL.length) (flatF LK) by rw [hw104]; exact (owns_below rw103m.out (Geom.bel_alloc _ _))); have rw104Q := Lib.hid (show World.ownsRow (w104) (wS.heap.size) 44 3 (.slice vi M.length vj) (M.length) (Batch.flatW M) by rw [hw104]; exact (owns_below rw103Q.out (Geom.bel_alloc _ _))); have rw104S := Lib.hid (show World.ownsRow (w104) (w102.heap.size) 44 3 (.slice vk M.length vl_) (M.length) (Batch.flatW M) by rw [hw104]; exact (owns_below rw103S.out (Geom.bel_alloc _ _))); have hbel : Below w104.heap.size w104 w105 := (by rw [hw104]; exact bz); clear bz; have bw105 := Lib.hid (bel2 bw104.out hbel); have zw105 := Lib.hid hbel.size; have vw105y := Lib.hid (vw104y.out.below hbel vw104y.out.lt); have vw105z := Lib.hid (vw104z.out.below hbel vw104z.out.lt); have rw105m := Lib.hid (owns_below rw104m.out hbel); have rw105Q := Lib.hid (owns_below rw104Q.out hbel); have rw105S := Lib.hid (owns_below rw104S.out hbel); clear hbel; clear c2002 c2003 c2004 c2005 c2007 c2008 c2009 c2010 c2012 c2013 c2014 c2015)))
  go_ret
  exact ⟨rfl, bw105.out⟩
set_option maxRecDepth 100000 in
set_option maxHeartbeats 8000000 in
theorem bent_1 (gp gs gr : Int) (sq pv fr : W) (a : Option Addr) (n cap : Nat) (L : List Wr) (PL : List Fr) (how at_ to_ : Int) (fk : Int) (fa fb : W) (FB : ByteArray) (h1 : 0 < PL.length) (hfew : PL.length ≤ 1000) (i k : Nat) (hi : i < PL.length) (hk : k < PL.length) (LK : List Fr) (t0 t1 t2 : W) (M : List Wr) (c9 : Nat) (hset : (flatF PL).set (i * 4 + 2) (.int .u32 (vl fb)) = flatF LK) (u0 : Value) (hu0 : (flatF PL)[i * 4 + 2]? = some u0)
    (HCT : Hid (∀ w, Tb w → WAt w a L → Calls Tryz.prog 4 #[.agg #[.int .i64 gp, .int .i64 gs, .int .i64 gr], .agg #[.int .u32 (vl sq), .int .u32 (vl pv), .int .u32 (vl fr), .slice a n cap]] w fun e w' => ∃ gP vc, e = .returned (.slice (some ⟨gP, 0, none⟩) PL.length vc) ∧ FMine w' w.heap.size (.slice (some ⟨gP, 0, none⟩) PL.length vc) PL ∧ Below w.heap.size w w'))
    (HAL : Hid (∀ w, Tb w → Calls Tryz.prog 5 #[] w fun e w' => e = .returned (.bool true) ∧ Below w.heap.size w w'))
    (HPI : Hid (∀ w, Calls Tryz.prog 6 #[.int .i64 at_, .int .i64 (PL.length : Int)] w fun e w' => e = .returned (.int .i64 (i : Int)) ∧ w = w'))
    (HPK : Hid (∀ w, Calls Tryz.prog 6 #[.int .i64 to_, .int .i64 (PL.length : Int)] w fun e w' => e = .returned (.int .i64 (k : Int)) ∧ w = w'))
    (HPH : Hid (∀ w, Calls Tryz.prog 6 #[.int .i64 how, .int .i64 7] w fun e w' => e = .returned (.int .i64 1) ∧ w = w'))
    (HJ : Hid (∀ w base a c, Tb w → w.ownsRow base 29 4 (.slice a PL.length c) PL.length (flatF LK) → Calls Tryz.prog 7 #[.slice a PL.length c] w fun e w' => ∃ va vc, e = .returned (.tuple #[.agg #[.int .u32 (vl t0), .int .u32 (vl t1), .int .u32 (vl t2), .slice va M.length vc], .int .i64 (c9 : Int)]) ∧ WMine w' w.heap.size (.slice va M.length vc) M ∧ Below w.heap.size w w'))
    (HK : Hid (∀ w base a c, w.ownsRow base 29 4 (.slice a PL.length c) PL.length (flatF LK) → Calls Tryz.prog 8 #[.slice a PL.length c] w fun e w' => ∃ va vc, e = .returned (.tuple #[.agg #[.int .u32 (vl t0), .int .u32 (vl t1), .int .u32 (vl t2), .slice va M.length vc], .int .i64 (c9 : Int)]) ∧ WMine w' w.heap.size (.slice va M.length vc) M ∧ Below w.heap.size w w'))
    (HSG : Hid (∀ w a b c d, WAt w a M → WAt w b M → Calls Tryz.prog 9 #[.agg #[.int .u32 (vl t0), .int .u32 (vl t1), .int .u32 (vl t2), .slice a M.length c], .agg #[.int .u32 (vl t0), .int .u32 (vl t1), .int .u32 (vl t2), .slice b M.length d]] w fun e w' => e = .returned (.bool true) ∧ Below w.heap.size w w')) (w : World) (HT : Hid (Tb w)) (HRW : Hid (WAt w a L)) :
    Calls Tryz.prog 3 #[.agg #[.int .i64 gp, .int .i64 gs, .int .i64 gr], .agg #[.int .u32 (vl sq), .int .u32 (vl pv), .int .u32 (vl fr), .slice a n cap], .int .i64 how, .int .i64 at_, .int .i64 to_, .agg #[.int .i64 fk, .int .u32 (vl fa), .int .u32 (vl fb), .string FB]] w fun e w' => e = .returned (.bool true) ∧ Below w.heap.size w w' := by
  have q0 : ((PL.length : Int) == 0) = false := by rw [beq_eq_false_iff_ne]; omega
  have qc : ((c9 : Int) == (c9 : Int)) = true := beq_self_eq_true _
  have hiI : (i : Int) < (PL.length : Int) := by omega
  have hkI : (k : Int) < (PL.length : Int) := by omega
  go_enter Tryz.func3, Tryz.ntmps3
  go_wp2_with (first
    | (go_at_call 4; ((with_reducible refine (HCT.out _ (Batch.Tb.below HT.out (bel2 (bel2 (Geom.bel_alloc _ _) (Geom.bel_alloc _ _)) (Geom.bel_alloc _ _))) (Batch.WAt.below HRW.out (bel2 (bel2 (Geom.bel_alloc _ _) (Geom.bel_alloc _ _)) (Geom.bel_alloc _ _)))).mono ?_); rintro e w2 ⟨gP, vc, rfl, hown, bz⟩; obtain ⟨w1, hw1⟩ : ∃ wx, wx = (((w.alloc (.cells #[.int .i64 gp, .int .i64 gs, .int .i64 gr] 23)).alloc (.cells #[.int .u32 (vl sq), .int .u32 (vl pv), .int .u32 (vl fr), .slice a n cap] 27)).alloc (.cells #[.int .i64 fk, .int .u32 (vl fa), .int .u32 (vl fb), .string FB] 29)) := ⟨_, rfl⟩; have bw1 := Lib.hid (show Below w.heap.size w w1 by rw [hw1]; exact (bel2 (bel2 (Geom.bel_alloc _ _) (Geom.bel_alloc _ _)) (Geom.bel_alloc _ _))); have zw1 := Lib.hid (show w.heap.size + 3 ≤ w1.heap.size by rw [hw1]; simp); have vw1g := Lib.hid (show Var w1 (w.heap.size) 23 [.int .i64 gp, .int .i64 gs, .int .i64 gr] by rw [hw1]; exact (((Var.new w 23 [.int .i64 gp, .int .i64 gs, .int .i64 gr]).alloc _).alloc _)); have vw1x := Lib.hid (show Var w1 (w.heap.size + 1) 27 [.int .u32 (vl sq), .int .u32 (vl pv), .int .u32 (vl fr), .slice a n cap] by rw [hw1]; exact ((show Var ((w.alloc (.cells #[.int .i64 gp, .int .i64 gs, .int .i64 gr] 23)).alloc (.cells #[.int .u32 (vl sq), .int .u32 (vl pv), .int .u32 (vl fr), .slice a n cap] 27)) (w.heap.size + 1) 27 [.int .u32 (vl sq), .int .u32 (vl pv), .int .u32 (vl fr), .slice a n cap] from by have h := Var.new (w.alloc (.cells #[.int .i64 gp, .int .i64 gs, .int .i64 gr] 23)) 27 [.int .u32 (vl sq), .int .u32 (vl pv), .int .u32 (vl fr), .slice a n cap]; rw [show (w.alloc (.cells #[.int .i64 gp, .int .i64 gs, .int .i64 gr] 23)).heap.size = w.heap.size + 1 by simp] at h; exact h).alloc _)); have vw1f := Lib.hid (show Var w1 (w.heap.size + 2) 29 [.int .i64 fk, .int .u32 (vl fa), .int .u32 (vl fb), .string FB] by rw [hw1]; exact (show Var (((w.alloc (.cells #[.int .i64 gp, .int .i64 gs, .int .i64 gr] 23)).alloc (.cells #[.int .u32 (vl sq), .int .u32 (vl pv), .int .u32 (vl fr), .slice a n cap] 27)).alloc (.cells #[.int .i64 fk, .int .u32 (vl fa), .int .u32 (vl fb), .string FB] 29)) (w.heap.size + 2) 29 [.int .i64 fk, .int .u32 (vl fa), .int .u32 (vl fb), .string FB] from by have h := Var.new ((w.alloc (.cells #[.int .i64 gp, .int .i64 gs, .int .i64 gr] 23)).alloc (.cells #[.int .u32 (vl sq), .int .u32 (vl pv), .int .u32 (vl fr), .slice a n cap] 27)) 29 [.int .i64 fk, .int .u32 (vl fa), .int .u32 (vl fb), .string FB]; rw [show ((w.alloc (.cells #[.int .i64 gp, .int .i64 gs, .int .i64 gr] 23)).alloc (.cells #[.int .u32 (vl sq), .int .u32 (vl pv), .int .u32 (vl fr), .slice a n cap] 27)).heap.size = w.heap.size + 2 by simp] at h; exact h)); have hbel : Below w1.heap.size w1 w2 := (by rw [hw1]; exact bz); clear bz; have bw2 := Lib.hid (bel2 bw1.out hbel); have zw2 := Lib.hid hbel.size; have vw2g := Lib.hid (vw1g.out.below hbel vw1g.out.lt); have vw2x := Lib.hid (vw1x.out.below hbel vw1x.out.lt); have vw2f := Lib.hid (vw1f.out.below hbel vw1f.out.lt); have rw2P := Lib.hid (show World.ownsRow w2 w1.heap.size 29 4 (.slice (some ⟨gP, 0, none⟩) PL.length vc) (PL.length) (flatF PL) from (by rw [hw1]; exact hown)); clear hbel; clear hown))
    | (go_at_call 5; ((with_reducible refine (HAL.out _ (Batch.Tb.below HT.out bw2.out)).mono ?_); rintro e w3 ⟨rfl, bz⟩; have hbel : Below w2.heap.size w2 w3 := (by exact bz); clear bz; have bw3 := Lib.hid (bel2 bw2.out hbel); have zw3 := Lib.hid hbel.size; have vw3g := Lib.hid (vw2g.out.below hbel vw2g.out.lt); have vw3x := Lib.hid (vw2x.out.below hbel vw2x.out.lt); have vw3f := Lib.hid (vw2f.out.below hbel vw2f.out.lt); have rw3P := Lib.hid (owns_below rw2P.out hbel); clear hbel))
    | (go_at_call 6; (with_reducible refine (HPI.out _).mono ?_); rintro e wsame ⟨rfl, rfl⟩)
    | (go_at_call 6; (with_reducible refine (HPK.out _).mono ?_); rintro e wsame ⟨rfl, rfl⟩)
    | (at_builtin; go_loud (refine append_at rfl _ _ 30 rfl w3.heap.size 29 (.agg #[.int .i64 0, .int .u32 0, .int .u32 0, .string ⟨#[]⟩]) 4 32 Tryz.underlying30 infoF rfl (by decide) (.slice none 0 0) 0 [] rfl ⟨rfl, .inl ⟨rfl, rfl⟩⟩ ⟨gP, 0, none⟩ PL.length vc (flatF PL) rfl (flatF_length _) (fat_news (fat_of rw3P.out)) (flat_one _) ?c1 ?c2 ?c3 ?_; (case c1 => omega); (case c2 => (unfold maxLen; omega)); (case c3 => exact Nat.le_refl _); intro v9 w9 hown9 hgrow9 hat9; have hb9 := below_append (Below.refl w3.heap.size w3) hgrow9 (Nat.le_refl _) (fun t ht => by cases ht); rw [Nat.zero_add, List.nil_append] at hown9; with_reducible refine Exists.elim (owns_slice hown9) ?_; intro aM hh; with_reducible refine Exists.elim hh ?_; intro cM he9; clear hh; subst he9; with_reducible refine Exists.elim (fmine_some (fm_of hown9) h1) ?_; intro gM hh; have hgM := hh.1; subst hgM; clear hh; have hgB := Lib.hid (owns_block hown9 gM 0 rfl).2.2.1; have rM := Lib.hid hown9; have rP9 := Lib.hid (owns_below rw3P.out hb9); have vf9 := Lib.hid (vw3f.out.below hb9 vw3f.out.lt); have HB9 := Lib.hid (bel2 bw3.out hb9); have HW9 := Lib.hid (show w.heap.size ≤ w3.heap.size from bw3.out.size); have hcM := fm_cap (fm_of rM.out); have hglt := owns_lt' rM.out; clear hown9 hgrow9 hat9 hb9; have vf1501 := (show Var w9 (w.heap.size + 2) 29 [.int .i64 fk, .int .u32 (vl fa), .int .u32 (vl fb), .string FB] from vf9.out); have c1502 := vf1501.cell (j := 0) rfl; have c1503 := vf1501.cell (j := 1) rfl; have c1504 := vf1501.cell (j := 2) rfl; have c1505 := vf1501.cell (j := 3) rfl; clear vf1501; have k0 := owns_cell rM.out hu0; have k1 := owns_frozen rM.out (i * 4 + 2)))
    | (go_at_call 6; (with_reducible refine (HPH.out _).mono ?_); rintro e wsame ⟨rfl, rfl⟩))
  obtain ⟨wS, hwS⟩ : ∃ wS, wS = (w9.setCell ⟨gM, i * 4 + 2, none⟩ (.int .u32 (vl fb))) := ⟨_, rfl⟩
  rw [← hwS]
  have rS := Lib.hid (show World.ownsRow wS w3.heap.size 29 4 (.slice (some ⟨gM, 0, none⟩) PL.length cM) PL.length (flatF LK) by rw [hwS, ← hset]; exact owns_set rM.out (i * 4 + 2) (.int .u32 (vl fb)))
  have bS := Lib.hid (show Below w.heap.size w wS by rw [hwS]; exact HB9.out.setCell (p := ⟨gM, i * 4 + 2, none⟩) (by have := hgB.out; have := HW9.out; simp only; omega) _)
  clear hwS k0 k1 c1502 c1503 c1504 c1505
  go_wp2_with (first
    | (go_at_call 7; ((with_reducible refine (HJ.out _ _ _ _ (Batch.Tb.below HT.out bS.out) rS.out).mono ?_); rintro e w101 ⟨vi, vj, rfl, hown, bz⟩; have hbel : Below wS.heap.size wS w101 := (by exact bz); clear bz; have bw101 := Lib.hid (bel2 bS.out hbel); have zw101 := Lib.hid hbel.size; have rw101m := Lib.hid (owns_below rS.out hbel); have rw101Q := Lib.hid (show World.ownsRow w101 wS.heap.size 44 3 (.slice vi M.length vj) (M.length) (Batch.flatW M) from hown); clear hbel; clear hown))
    | (go_at_call 8; ((with_reducible refine (HK.out _ _ _ _ (owns_below rw101m.out (Geom.bel_alloc _ _))).mono ?_); rintro e w103 ⟨vk, vl_, rfl, hown, bz⟩; obtain ⟨w102, hw102⟩ : ∃ wx, wx = (w101.alloc (.cells #[.int .u32 (vl t0), .int .u32 (vl t1), .int .u32 (vl t2), .slice vi M.length vj] 27)) := ⟨_, rfl⟩; have bw102 := Lib.hid (show Below w.heap.size w w102 by rw [hw102]; exact (bel2 bw101.out (Geom.bel_alloc _ _))); have zw102 := Lib.hid (show w101.heap.size + 1 ≤ w102.heap.size by rw [hw102]; simp); have vw102y := Lib.hid (show Var w102 (w101.heap.size) 27 [.int .u32 (vl t0), .int .u32 (vl t1), .int .u32 (vl t2), .slice vi M.length vj] by rw [hw102]; exact (Var.new w101 27 [.int .u32 (vl t0), .int .u32 (vl t1), .int .u32 (vl t2), .slice vi M.length vj])); have rw102m := Lib.hid (show World.ownsRow (w102) (w3.heap.size) 29 4 (.slice (some ⟨gM, 0, none⟩) PL.length cM) (PL.length) (flatF LK) by rw [hw102]; exact (owns_below rw101m.out (Geom.bel_alloc _ _))); have rw102Q := Lib.hid (show World.ownsRow (w102) (wS.heap.size) 44 3 (.slice vi M.length vj) (M.length) (Batch.flatW M) by rw [hw102]; exact (owns_below rw101Q.out (Geom.bel_alloc _ _))); have hbel : Below w102.heap.size w102 w103 := (by rw [hw102]; exact bz); clear bz; have bw103 := Lib.hid (bel2 bw102.out hbel); have zw103 := Lib.hid hbel.size; have vw103y := Lib.hid (vw102y.out.below hbel vw102y.out.lt); have rw103m := Lib.hid (owns_below rw102m.out hbel); have rw103Q := Lib.hid (owns_below rw102Q.out hbel); have rw103S := Lib.hid (show World.ownsRow w103 w102.heap.size 44 3 (.slice vk M.length vl_) (M.length) (Batch.flatW M) from (by rw [hw102]; exact hown)); clear hbel; clear hown; have vf2001 := (show Var w103 (w101.heap.size) 27 [.int .u32 (vl t0), .int .u32 (vl t1), .int .u32 (vl t2), .slice vi M.length vj] from vw103y.out); have c2002 := vf2001.cell (j := 0) rfl; have c2003 := vf2001.cell (j := 1) rfl; have c2004 := vf2001.cell (j := 2) rfl; have c2005 := vf2001.cell (j := 3) rfl; clear vf2001; have vf2006 := (show Var (w103.alloc (.cells #[.int .u32 (vl t0), .int .u32 (vl t1), .int .u32 (vl t2), .slice vk M.length vl_] 27)) (w101.heap.size) 27 [.int .u32 (vl t0), .int .u32 (vl t1), .int .u32 (vl t2), .slice vi M.length vj] from (vw103y.out.alloc _)); have c2007 := vf2006.cell (j := 0) rfl; have c2008 := vf2006.cell (j := 1) rfl; have c2009 := vf2006.cell (j := 2) rfl; have c2010 := vf2006.cell (j := 3) rfl; clear vf2006; have vf2011 := (show Var (w103.alloc (.cells #[.int .u32 (vl t0), .int .u32 (vl t1), .int .u32 (vl t2), .slice vk M.length vl_] 27)) (w103.heap.size) 27 [.int .u32 (vl t0), .int .u32 (vl t1), .int .u32 (vl t2), .slice vk M.length vl_] from (Var.new w103 27 [.int .u32 (vl t0), .int .u32 (vl t1), .int .u32 (vl t2), .slice vk M.length vl_])); have c2012 := vf2011.cell (j := 0) rfl; have c2013 := vf2011.cell (j := 1) rfl; have c2014 := vf2011.cell (j := 2) rfl; have c2015 := vf2011.cell (j := 3) rfl; clear vf2011))
    | (go_at_call 9; ((with_reducible refine (HSG.out _ _ _ _ _ (wat_of (owns_below rw103Q.out (Geom.bel_alloc _ _))) (wat_of (owns_below rw103S.out (Geom.bel_alloc _ _)))).mono ?_); rintro e w105 ⟨rfl, bz⟩; obtain ⟨w104, hw104⟩ : ∃ wx, wx = (w103.alloc (.cells #[.int .u32 (vl t0), .int .u32 (vl t1), .int .u32 (vl t2), .slice vk M.length vl_] 27)) := ⟨_, rfl⟩; have bw104 := Lib.hid (show Below w.heap.size w w104 by rw [hw104]; exact (bel2 bw103.out (Geom.bel_alloc _ _))); have zw104 := Lib.hid (show w103.heap.size + 1 ≤ w104.heap.size by rw [hw104]; simp); have vw104y := Lib.hid (show Var w104 (w101.heap.size) 27 [.int .u32 (vl t0), .int .u32 (vl t1), .int .u32 (vl t2), .slice vi M.length vj] by rw [hw104]; exact (vw103y.out.alloc _)); have vw104z := Lib.hid (show Var w104 (w103.heap.size) 27 [.int .u32 (vl t0), .int .u32 (vl t1), .int .u32 (vl t2), .slice vk M.length vl_] by rw [hw104]; exact (Var.new w103 27 [.int .u32 (vl t0), .int .u32 (vl t1), .int .u32 (vl t2), .slice vk M.length vl_])); have rw104m := Lib.hid (show World.ownsRow (w104) (w3.heap.size) 29 4 (.slice (some ⟨gM, 0, none⟩) PL.length cM) (PL.length) (flatF LK) by rw [hw104]; exact (owns_below rw103m.out (Geom.bel_alloc _ _))); have rw104Q := Lib.hid (show World.ownsRow (w104) (wS.heap.size) 44 3 (.slice vi M.length vj) (M.length) (Batch.flatW M) by rw [hw104]; exact (owns_below rw103Q.out (Geom.bel_alloc _ _))); have rw104S := Lib.hid (show World.ownsRow (w104) (w102.heap.size) 44 3 (.slice vk M.length vl_) (M.length) (Batch.flatW M) by rw [hw104]; exact (owns_below rw103S.out (Geom.bel_alloc _ _))); have hbel : Below w104.heap.size w104 w105 := (by rw [hw104]; exact bz); clear bz; have bw105 := Lib.hid (bel2 bw104.out hbel); have zw105 := Lib.hid hbel.size; have vw105y := Lib.hid (vw104y.out.below hbel vw104y.out.lt); have vw105z := Lib.hid (vw104z.out.below hbel vw104z.out.lt); have rw105m := Lib.hid (owns_below rw104m.out hbel); have rw105Q := Lib.hid (owns_below rw104Q.out hbel); have rw105S := Lib.hid (owns_below rw104S.out hbel); clear hbel; clear c2002 c2003 c2004 c2005 c2007 c2008 c2009 c2010 c2012 c2013 c2014 c2015)))
  go_ret
  exact ⟨rfl, bw105.out⟩
set_option maxRecDepth 100000 in
set_option maxHeartbeats 8000000 in
theorem bent_2 (gp gs gr : Int) (sq pv fr : W) (a : Option Addr) (n cap : Nat) (L : List Wr) (PL : List Fr) (how at_ to_ : Int) (fk : Int) (fa fb : W) (FB : ByteArray) (h1 : 0 < PL.length) (hfew : PL.length ≤ 1000) (i k : Nat) (hi : i < PL.length) (hk : k < PL.length) (LK : List Fr) (t0 t1 t2 : W) (M : List Wr) (c9 : Nat) (hset : (flatF PL).set (i * 4 + 3) (.string FB) = flatF LK) (u0 : Value) (hu0 : (flatF PL)[i * 4 + 3]? = some u0)
    (HCT : Hid (∀ w, Tb w → WAt w a L → Calls Tryz.prog 4 #[.agg #[.int .i64 gp, .int .i64 gs, .int .i64 gr], .agg #[.int .u32 (vl sq), .int .u32 (vl pv), .int .u32 (vl fr), .slice a n cap]] w fun e w' => ∃ gP vc, e = .returned (.slice (some ⟨gP, 0, none⟩) PL.length vc) ∧ FMine w' w.heap.size (.slice (some ⟨gP, 0, none⟩) PL.length vc) PL ∧ Below w.heap.size w w'))
    (HAL : Hid (∀ w, Tb w → Calls Tryz.prog 5 #[] w fun e w' => e = .returned (.bool true) ∧ Below w.heap.size w w'))
    (HPI : Hid (∀ w, Calls Tryz.prog 6 #[.int .i64 at_, .int .i64 (PL.length : Int)] w fun e w' => e = .returned (.int .i64 (i : Int)) ∧ w = w'))
    (HPK : Hid (∀ w, Calls Tryz.prog 6 #[.int .i64 to_, .int .i64 (PL.length : Int)] w fun e w' => e = .returned (.int .i64 (k : Int)) ∧ w = w'))
    (HPH : Hid (∀ w, Calls Tryz.prog 6 #[.int .i64 how, .int .i64 7] w fun e w' => e = .returned (.int .i64 2) ∧ w = w'))
    (HJ : Hid (∀ w base a c, Tb w → w.ownsRow base 29 4 (.slice a PL.length c) PL.length (flatF LK) → Calls Tryz.prog 7 #[.slice a PL.length c] w fun e w' => ∃ va vc, e = .returned (.tuple #[.agg #[.int .u32 (vl t0), .int .u32 (vl t1), .int .u32 (vl t2), .slice va M.length vc], .int .i64 (c9 : Int)]) ∧ WMine w' w.heap.size (.slice va M.length vc) M ∧ Below w.heap.size w w'))
    (HK : Hid (∀ w base a c, w.ownsRow base 29 4 (.slice a PL.length c) PL.length (flatF LK) → Calls Tryz.prog 8 #[.slice a PL.length c] w fun e w' => ∃ va vc, e = .returned (.tuple #[.agg #[.int .u32 (vl t0), .int .u32 (vl t1), .int .u32 (vl t2), .slice va M.length vc], .int .i64 (c9 : Int)]) ∧ WMine w' w.heap.size (.slice va M.length vc) M ∧ Below w.heap.size w w'))
    (HSG : Hid (∀ w a b c d, WAt w a M → WAt w b M → Calls Tryz.prog 9 #[.agg #[.int .u32 (vl t0), .int .u32 (vl t1), .int .u32 (vl t2), .slice a M.length c], .agg #[.int .u32 (vl t0), .int .u32 (vl t1), .int .u32 (vl t2), .slice b M.length d]] w fun e w' => e = .returned (.bool true) ∧ Below w.heap.size w w')) (w : World) (HT : Hid (Tb w)) (HRW : Hid (WAt w a L)) :
    Calls Tryz.prog 3 #[.agg #[.int .i64 gp, .int .i64 gs, .int .i64 gr], .agg #[.int .u32 (vl sq), .int .u32 (vl pv), .int .u32 (vl fr), .slice a n cap], .int .i64 how, .int .i64 at_, .int .i64 to_, .agg #[.int .i64 fk, .int .u32 (vl fa), .int .u32 (vl fb), .string FB]] w fun e w' => e = .returned (.bool true) ∧ Below w.heap.size w w' := by
  have q0 : ((PL.length : Int) == 0) = false := by rw [beq_eq_false_iff_ne]; omega
  have qc : ((c9 : Int) == (c9 : Int)) = true := beq_self_eq_true _
  have hiI : (i : Int) < (PL.length : Int) := by omega
  have hkI : (k : Int) < (PL.length : Int) := by omega
  go_enter Tryz.func3, Tryz.ntmps3
  go_wp2_with (first
    | (go_at_call 4; ((with_reducible refine (HCT.out _ (Batch.Tb.below HT.out (bel2 (bel2 (Geom.bel_alloc _ _) (Geom.bel_alloc _ _)) (Geom.bel_alloc _ _))) (Batch.WAt.below HRW.out (bel2 (bel2 (Geom.bel_alloc _ _) (Geom.bel_alloc _ _)) (Geom.bel_alloc _ _)))).mono ?_); rintro e w2 ⟨gP, vc, rfl, hown, bz⟩; obtain ⟨w1, hw1⟩ : ∃ wx, wx = (((w.alloc (.cells #[.int .i64 gp, .int .i64 gs, .int .i64 gr] 23)).alloc (.cells #[.int .u32 (vl sq), .int .u32 (vl pv), .int .u32 (vl fr), .slice a n cap] 27)).alloc (.cells #[.int .i64 fk, .int .u32 (vl fa), .int .u32 (vl fb), .string FB] 29)) := ⟨_, rfl⟩; have bw1 := Lib.hid (show Below w.heap.size w w1 by rw [hw1]; exact (bel2 (bel2 (Geom.bel_alloc _ _) (Geom.bel_alloc _ _)) (Geom.bel_alloc _ _))); have zw1 := Lib.hid (show w.heap.size + 3 ≤ w1.heap.size by rw [hw1]; simp); have vw1g := Lib.hid (show Var w1 (w.heap.size) 23 [.int .i64 gp, .int .i64 gs, .int .i64 gr] by rw [hw1]; exact (((Var.new w 23 [.int .i64 gp, .int .i64 gs, .int .i64 gr]).alloc _).alloc _)); have vw1x := Lib.hid (show Var w1 (w.heap.size + 1) 27 [.int .u32 (vl sq), .int .u32 (vl pv), .int .u32 (vl fr), .slice a n cap] by rw [hw1]; exact ((show Var ((w.alloc (.cells #[.int .i64 gp, .int .i64 gs, .int .i64 gr] 23)).alloc (.cells #[.int .u32 (vl sq), .int .u32 (vl pv), .int .u32 (vl fr), .slice a n cap] 27)) (w.heap.size + 1) 27 [.int .u32 (vl sq), .int .u32 (vl pv), .int .u32 (vl fr), .slice a n cap] from by have h := Var.new (w.alloc (.cells #[.int .i64 gp, .int .i64 gs, .int .i64 gr] 23)) 27 [.int .u32 (vl sq), .int .u32 (vl pv), .int .u32 (vl fr), .slice a n cap]; rw [show (w.alloc (.cells #[.int .i64 gp, .int .i64 gs, .int .i64 gr] 23)).heap.size = w.heap.size + 1 by simp] at h; exact h).alloc _)); have vw1f := Lib.hid (show Var w1 (w.heap.size + 2) 29 [.int .i64 fk, .int .u32 (vl fa), .int .u32 (vl fb), .string FB] by rw [hw1]; exact (show Var (((w.alloc (.cells #[.int .i64 gp, .int .i64 gs, .int .i64 gr] 23)).alloc (.cells #[.int .u32 (vl sq), .int .u32 (vl pv), .int .u32 (vl fr), .slice a n cap] 27)).alloc (.cells #[.int .i64 fk, .int .u32 (vl fa), .int .u32 (vl fb), .string FB] 29)) (w.heap.size + 2) 29 [.int .i64 fk, .int .u32 (vl fa), .int .u32 (vl fb), .string FB] from by have h := Var.new ((w.alloc (.cells #[.int .i64 gp, .int .i64 gs, .int .i64 gr] 23)).alloc (.cells #[.int .u32 (vl sq), .int .u32 (vl pv), .int .u32 (vl fr), .slice a n cap] 27)) 29 [.int .i64 fk, .int .u32 (vl fa), .int .u32 (vl fb), .string FB]; rw [show ((w.alloc (.cells #[.int .i64 gp, .int .i64 gs, .int .i64 gr] 23)).alloc (.cells #[.int .u32 (vl sq), .int .u32 (vl pv), .int .u32 (vl fr), .slice a n cap] 27)).heap.size = w.heap.size + 2 by simp] at h; exact h)); have hbel : Below w1.heap.size w1 w2 := (by rw [hw1]; exact bz); clear bz; have bw2 := Lib.hid (bel2 bw1.out hbel); have zw2 := Lib.hid hbel.size; have vw2g := Lib.hid (vw1g.out.below hbel vw1g.out.lt); have vw2x := Lib.hid (vw1x.out.below hbel vw1x.out.lt); have vw2f := Lib.hid (vw1f.out.below hbel vw1f.out.lt); have rw2P := Lib.hid (show World.ownsRow w2 w1.heap.size 29 4 (.slice (some ⟨gP, 0, none⟩) PL.length vc) (PL.length) (flatF PL) from (by rw [hw1]; exact hown)); clear hbel; clear hown))
    | (go_at_call 5; ((with_reducible refine (HAL.out _ (Batch.Tb.below HT.out bw2.out)).mono ?_); rintro e w3 ⟨rfl, bz⟩; have hbel : Below w2.heap.size w2 w3 := (by exact bz); clear bz; have bw3 := Lib.hid (bel2 bw2.out hbel); have zw3 := Lib.hid hbel.size; have vw3g := Lib.hid (vw2g.out.below hbel vw2g.out.lt); have vw3x := Lib.hid (vw2x.out.below hbel vw2x.out.lt); have vw3f := Lib.hid (vw2f.out.below hbel vw2f.out.lt); have rw3P := Lib.hid (owns_below rw2P.out hbel); clear hbel))
    | (go_at_call 6; (with_reducible refine (HPI.out _).mono ?_); rintro e wsame ⟨rfl, rfl⟩)
    | (go_at_call 6; (with_reducible refine (HPK.out _).mono ?_); rintro e wsame ⟨rfl, rfl⟩)
    | (at_builtin; go_loud (refine append_at rfl _ _ 30 rfl w3.heap.size 29 (.agg #[.int .i64 0, .int .u32 0, .int .u32 0, .string ⟨#[]⟩]) 4 32 Tryz.underlying30 infoF rfl (by decide) (.slice none 0 0) 0 [] rfl ⟨rfl, .inl ⟨rfl, rfl⟩⟩ ⟨gP, 0, none⟩ PL.length vc (flatF PL) rfl (flatF_length _) (fat_news (fat_of rw3P.out)) (flat_one _) ?c1 ?c2 ?c3 ?_; (case c1 => omega); (case c2 => (unfold maxLen; omega)); (case c3 => exact Nat.le_refl _); intro v9 w9 hown9 hgrow9 hat9; have hb9 := below_append (Below.refl w3.heap.size w3) hgrow9 (Nat.le_refl _) (fun t ht => by cases ht); rw [Nat.zero_add, List.nil_append] at hown9; with_reducible refine Exists.elim (owns_slice hown9) ?_; intro aM hh; with_reducible refine Exists.elim hh ?_; intro cM he9; clear hh; subst he9; with_reducible refine Exists.elim (fmine_some (fm_of hown9) h1) ?_; intro gM hh; have hgM := hh.1; subst hgM; clear hh; have hgB := Lib.hid (owns_block hown9 gM 0 rfl).2.2.1; have rM := Lib.hid hown9; have rP9 := Lib.hid (owns_below rw3P.out hb9); have vf9 := Lib.hid (vw3f.out.below hb9 vw3f.out.lt); have HB9 := Lib.hid (bel2 bw3.out hb9); have HW9 := Lib.hid (show w.heap.size ≤ w3.heap.size from bw3.out.size); have hcM := fm_cap (fm_of rM.out); have hglt := owns_lt' rM.out; clear hown9 hgrow9 hat9 hb9; have vf1501 := (show Var w9 (w.heap.size + 2) 29 [.int .i64 fk, .int .u32 (vl fa), .int .u32 (vl fb), .string FB] from vf9.out); have c1502 := vf1501.cell (j := 0) rfl; have c1503 := vf1501.cell (j := 1) rfl; have c1504 := vf1501.cell (j := 2) rfl; have c1505 := vf1501.cell (j := 3) rfl; clear vf1501; have k0 := owns_cell rM.out hu0; have k1 := owns_frozen rM.out (i * 4 + 3)))
    | (go_at_call 6; (with_reducible refine (HPH.out _).mono ?_); rintro e wsame ⟨rfl, rfl⟩))
  obtain ⟨wS, hwS⟩ : ∃ wS, wS = (w9.setCell ⟨gM, i * 4 + 3, none⟩ (.string FB)) := ⟨_, rfl⟩
  rw [← hwS]
  have rS := Lib.hid (show World.ownsRow wS w3.heap.size 29 4 (.slice (some ⟨gM, 0, none⟩) PL.length cM) PL.length (flatF LK) by rw [hwS, ← hset]; exact owns_set rM.out (i * 4 + 3) (.string FB))
  have bS := Lib.hid (show Below w.heap.size w wS by rw [hwS]; exact HB9.out.setCell (p := ⟨gM, i * 4 + 3, none⟩) (by have := hgB.out; have := HW9.out; simp only; omega) _)
  clear hwS k0 k1 c1502 c1503 c1504 c1505
  go_wp2_with (first
    | (go_at_call 7; ((with_reducible refine (HJ.out _ _ _ _ (Batch.Tb.below HT.out bS.out) rS.out).mono ?_); rintro e w101 ⟨vi, vj, rfl, hown, bz⟩; have hbel : Below wS.heap.size wS w101 := (by exact bz); clear bz; have bw101 := Lib.hid (bel2 bS.out hbel); have zw101 := Lib.hid hbel.size; have rw101m := Lib.hid (owns_below rS.out hbel); have rw101Q := Lib.hid (show World.ownsRow w101 wS.heap.size 44 3 (.slice vi M.length vj) (M.length) (Batch.flatW M) from hown); clear hbel; clear hown))
    | (go_at_call 8; ((with_reducible refine (HK.out _ _ _ _ (owns_below rw101m.out (Geom.bel_alloc _ _))).mono ?_); rintro e w103 ⟨vk, vl_, rfl, hown, bz⟩; obtain ⟨w102, hw102⟩ : ∃ wx, wx = (w101.alloc (.cells #[.int .u32 (vl t0), .int .u32 (vl t1), .int .u32 (vl t2), .slice vi M.length vj] 27)) := ⟨_, rfl⟩; have bw102 := Lib.hid (show Below w.heap.size w w102 by rw [hw102]; exact (bel2 bw101.out (Geom.bel_alloc _ _))); have zw102 := Lib.hid (show w101.heap.size + 1 ≤ w102.heap.size by rw [hw102]; simp); have vw102y := Lib.hid (show Var w102 (w101.heap.size) 27 [.int .u32 (vl t0), .int .u32 (vl t1), .int .u32 (vl t2), .slice vi M.length vj] by rw [hw102]; exact (Var.new w101 27 [.int .u32 (vl t0), .int .u32 (vl t1), .int .u32 (vl t2), .slice vi M.length vj])); have rw102m := Lib.hid (show World.ownsRow (w102) (w3.heap.size) 29 4 (.slice (some ⟨gM, 0, none⟩) PL.length cM) (PL.length) (flatF LK) by rw [hw102]; exact (owns_below rw101m.out (Geom.bel_alloc _ _))); have rw102Q := Lib.hid (show World.ownsRow (w102) (wS.heap.size) 44 3 (.slice vi M.length vj) (M.length) (Batch.flatW M) by rw [hw102]; exact (owns_below rw101Q.out (Geom.bel_alloc _ _))); have hbel : Below w102.heap.size w102 w103 := (by rw [hw102]; exact bz); clear bz; have bw103 := Lib.hid (bel2 bw102.out hbel); have zw103 := Lib.hid hbel.size; have vw103y := Lib.hid (vw102y.out.below hbel vw102y.out.lt); have rw103m := Lib.hid (owns_below rw102m.out hbel); have rw103Q := Lib.hid (owns_below rw102Q.out hbel); have rw103S := Lib.hid (show World.ownsRow w103 w102.heap.size 44 3 (.slice vk M.length vl_) (M.length) (Batch.flatW M) from (by rw [hw102]; exact hown)); clear hbel; clear hown; have vf2001 := (show Var w103 (w101.heap.size) 27 [.int .u32 (vl t0), .int .u32 (vl t1), .int .u32 (vl t2), .slice vi M.length vj] from vw103y.out); have c2002 := vf2001.cell (j := 0) rfl; have c2003 := vf2001.cell (j := 1) rfl; have c2004 := vf2001.cell (j := 2) rfl; have c2005 := vf2001.cell (j := 3) rfl; clear vf2001; have vf2006 := (show Var (w103.alloc (.cells #[.int .u32 (vl t0), .int .u32 (vl t1), .int .u32 (vl t2), .slice vk M.length vl_] 27)) (w101.heap.size) 27 [.int .u32 (vl t0), .int .u32 (vl t1), .int .u32 (vl t2), .slice vi M.length vj] from (vw103y.out.alloc _)); have c2007 := vf2006.cell (j := 0) rfl; have c2008 := vf2006.cell (j := 1) rfl; have c2009 := vf2006.cell (j := 2) rfl; have c2010 := vf2006.cell (j := 3) rfl; clear vf2006; have vf2011 := (show Var (w103.alloc (.cells #[.int .u32 (vl t0), .int .u32 (vl t1), .int .u32 (vl t2), .slice vk M.length vl_] 27)) (w103.heap.size) 27 [.int .u32 (vl t0), .int .u32 (vl t1), .int .u32 (vl t2), .slice vk M.length vl_] from (Var.new w103 27 [.int .u32 (vl t0), .int .u32 (vl t1), .int .u32 (vl t2), .slice vk M.length vl_])); have c2012 := vf2011.cell (j := 0) rfl; have c2013 := vf2011.cell (j := 1) rfl; have c2014 := vf2011.cell (j := 2) rfl; have c2015 := vf2011.cell (j := 3) rfl; clear vf2011))
    | (go_at_call 9; ((with_reducible refine (HSG.out _ _ _ _ _ (wat_of (owns_below rw103Q.out (Geom.bel_alloc _ _))) (wat_of (owns_below rw103S.out (Geom.bel_alloc _ _)))).mono ?_); rintro e w105 ⟨rfl, bz⟩; obtain ⟨w104, hw104⟩ : ∃ wx, wx = (w103.alloc (.cells #[.int .u32 (vl t0), .int .u32 (vl t1), .int .u32 (vl t2), .slice vk M.length vl_] 27)) := ⟨_, rfl⟩; have bw104 := Lib.hid (show Below w.heap.size w w104 by rw [hw104]; exact (bel2 bw103.out (Geom.bel_alloc _ _))); have zw104 := Lib.hid (show w103.heap.size + 1 ≤ w104.heap.size by rw [hw104]; simp); have vw104y := Lib.hid (show Var w104 (w101.heap.size) 27 [.int .u32 (vl t0), .int .u32 (vl t1), .int .u32 (vl t2), .slice vi M.length vj] by rw [hw104]; exact (vw103y.out.alloc _)); have vw104z := Lib.hid (show Var w104 (w103.heap.size) 27 [.int .u32 (vl t0), .int .u32 (vl t1), .int .u32 (vl t2), .slice vk M.length vl_] by rw [hw104]; exact (Var.new w103 27 [.int .u32 (vl t0), .int .u32 (vl t1), .int .u32 (vl t2), .slice vk M.length vl_])); have rw104m := Lib.hid (show World.ownsRow (w104) (w3.heap.size) 29 4 (.slice (some ⟨gM, 0, none⟩) PL.length cM) (PL.length) (flatF LK) by rw [hw104]; exact (owns_below rw103m.out (Geom.bel_alloc _ _))); have rw104Q := Lib.hid (show World.ownsRow (w104) (wS.heap.size) 44 3 (.slice vi M.length vj) (M.length) (Batch.flatW M) by rw [hw104]; exact (owns_below rw103Q.out (Geom.bel_alloc _ _))); have rw104S := Lib.hid (show World.ownsRow (w104) (w102.heap.size) 44 3 (.slice vk M.length vl_) (M.length) (Batch.flatW M) by rw [hw104]; exact (owns_below rw103S.out (Geom.bel_alloc _ _))); have hbel : Below w104.heap.size w104 w105 := (by rw [hw104]; exact bz); clear bz; have bw105 := Lib.hid (bel2 bw104.out hbel); have zw105 := Lib.hid hbel.size; have vw105y := Lib.hid (vw104y.out.below hbel vw104y.out.lt); have vw105z := Lib.hid (vw104z.out.below hbel vw104z.out.lt); have rw105m := Lib.hid (owns_below rw104m.out hbel); have rw105Q := Lib.hid (owns_below rw104Q.out hbel); have rw105S := Lib.hid (owns_below rw104S.out hbel); clear hbel; clear c2002 c2003 c2004 c2005 c2007 c2008 c2009 c2010 c2012 c2013 c2014 c2015)))
  go_ret
  exact ⟨rfl, bw105.out⟩
set_option maxRecDepth 100000 in
set_option maxHeartbeats 8000000 in
theorem bent_3 (gp gs gr : Int) (sq pv fr : W) (a : Option Addr) (n cap : Nat) (L : List Wr) (PL : List Fr) (how at_ to_ : Int) (fk : Int) (fa fb : W) (FB : ByteArray) (h1 : 0 < PL.length) (hfew : PL.length ≤ 1000) (i k : Nat) (hi : i < PL.length) (hk : k < PL.length) (LK : List Fr) (t0 t1 t2 : W) (M : List Wr) (c9 : Nat) (ai bi : Int) (aa ab ba bb : W) (AB BB : ByteArray) (L1 : List Fr) (hci : (flatF PL)[i * 4]? = some (.int .i64 ai) ∧ (flatF PL)[i * 4 + 1]? = some (.int .u32 (vl aa)) ∧ (flatF PL)[i * 4 + 2]? = some (.int .u32 (vl ab)) ∧ (flatF PL)[i * 4 + 3]? = some (.string AB)) (hck : (flatF PL)[k * 4]? = some (.int .i64 bi) ∧ (flatF PL)[k * 4 + 1]? = some (.int .u32 (vl ba)) ∧ (flatF PL)[k * 4 + 2]? = some (.int .u32 (vl bb)) ∧ (flatF PL)[k * 4 + 3]? = some (.string BB)) (ui : Int) (ua ub : W) (UB : ByteArray) (hc1 : (flatF L1)[k * 4]? = some (.int .i64 ui) ∧ (flatF L1)[k * 4 + 1]? = some (.int .u32 (vl ua)) ∧ (flatF L1)[k * 4 + 2]? = some (.int .u32 (vl ub)) ∧ (flatF L1)[k * 4 + 3]? = some (.string UB)) (hs1 : ((((flatF PL).set (i * 4) (.int .i64 bi)).set (i * 4 + 1) (.int .u32 (vl ba))).set (i * 4 + 2) (.int .u32 (vl bb))).set (i * 4 + 3) (.string BB) = flatF L1) (hs2 : ((((flatF L1).set (k * 4) (.int .i64 ai)).set (k * 4 + 1) (.int .u32 (vl aa))).set (k * 4 + 2) (.int .u32 (vl ab))).set (k * 4 + 3) (.string AB) = flatF LK)
    (HCT : Hid (∀ w, Tb w → WAt w a L → Calls Tryz.prog 4 #[.agg #[.int .i64 gp, .int .i64 gs, .int .i64 gr], .agg #[.int .u32 (vl sq), .int .u32 (vl pv), .int .u32 (vl fr), .slice a n cap]] w fun e w' => ∃ gP vc, e = .returned (.slice (some ⟨gP, 0, none⟩) PL.length vc) ∧ FMine w' w.heap.size (.slice (some ⟨gP, 0, none⟩) PL.length vc) PL ∧ Below w.heap.size w w'))
    (HAL : Hid (∀ w, Tb w → Calls Tryz.prog 5 #[] w fun e w' => e = .returned (.bool true) ∧ Below w.heap.size w w'))
    (HPI : Hid (∀ w, Calls Tryz.prog 6 #[.int .i64 at_, .int .i64 (PL.length : Int)] w fun e w' => e = .returned (.int .i64 (i : Int)) ∧ w = w'))
    (HPK : Hid (∀ w, Calls Tryz.prog 6 #[.int .i64 to_, .int .i64 (PL.length : Int)] w fun e w' => e = .returned (.int .i64 (k : Int)) ∧ w = w'))
    (HPH : Hid (∀ w, Calls Tryz.prog 6 #[.int .i64 how, .int .i64 7] w fun e w' => e = .returned (.int .i64 3) ∧ w = w'))
    (HJ : Hid (∀ w base a c, Tb w → w.ownsRow base 29 4 (.slice a PL.length c) PL.length (flatF LK) → Calls Tryz.prog 7 #[.slice a PL.length c] w fun e w' => ∃ va vc, e = .returned (.tuple #[.agg #[.int .u32 (vl t0), .int .u32 (vl t1), .int .u32 (vl t2), .slice va M.length vc], .int .i64 (c9 : Int)]) ∧ WMine w' w.heap.size (.slice va M.length vc) M ∧ Below w.heap.size w w'))
    (HK : Hid (∀ w base a c, w.ownsRow base 29 4 (.slice a PL.length c) PL.length (flatF LK) → Calls Tryz.prog 8 #[.slice a PL.length c] w fun e w' => ∃ va vc, e = .returned (.tuple #[.agg #[.int .u32 (vl t0), .int .u32 (vl t1), .int .u32 (vl t2), .slice va M.length vc], .int .i64 (c9 : Int)]) ∧ WMine w' w.heap.size (.slice va M.length vc) M ∧ Below w.heap.size w w'))
    (HSG : Hid (∀ w a b c d, WAt w a M → WAt w b M → Calls Tryz.prog 9 #[.agg #[.int .u32 (vl t0), .int .u32 (vl t1), .int .u32 (vl t2), .slice a M.length c], .agg #[.int .u32 (vl t0), .int .u32 (vl t1), .int .u32 (vl t2), .slice b M.length d]] w fun e w' => e = .returned (.bool true) ∧ Below w.heap.size w w')) (w : World) (HT : Hid (Tb w)) (HRW : Hid (WAt w a L)) :
    Calls Tryz.prog 3 #[.agg #[.int .i64 gp, .int .i64 gs, .int .i64 gr], .agg #[.int .u32 (vl sq), .int .u32 (vl pv), .int .u32 (vl fr), .slice a n cap], .int .i64 how, .int .i64 at_, .int .i64 to_, .agg #[.int .i64 fk, .int .u32 (vl fa), .int .u32 (vl fb), .string FB]] w fun e w' => e = .returned (.bool true) ∧ Below w.heap.size w w' := by
  have q0 : ((PL.length : Int) == 0) = false := by rw [beq_eq_false_iff_ne]; omega
  have qc : ((c9 : Int) == (c9 : Int)) = true := beq_self_eq_true _
  have hiI : (i : Int) < (PL.length : Int) := by omega
  have hkI : (k : Int) < (PL.length : Int) := by omega
  go_enter Tryz.func3, Tryz.ntmps3
  go_wp2_with (first
    | (go_at_call 4; ((with_reducible refine (HCT.out _ (Batch.Tb.below HT.out (bel2 (bel2 (Geom.bel_alloc _ _) (Geom.bel_alloc _ _)) (Geom.bel_alloc _ _))) (Batch.WAt.below HRW.out (bel2 (bel2 (Geom.bel_alloc _ _) (Geom.bel_alloc _ _)) (Geom.bel_alloc _ _)))).mono ?_); rintro e w2 ⟨gP, vc, rfl, hown, bz⟩; obtain ⟨w1, hw1⟩ : ∃ wx, wx = (((w.alloc (.cells #[.int .i64 gp, .int .i64 gs, .int .i64 gr] 23)).alloc (.cells #[.int .u32 (vl sq), .int .u32 (vl pv), .int .u32 (vl fr), .slice a n cap] 27)).alloc (.cells #[.int .i64 fk, .int .u32 (vl fa), .int .u32 (vl fb), .string FB] 29)) := ⟨_, rfl⟩; have bw1 := Lib.hid (show Below w.heap.size w w1 by rw [hw1]; exact (bel2 (bel2 (Geom.bel_alloc _ _) (Geom.bel_alloc _ _)) (Geom.bel_alloc _ _))); have zw1 := Lib.hid (show w.heap.size + 3 ≤ w1.heap.size by rw [hw1]; simp); have vw1g := Lib.hid (show Var w1 (w.heap.size) 23 [.int .i64 gp, .int .i64 gs, .int .i64 gr] by rw [hw1]; exact (((Var.new w 23 [.int .i64 gp, .int .i64 gs, .int .i64 gr]).alloc _).alloc _)); have vw1x := Lib.hid (show Var w1 (w.heap.size + 1) 27 [.int .u32 (vl sq), .int .u32 (vl pv), .int .u32 (vl fr), .slice a n cap] by rw [hw1]; exact ((show Var ((w.alloc (.cells #[.int .i64 gp, .int .i64 gs, .int .i64 gr] 23)).alloc (.cells #[.int .u32 (vl sq), .int .u32 (vl pv), .int .u32 (vl fr), .slice a n cap] 27)) (w.heap.size + 1) 27 [.int .u32 (vl sq), .int .u32 (vl pv), .int .u32 (vl fr), .slice a n cap] from by have h := Var.new (w.alloc (.cells #[.int .i64 gp, .int .i64 gs, .int .i64 gr] 23)) 27 [.int .u32 (vl sq), .int .u32 (vl pv), .int .u32 (vl fr), .slice a n cap]; rw [show (w.alloc (.cells #[.int .i64 gp, .int .i64 gs, .int .i64 gr] 23)).heap.size = w.heap.size + 1 by simp] at h; exact h).alloc _)); have vw1f := Lib.hid (show Var w1 (w.heap.size + 2) 29 [.int .i64 fk, .int .u32 (vl fa), .int .u32 (vl fb), .string FB] by rw [hw1]; exact (show Var (((w.alloc (.cells #[.int .i64 gp, .int .i64 gs, .int .i64 gr] 23)).alloc (.cells #[.int .u32 (vl sq), .int .u32 (vl pv), .int .u32 (vl fr), .slice a n cap] 27)).alloc (.cells #[.int .i64 fk, .int .u32 (vl fa), .int .u32 (vl fb), .string FB] 29)) (w.heap.size + 2) 29 [.int .i64 fk, .int .u32 (vl fa), .int .u32 (vl fb), .string FB] from by have h := Var.new ((w.alloc (.cells #[.int .i64 gp, .int .i64 gs, .int .i64 gr] 23)).alloc (.cells #[.int .u32 (vl sq), .int .u32 (vl pv), .int .u32 (vl fr), .slice a n cap] 27)) 29 [.int .i64 fk, .int .u32 (vl fa), .int .u32 (vl fb), .string FB]; rw [show ((w.alloc (.cells #[.int .i64 gp, .int .i64 gs, .int .i64 gr] 23)).alloc (.cells #[.int .u32 (vl sq), .int .u32 (vl pv), .int .u32 (vl fr), .slice a n cap] 27)).heap.size = w.heap.size + 2 by simp] at h; exact h)); have hbel : Below w1.heap.size w1 w2 := (by rw [hw1]; exact bz); clear bz; have bw2 := Lib.hid (bel2 bw1.out hbel); have zw2 := Lib.hid hbel.size; have vw2g := Lib.hid (vw1g.out.below hbel vw1g.out.lt); have vw2x := Lib.hid (vw1x.out.below hbel vw1x.out.lt); have vw2f := Lib.hid (vw1f.out.below hbel vw1f.out.lt); have rw2P := Lib.hid (show World.ownsRow w2 w1.heap.size 29 4 (.slice (some ⟨gP, 0, none⟩) PL.length vc) (PL.length) (flatF PL) from (by rw [hw1]; exact hown)); clear hbel; clear hown))
    | (go_at_call 5; ((with_reducible refine (HAL.out _ (Batch.Tb.below HT.out bw2.out)).mono ?_); rintro e w3 ⟨rfl, bz⟩; have hbel : Below w2.heap.size w2 w3 := (by exact bz); clear bz; have bw3 := Lib.hid (bel2 bw2.out hbel); have zw3 := Lib.hid hbel.size; have vw3g := Lib.hid (vw2g.out.below hbel vw2g.out.lt); have vw3x := Lib.hid (vw2x.out.below hbel vw2x.out.lt); have vw3f := Lib.hid (vw2f.out.below hbel vw2f.out.lt); have rw3P := Lib.hid (owns_below rw2P.out hbel); clear hbel))
    | (go_at_call 6; (with_reducible refine (HPI.out _).mono ?_); rintro e wsame ⟨rfl, rfl⟩)
    | (go_at_call 6; (with_reducible refine (HPK.out _).mono ?_); rintro e wsame ⟨rfl, rfl⟩)
    | (at_builtin; go_loud (refine append_at rfl _ _ 30 rfl w3.heap.size 29 (.agg #[.int .i64 0, .int .u32 0, .int .u32 0, .string ⟨#[]⟩]) 4 32 Tryz.underlying30 infoF rfl (by decide) (.slice none 0 0) 0 [] rfl ⟨rfl, .inl ⟨rfl, rfl⟩⟩ ⟨gP, 0, none⟩ PL.length vc (flatF PL) rfl (flatF_length _) (fat_news (fat_of rw3P.out)) (flat_one _) ?c1 ?c2 ?c3 ?_; (case c1 => omega); (case c2 => (unfold maxLen; omega)); (case c3 => exact Nat.le_refl _); intro v9 w9 hown9 hgrow9 hat9; have hb9 := below_append (Below.refl w3.heap.size w3) hgrow9 (Nat.le_refl _) (fun t ht => by cases ht); rw [Nat.zero_add, List.nil_append] at hown9; with_reducible refine Exists.elim (owns_slice hown9) ?_; intro aM hh; with_reducible refine Exists.elim hh ?_; intro cM he9; clear hh; subst he9; with_reducible refine Exists.elim (fmine_some (fm_of hown9) h1) ?_; intro gM hh; have hgM := hh.1; subst hgM; clear hh; have hgB := Lib.hid (owns_block hown9 gM 0 rfl).2.2.1; have rM := Lib.hid hown9; have rP9 := Lib.hid (owns_below rw3P.out hb9); have vf9 := Lib.hid (vw3f.out.below hb9 vw3f.out.lt); have HB9 := Lib.hid (bel2 bw3.out hb9); have HW9 := Lib.hid (show w.heap.size ≤ w3.heap.size from bw3.out.size); have hcM := fm_cap (fm_of rM.out); have hglt := owns_lt' rM.out; clear hown9 hgrow9 hat9 hb9; have hglt2 := hglt))
    | (go_at_call 6; (with_reducible refine (HPH.out _).mono ?_); rintro e wsame ⟨rfl, rfl⟩))
  have hgB2 := hgB.out
  refine wp_region_keepI [some 77, some 78, some 79, some 80, some 81, some 82, some 83, some 84, some 85, some 86, some 87, some 88, some 89, none, some 90, none] (fun w' => Below w3.heap.size w9 w') (VT [.slice (some ⟨gM, 0, none⟩) PL.length cM, .int .i64 (i : Int), .slice (some ⟨gM, 0, none⟩) PL.length cM, .int .i64 (k : Int), .slice (some ⟨gM, 0, none⟩) PL.length cM, .int .i64 (k : Int), .pointer (some ⟨gM, k * 4, none⟩), .agg #[.int .i64 bi, .int .u32 (vl ba), .int .u32 (vl bb), .string BB], .slice (some ⟨gM, 0, none⟩) PL.length cM, .int .i64 (i : Int), .pointer (some ⟨gM, i * 4, none⟩), .agg #[.int .i64 ai, .int .u32 (vl aa), .int .u32 (vl ab), .string AB], .pointer (some ⟨gM, i * 4, none⟩), undef, .pointer (some ⟨gM, k * 4, none⟩), undef] [(13, rowIs w3.heap.size gM PL.length cM (flatF L1)), (15, rowIs w3.heap.size gM PL.length cM (flatF LK))]) [(15, 13)] (fun w' => World.ownsRow w' w3.heap.size 29 4 (.slice (some ⟨gM, 0, none⟩) PL.length cM) PL.length (flatF PL)) [13, 15] (by kernel_rfl) (by kernel_rfl) rfl (by kernel_rfl) (by simp [slots]) (none_any [13, 15] (by kernel_rfl) (by intro i hi; simp only [List.mem_cons, List.not_mem_nil, or_false] at hi; rcases hi with rfl | rfl <;> exact ⟨_, _, rfl⟩)) (Below.refl _ _).drew rM.out ?each ?done
  case each =>
    simp only [Each4]
    refine ⟨?o0, ?o1, ?o2, ?o3, ?o4, ?o5, ?o6, ?o7, ?o8, ?o9, ?o10, ?o11, ?o12, ?o13, ?o14, ?o15, trivial⟩
    case o0 =>
      intro ys wx hBx hIx hdeps
      clear hIx
      clear hdeps
      simp only [List.getD_cons_zero, List.getD_cons_succ, slots, List.filterMap_cons, List.filterMap_nil, id, fill, List.foldl_cons, List.foldl_nil, Act.put, List.setIfInBounds_toArray, List.set_cons_succ, List.set_cons_zero]
      go_wp2_with fail
      exact ⟨_, rfl, rfl, hBx, vt_keep (Below.refl _ _), fun _ h => h⟩
    case o1 =>
      intro ys wx hBx hIx hdeps
      clear hIx
      clear hdeps
      simp only [List.getD_cons_zero, List.getD_cons_succ, slots, List.filterMap_cons, List.filterMap_nil, id, fill, List.foldl_cons, List.foldl_nil, Act.put, List.setIfInBounds_toArray, List.set_cons_succ, List.set_cons_zero]
      go_wp2_with fail
      exact ⟨_, rfl, rfl, hBx, vt_keep (Below.refl _ _), fun _ h => h⟩
    case o2 =>
      intro ys wx hBx hIx hdeps
      clear hIx
      clear hdeps
      simp only [List.getD_cons_zero, List.getD_cons_succ, slots, List.filterMap_cons, List.filterMap_nil, id, fill, List.foldl_cons, List.foldl_nil, Act.put, List.setIfInBounds_toArray, List.set_cons_succ, List.set_cons_zero]
      go_wp2_with fail
      exact ⟨_, rfl, rfl, hBx, vt_keep (Below.refl _ _), fun _ h => h⟩
    case o3 =>
      intro ys wx hBx hIx hdeps
      clear hIx
      clear hdeps
      simp only [List.getD_cons_zero, List.getD_cons_succ, slots, List.filterMap_cons, List.filterMap_nil, id, fill, List.foldl_cons, List.foldl_nil, Act.put, List.setIfInBounds_toArray, List.set_cons_succ, List.set_cons_zero]
      go_wp2_with fail
      exact ⟨_, rfl, rfl, hBx, vt_keep (Below.refl _ _), fun _ h => h⟩
    case o4 =>
      intro ys wx hBx hIx hdeps
      clear hIx
      clear hdeps
      simp only [List.getD_cons_zero, List.getD_cons_succ, slots, List.filterMap_cons, List.filterMap_nil, id, fill, List.foldl_cons, List.foldl_nil, Act.put, List.setIfInBounds_toArray, List.set_cons_succ, List.set_cons_zero]
      go_wp2_with fail
      exact ⟨_, rfl, rfl, hBx, vt_keep (Below.refl _ _), fun _ h => h⟩
    case o5 =>
      intro ys wx hBx hIx hdeps
      clear hIx
      clear hdeps
      simp only [List.getD_cons_zero, List.getD_cons_succ, slots, List.filterMap_cons, List.filterMap_nil, id, fill, List.foldl_cons, List.foldl_nil, Act.put, List.setIfInBounds_toArray, List.set_cons_succ, List.set_cons_zero]
      go_wp2_with fail
      exact ⟨_, rfl, rfl, hBx, vt_keep (Below.refl _ _), fun _ h => h⟩
    case o6 =>
      intro ys wx hBx hIx hdeps
      clear hIx
      simp only [Deps3] at hdeps
      have y4 : ys 81 = .slice (some ⟨gM, 0, none⟩) PL.length cM := by first | exact hdeps.1 rfl | exact hdeps.2.1 rfl | exact hdeps.2.2.1 rfl | exact hdeps.2.2.2.1 rfl
      have y5 : ys 82 = .int .i64 (k : Int) := by first | exact hdeps.1 rfl | exact hdeps.2.1 rfl | exact hdeps.2.2.1 rfl | exact hdeps.2.2.2.1 rfl
      clear hdeps
      simp only [y4, y5, List.getD_cons_zero, List.getD_cons_succ, slots, List.filterMap_cons, List.filterMap_nil, id, fill, List.foldl_cons, List.foldl_nil, Act.put, List.setIfInBounds_toArray, List.set_cons_succ, List.set_cons_zero]
      go_wp2_with fail
      exact ⟨_, rfl, rfl, hBx, vt_keep (Below.refl _ _), fun _ h => h⟩
    case o7 =>
      intro ys wx hBx hIx hdeps
      have zI : World.ownsRow wx w3.heap.size 29 4 (.slice (some ⟨gM, 0, none⟩) PL.length cM) PL.length (flatF PL) := hIx (by kernel_rfl)
      clear hIx
      simp only [Deps3] at hdeps
      have y6 : ys 83 = .pointer (some ⟨gM, k * 4, none⟩) := by first | exact hdeps.1 rfl | exact hdeps.2.1 rfl | exact hdeps.2.2.1 rfl
      clear hdeps
      have k0 := owns_cell zI hck.1
      have k1 := owns_cell zI hck.2.1
      have k2 := owns_cell zI hck.2.2.1
      have k3 := owns_cell zI hck.2.2.2
      simp only [y6, List.getD_cons_zero, List.getD_cons_succ, slots, List.filterMap_cons, List.filterMap_nil, id, fill, List.foldl_cons, List.foldl_nil, Act.put, List.setIfInBounds_toArray, List.set_cons_succ, List.set_cons_zero]
      go_wp2_with fail
      exact ⟨_, rfl, rfl, hBx, vt_keep (Below.refl _ _), fun _ h => h⟩
    case o8 =>
      intro ys wx hBx hIx hdeps
      clear hIx
      clear hdeps
      simp only [List.getD_cons_zero, List.getD_cons_succ, slots, List.filterMap_cons, List.filterMap_nil, id, fill, List.foldl_cons, List.foldl_nil, Act.put, List.setIfInBounds_toArray, List.set_cons_succ, List.set_cons_zero]
      go_wp2_with fail
      exact ⟨_, rfl, rfl, hBx, vt_keep (Below.refl _ _), fun _ h => h⟩
    case o9 =>
      intro ys wx hBx hIx hdeps
      clear hIx
      clear hdeps
      simp only [List.getD_cons_zero, List.getD_cons_succ, slots, List.filterMap_cons, List.filterMap_nil, id, fill, List.foldl_cons, List.foldl_nil, Act.put, List.setIfInBounds_toArray, List.set_cons_succ, List.set_cons_zero]
      go_wp2_with fail
      exact ⟨_, rfl, rfl, hBx, vt_keep (Below.refl _ _), fun _ h => h⟩
    case o10 =>
      intro ys wx hBx hIx hdeps
      clear hIx
      simp only [Deps3] at hdeps
      have y8 : ys 85 = .slice (some ⟨gM, 0, none⟩) PL.length cM := by first | exact hdeps.1 rfl | exact hdeps.2.1 rfl | exact hdeps.2.2.1 rfl | exact hdeps.2.2.2.1 rfl
      have y9 : ys 86 = .int .i64 (i : Int) := by first | exact hdeps.1 rfl | exact hdeps.2.1 rfl | exact hdeps.2.2.1 rfl | exact hdeps.2.2.2.1 rfl
      clear hdeps
      simp only [y8, y9, List.getD_cons_zero, List.getD_cons_succ, slots, List.filterMap_cons, List.filterMap_nil, id, fill, List.foldl_cons, List.foldl_nil, Act.put, List.setIfInBounds_toArray, List.set_cons_succ, List.set_cons_zero]
      go_wp2_with fail
      exact ⟨_, rfl, rfl, hBx, vt_keep (Below.refl _ _), fun _ h => h⟩
    case o11 =>
      intro ys wx hBx hIx hdeps
      have zI : World.ownsRow wx w3.heap.size 29 4 (.slice (some ⟨gM, 0, none⟩) PL.length cM) PL.length (flatF PL) := hIx (by kernel_rfl)
      clear hIx
      simp only [Deps3] at hdeps
      have y10 : ys 87 = .pointer (some ⟨gM, i * 4, none⟩) := by first | exact hdeps.1 rfl | exact hdeps.2.1 rfl | exact hdeps.2.2.1 rfl
      clear hdeps
      have k0 := owns_cell zI hci.1
      have k1 := owns_cell zI hci.2.1
      have k2 := owns_cell zI hci.2.2.1
      have k3 := owns_cell zI hci.2.2.2
      simp only [y10, List.getD_cons_zero, List.getD_cons_succ, slots, List.filterMap_cons, List.filterMap_nil, id, fill, List.foldl_cons, List.foldl_nil, Act.put, List.setIfInBounds_toArray, List.set_cons_succ, List.set_cons_zero]
      go_wp2_with fail
      exact ⟨_, rfl, rfl, hBx, vt_keep (Below.refl _ _), fun _ h => h⟩
    case o12 =>
      intro ys wx hBx hIx hdeps
      clear hIx
      simp only [Deps3] at hdeps
      have y0 : ys 77 = .slice (some ⟨gM, 0, none⟩) PL.length cM := by first | exact hdeps.1 rfl | exact hdeps.2.1 rfl | exact hdeps.2.2.1 rfl | exact hdeps.2.2.2.1 rfl
      have y1 : ys 78 = .int .i64 (i : Int) := by first | exact hdeps.1 rfl | exact hdeps.2.1 rfl | exact hdeps.2.2.1 rfl | exact hdeps.2.2.2.1 rfl
      clear hdeps
      simp only [y0, y1, List.getD_cons_zero, List.getD_cons_succ, slots, List.filterMap_cons, List.filterMap_nil, id, fill, List.foldl_cons, List.foldl_nil, Act.put, List.setIfInBounds_toArray, List.set_cons_succ, List.set_cons_zero]
      go_wp2_with fail
      exact ⟨_, rfl, rfl, hBx, vt_keep (Below.refl _ _), fun _ h => h⟩
    case o13 =>
      intro ys wx hBx hIx hdeps
      have zI : World.ownsRow wx w3.heap.size 29 4 (.slice (some ⟨gM, 0, none⟩) PL.length cM) PL.length (flatF PL) := hIx (by kernel_rfl)
      clear hIx
      simp only [Deps3] at hdeps
      have y12 : ys 89 = .pointer (some ⟨gM, i * 4, none⟩) := by first | exact hdeps.1 rfl | exact hdeps.2.1 rfl | exact hdeps.2.2.1 rfl | exact hdeps.2.2.2.1 rfl
      have y7 : ys 84 = .agg #[.int .i64 bi, .int .u32 (vl ba), .int .u32 (vl bb), .string BB] := by first | exact hdeps.1 rfl | exact hdeps.2.1 rfl | exact hdeps.2.2.1 rfl | exact hdeps.2.2.2.1 rfl
      clear hdeps
      have k0 := owns_cell zI hci.1
      have k1 := owns_cell zI hci.2.1
      have k2 := owns_cell zI hci.2.2.1
      have k3 := owns_cell zI hci.2.2.2
      have f0 := owns_frozen zI (i * 4)
      have f1 := owns_frozen zI (i * 4 + 1)
      have f2 := owns_frozen zI (i * 4 + 2)
      have f3 := owns_frozen zI (i * 4 + 3)
      simp only [y12, y7, List.getD_cons_zero, List.getD_cons_succ, slots, List.filterMap_cons, List.filterMap_nil, id, fill, List.foldl_cons, List.foldl_nil, Act.put, List.setIfInBounds_toArray, List.set_cons_succ, List.set_cons_zero]
      go_wp2_with fail
      refine ⟨undef, rfl, (show World.ownsRow _ _ _ _ _ _ (flatF L1) from (by rw [← hs1]; exact (owns_set (owns_set (owns_set (owns_set zI (i * 4) (.int .i64 bi)) (i * 4 + 1) (.int .u32 (vl ba))) (i * 4 + 2) (.int .u32 (vl bb))) (i * 4 + 3) (.string BB)))), ((((hBx.setCell (p := ⟨gM, i * 4, none⟩) hgB2 (.int .i64 bi)).setCell (p := ⟨gM, i * 4 + 1, none⟩) hgB2 (.int .u32 (vl ba))).setCell (p := ⟨gM, i * 4 + 2, none⟩) hgB2 (.int .u32 (vl bb))).setCell (p := ⟨gM, i * 4 + 3, none⟩) hgB2 (.string BB)), vt_keeps' ?_, fun h => absurd (by simp) h⟩
      intro x hx hne hkl hwt u hu
      simp only [List.mem_cons, List.not_mem_nil, or_false] at hx
      rcases hx with rfl | rfl
      · exact absurd rfl hne
      · cases hwt.symm.trans (show Go.Proofs.YtligapgjdpdihaaGreatDoor.Region.waits _ 15 13 = true from (by kernel_rfl))
    case o14 =>
      intro ys wx hBx hIx hdeps
      clear hIx
      simp only [Deps3] at hdeps
      have y2 : ys 79 = .slice (some ⟨gM, 0, none⟩) PL.length cM := by first | exact hdeps.1 rfl | exact hdeps.2.1 rfl | exact hdeps.2.2.1 rfl | exact hdeps.2.2.2.1 rfl
      have y3 : ys 80 = .int .i64 (k : Int) := by first | exact hdeps.1 rfl | exact hdeps.2.1 rfl | exact hdeps.2.2.1 rfl | exact hdeps.2.2.2.1 rfl
      clear hdeps
      simp only [y2, y3, List.getD_cons_zero, List.getD_cons_succ, slots, List.filterMap_cons, List.filterMap_nil, id, fill, List.foldl_cons, List.foldl_nil, Act.put, List.setIfInBounds_toArray, List.set_cons_succ, List.set_cons_zero]
      go_wp2_with fail
      exact ⟨_, rfl, rfl, hBx, vt_keep (Below.refl _ _), fun _ h => h⟩
    case o15 =>
      intro ys wx hBx hIx hdeps
      clear hIx
      simp only [Deps3] at hdeps
      have y14 : ys 90 = .pointer (some ⟨gM, k * 4, none⟩) := by first | exact hdeps.1 rfl | exact hdeps.2.1 rfl | exact hdeps.2.2.1 rfl | exact hdeps.2.2.2.1 rfl | exact hdeps.2.2.2.2.1 rfl
      have y11 : ys 88 = .agg #[.int .i64 ai, .int .u32 (vl aa), .int .u32 (vl ab), .string AB] := by first | exact hdeps.1 rfl | exact hdeps.2.1 rfl | exact hdeps.2.2.1 rfl | exact hdeps.2.2.2.1 rfl | exact hdeps.2.2.2.2.1 rfl
      have z13 : World.ownsRow wx w3.heap.size 29 4 (.slice (some ⟨gM, 0, none⟩) PL.length cM) PL.length (flatF L1) := by first | exact hdeps.1 rfl | exact hdeps.2.1 rfl | exact hdeps.2.2.1 rfl | exact hdeps.2.2.2.1 rfl | exact hdeps.2.2.2.2.1 rfl
      clear hdeps
      have k0 := owns_cell z13 hc1.1
      have k1 := owns_cell z13 hc1.2.1
      have k2 := owns_cell z13 hc1.2.2.1
      have k3 := owns_cell z13 hc1.2.2.2
      have f0 := owns_frozen z13 (k * 4)
      have f1 := owns_frozen z13 (k * 4 + 1)
      have f2 := owns_frozen z13 (k * 4 + 2)
      have f3 := owns_frozen z13 (k * 4 + 3)
      simp only [y14, y11, List.getD_cons_zero, List.getD_cons_succ, slots, List.filterMap_cons, List.filterMap_nil, id, fill, List.foldl_cons, List.foldl_nil, Act.put, List.setIfInBounds_toArray, List.set_cons_succ, List.set_cons_zero]
      go_wp2_with fail
      refine ⟨undef, rfl, (show World.ownsRow _ _ _ _ _ _ (flatF LK) from (by rw [← hs2]; exact (owns_set (owns_set (owns_set (owns_set z13 (k * 4) (.int .i64 ai)) (k * 4 + 1) (.int .u32 (vl aa))) (k * 4 + 2) (.int .u32 (vl ab))) (k * 4 + 3) (.string AB)))), ((((hBx.setCell (p := ⟨gM, k * 4, none⟩) hgB2 (.int .i64 ai)).setCell (p := ⟨gM, k * 4 + 1, none⟩) hgB2 (.int .u32 (vl aa))).setCell (p := ⟨gM, k * 4 + 2, none⟩) hgB2 (.int .u32 (vl ab))).setCell (p := ⟨gM, k * 4 + 3, none⟩) hgB2 (.string AB)), vt_keeps' ?_, fun h => absurd (by simp) h⟩
      intro x hx hne hkl hwt u hu
      simp only [List.mem_cons, List.not_mem_nil, or_false] at hx
      rcases hx with rfl | rfl
      · exact absurd (by simp) hkl
      · exact absurd rfl hne
  case done =>
    intro ys wS hBx hV
    have rS := Lib.hid (show World.ownsRow wS w3.heap.size 29 4 (.slice (some ⟨gM, 0, none⟩) PL.length cM) PL.length (flatF LK) from hV 15 (by decide) (by decide))
    have bS := Lib.hid (HB9.out.trans (hBx.mono HW9.out))
    clear hBx hV
    simp only [slots, List.filterMap_cons, List.filterMap_nil, id, fill, List.drop_succ_cons, List.drop_zero, List.foldl_cons, List.foldl_nil, Act.put, List.setIfInBounds_toArray, List.set_cons_succ, List.set_cons_zero]
    go_wp2_with (first
    | (go_at_call 7; ((with_reducible refine (HJ.out _ _ _ _ (Batch.Tb.below HT.out bS.out) rS.out).mono ?_); rintro e w101 ⟨vi, vj, rfl, hown, bz⟩; have hbel : Below wS.heap.size wS w101 := (by exact bz); clear bz; have bw101 := Lib.hid (bel2 bS.out hbel); have zw101 := Lib.hid hbel.size; have rw101m := Lib.hid (owns_below rS.out hbel); have rw101Q := Lib.hid (show World.ownsRow w101 wS.heap.size 44 3 (.slice vi M.length vj) (M.length) (Batch.flatW M) from hown); clear hbel; clear hown))
    | (go_at_call 8; ((with_reducible refine (HK.out _ _ _ _ (owns_below rw101m.out (Geom.bel_alloc _ _))).mono ?_); rintro e w103 ⟨vk, vl_, rfl, hown, bz⟩; obtain ⟨w102, hw102⟩ : ∃ wx, wx = (w101.alloc (.cells #[.int .u32 (vl t0), .int .u32 (vl t1), .int .u32 (vl t2), .slice vi M.length vj] 27)) := ⟨_, rfl⟩; have bw102 := Lib.hid (show Below w.heap.size w w102 by rw [hw102]; exact (bel2 bw101.out (Geom.bel_alloc _ _))); have zw102 := Lib.hid (show w101.heap.size + 1 ≤ w102.heap.size by rw [hw102]; simp); have vw102y := Lib.hid (show Var w102 (w101.heap.size) 27 [.int .u32 (vl t0), .int .u32 (vl t1), .int .u32 (vl t2), .slice vi M.length vj] by rw [hw102]; exact (Var.new w101 27 [.int .u32 (vl t0), .int .u32 (vl t1), .int .u32 (vl t2), .slice vi M.length vj])); have rw102m := Lib.hid (show World.ownsRow (w102) (w3.heap.size) 29 4 (.slice (some ⟨gM, 0, none⟩) PL.length cM) (PL.length) (flatF LK) by rw [hw102]; exact (owns_below rw101m.out (Geom.bel_alloc _ _))); have rw102Q := Lib.hid (show World.ownsRow (w102) (wS.heap.size) 44 3 (.slice vi M.length vj) (M.length) (Batch.flatW M) by rw [hw102]; exact (owns_below rw101Q.out (Geom.bel_alloc _ _))); have hbel : Below w102.heap.size w102 w103 := (by rw [hw102]; exact bz); clear bz; have bw103 := Lib.hid (bel2 bw102.out hbel); have zw103 := Lib.hid hbel.size; have vw103y := Lib.hid (vw102y.out.below hbel vw102y.out.lt); have rw103m := Lib.hid (owns_below rw102m.out hbel); have rw103Q := Lib.hid (owns_below rw102Q.out hbel); have rw103S := Lib.hid (show World.ownsRow w103 w102.heap.size 44 3 (.slice vk M.length vl_) (M.length) (Batch.flatW M) from (by rw [hw102]; exact hown)); clear hbel; clear hown; have vf2001 := (show Var w103 (w101.heap.size) 27 [.int .u32 (vl t0), .int .u32 (vl t1), .int .u32 (vl t2), .slice vi M.length vj] from vw103y.out); have c2002 := vf2001.cell (j := 0) rfl; have c2003 := vf2001.cell (j := 1) rfl; have c2004 := vf2001.cell (j := 2) rfl; have c2005 := vf2001.cell (j := 3) rfl; clear vf2001; have vf2006 := (show Var (w103.alloc (.cells #[.int .u32 (vl t0), .int .u32 (vl t1), .int .u32 (vl t2), .slice vk M.length vl_] 27)) (w101.heap.size) 27 [.int .u32 (vl t0), .int .u32 (vl t1), .int .u32 (vl t2), .slice vi M.length vj] from (vw103y.out.alloc _)); have c2007 := vf2006.cell (j := 0) rfl; have c2008 := vf2006.cell (j := 1) rfl; have c2009 := vf2006.cell (j := 2) rfl; have c2010 := vf2006.cell (j := 3) rfl; clear vf2006; have vf2011 := (show Var (w103.alloc (.cells #[.int .u32 (vl t0), .int .u32 (vl t1), .int .u32 (vl t2), .slice vk M.length vl_] 27)) (w103.heap.size) 27 [.int .u32 (vl t0), .int .u32 (vl t1), .int .u32 (vl t2), .slice vk M.length vl_] from (Var.new w103 27 [.int .u32 (vl t0), .int .u32 (vl t1), .int .u32 (vl t2), .slice vk M.length vl_])); have c2012 := vf2011.cell (j := 0) rfl; have c2013 := vf2011.cell (j := 1) rfl; have c2014 := vf2011.cell (j := 2) rfl; have c2015 := vf2011.cell (j := 3) rfl; clear vf2011))
    | (go_at_call 9; ((with_reducible refine (HSG.out _ _ _ _ _ (wat_of (owns_below rw103Q.out (Geom.bel_alloc _ _))) (wat_of (owns_below rw103S.out (Geom.bel_alloc _ _)))).mono ?_); rintro e w105 ⟨rfl, bz⟩; obtain ⟨w104, hw104⟩ : ∃ wx, wx = (w103.alloc (.cells #[.int .u32 (vl t0), .int .u32 (vl t1), .int .u32 (vl t2), .slice vk M.length vl_] 27)) := ⟨_, rfl⟩; have bw104 := Lib.hid (show Below w.heap.size w w104 by rw [hw104]; exact (bel2 bw103.out (Geom.bel_alloc _ _))); have zw104 := Lib.hid (show w103.heap.size + 1 ≤ w104.heap.size by rw [hw104]; simp); have vw104y := Lib.hid (show Var w104 (w101.heap.size) 27 [.int .u32 (vl t0), .int .u32 (vl t1), .int .u32 (vl t2), .slice vi M.length vj] by rw [hw104]; exact (vw103y.out.alloc _)); have vw104z := Lib.hid (show Var w104 (w103.heap.size) 27 [.int .u32 (vl t0), .int .u32 (vl t1), .int .u32 (vl t2), .slice vk M.length vl_] by rw [hw104]; exact (Var.new w103 27 [.int .u32 (vl t0), .int .u32 (vl t1), .int .u32 (vl t2), .slice vk M.length vl_])); have rw104m := Lib.hid (show World.ownsRow (w104) (w3.heap.size) 29 4 (.slice (some ⟨gM, 0, none⟩) PL.length cM) (PL.length) (flatF LK) by rw [hw104]; exact (owns_below rw103m.out (Geom.bel_alloc _ _))); have rw104Q := Lib.hid (show World.ownsRow (w104) (wS.heap.size) 44 3 (.slice vi M.length vj) (M.length) (Batch.flatW M) by rw [hw104]; exact (owns_below rw103Q.out (Geom.bel_alloc _ _))); have rw104S := Lib.hid (show World.ownsRow (w104) (w102.heap.size) 44 3 (.slice vk M.length vl_) (M.length) (Batch.flatW M) by rw [hw104]; exact (owns_below rw103S.out (Geom.bel_alloc _ _))); have hbel : Below w104.heap.size w104 w105 := (by rw [hw104]; exact bz); clear bz; have bw105 := Lib.hid (bel2 bw104.out hbel); have zw105 := Lib.hid hbel.size; have vw105y := Lib.hid (vw104y.out.below hbel vw104y.out.lt); have vw105z := Lib.hid (vw104z.out.below hbel vw104z.out.lt); have rw105m := Lib.hid (owns_below rw104m.out hbel); have rw105Q := Lib.hid (owns_below rw104Q.out hbel); have rw105S := Lib.hid (owns_below rw104S.out hbel); clear hbel; clear c2002 c2003 c2004 c2005 c2007 c2008 c2009 c2010 c2012 c2013 c2014 c2015)))
    go_ret
    exact ⟨rfl, bw105.out⟩
set_option maxRecDepth 100000 in
set_option maxHeartbeats 8000000 in
theorem bent_4 (gp gs gr : Int) (sq pv fr : W) (a : Option Addr) (n cap : Nat) (L : List Wr) (PL : List Fr) (how at_ to_ : Int) (fk : Int) (fa fb : W) (FB : ByteArray) (h1 : 0 < PL.length) (hfew : PL.length ≤ 1000) (i k : Nat) (hi : i < PL.length) (hk : k < PL.length) (LK : List Fr) (t0 t1 t2 : W) (M : List Wr) (c9 : Nat) (hLK : LK = PL.take i ++ PL.drop (i + 1)) (hKl : LK.length + 1 = PL.length)
    (HCT : Hid (∀ w, Tb w → WAt w a L → Calls Tryz.prog 4 #[.agg #[.int .i64 gp, .int .i64 gs, .int .i64 gr], .agg #[.int .u32 (vl sq), .int .u32 (vl pv), .int .u32 (vl fr), .slice a n cap]] w fun e w' => ∃ gP vc, e = .returned (.slice (some ⟨gP, 0, none⟩) PL.length vc) ∧ FMine w' w.heap.size (.slice (some ⟨gP, 0, none⟩) PL.length vc) PL ∧ Below w.heap.size w w'))
    (HAL : Hid (∀ w, Tb w → Calls Tryz.prog 5 #[] w fun e w' => e = .returned (.bool true) ∧ Below w.heap.size w w'))
    (HPI : Hid (∀ w, Calls Tryz.prog 6 #[.int .i64 at_, .int .i64 (PL.length : Int)] w fun e w' => e = .returned (.int .i64 (i : Int)) ∧ w = w'))
    (HPK : Hid (∀ w, Calls Tryz.prog 6 #[.int .i64 to_, .int .i64 (PL.length : Int)] w fun e w' => e = .returned (.int .i64 (k : Int)) ∧ w = w'))
    (HPH : Hid (∀ w, Calls Tryz.prog 6 #[.int .i64 how, .int .i64 7] w fun e w' => e = .returned (.int .i64 4) ∧ w = w'))
    (HJ : Hid (∀ w base a c, Tb w → w.ownsRow base 29 4 (.slice a LK.length c) LK.length (flatF LK) → Calls Tryz.prog 7 #[.slice a LK.length c] w fun e w' => ∃ va vc, e = .returned (.tuple #[.agg #[.int .u32 (vl t0), .int .u32 (vl t1), .int .u32 (vl t2), .slice va M.length vc], .int .i64 (c9 : Int)]) ∧ WMine w' w.heap.size (.slice va M.length vc) M ∧ Below w.heap.size w w'))
    (HK : Hid (∀ w base a c, w.ownsRow base 29 4 (.slice a LK.length c) LK.length (flatF LK) → Calls Tryz.prog 8 #[.slice a LK.length c] w fun e w' => ∃ va vc, e = .returned (.tuple #[.agg #[.int .u32 (vl t0), .int .u32 (vl t1), .int .u32 (vl t2), .slice va M.length vc], .int .i64 (c9 : Int)]) ∧ WMine w' w.heap.size (.slice va M.length vc) M ∧ Below w.heap.size w w'))
    (HSG : Hid (∀ w a b c d, WAt w a M → WAt w b M → Calls Tryz.prog 9 #[.agg #[.int .u32 (vl t0), .int .u32 (vl t1), .int .u32 (vl t2), .slice a M.length c], .agg #[.int .u32 (vl t0), .int .u32 (vl t1), .int .u32 (vl t2), .slice b M.length d]] w fun e w' => e = .returned (.bool true) ∧ Below w.heap.size w w')) (w : World) (HT : Hid (Tb w)) (HRW : Hid (WAt w a L)) :
    Calls Tryz.prog 3 #[.agg #[.int .i64 gp, .int .i64 gs, .int .i64 gr], .agg #[.int .u32 (vl sq), .int .u32 (vl pv), .int .u32 (vl fr), .slice a n cap], .int .i64 how, .int .i64 at_, .int .i64 to_, .agg #[.int .i64 fk, .int .u32 (vl fa), .int .u32 (vl fb), .string FB]] w fun e w' => e = .returned (.bool true) ∧ Below w.heap.size w w' := by
  have q0 : ((PL.length : Int) == 0) = false := by rw [beq_eq_false_iff_ne]; omega
  have qc : ((c9 : Int) == (c9 : Int)) = true := beq_self_eq_true _
  have hiI : (i : Int) < (PL.length : Int) := by omega
  have hkI : (k : Int) < (PL.length : Int) := by omega
  go_enter Tryz.func3, Tryz.ntmps3
  go_wp2_with (first
    | (go_at_call 4; ((with_reducible refine (HCT.out _ (Batch.Tb.below HT.out (bel2 (bel2 (Geom.bel_alloc _ _) (Geom.bel_alloc _ _)) (Geom.bel_alloc _ _))) (Batch.WAt.below HRW.out (bel2 (bel2 (Geom.bel_alloc _ _) (Geom.bel_alloc _ _)) (Geom.bel_alloc _ _)))).mono ?_); rintro e w2 ⟨gP, vc, rfl, hown, bz⟩; obtain ⟨w1, hw1⟩ : ∃ wx, wx = (((w.alloc (.cells #[.int .i64 gp, .int .i64 gs, .int .i64 gr] 23)).alloc (.cells #[.int .u32 (vl sq), .int .u32 (vl pv), .int .u32 (vl fr), .slice a n cap] 27)).alloc (.cells #[.int .i64 fk, .int .u32 (vl fa), .int .u32 (vl fb), .string FB] 29)) := ⟨_, rfl⟩; have bw1 := Lib.hid (show Below w.heap.size w w1 by rw [hw1]; exact (bel2 (bel2 (Geom.bel_alloc _ _) (Geom.bel_alloc _ _)) (Geom.bel_alloc _ _))); have zw1 := Lib.hid (show w.heap.size + 3 ≤ w1.heap.size by rw [hw1]; simp); have vw1g := Lib.hid (show Var w1 (w.heap.size) 23 [.int .i64 gp, .int .i64 gs, .int .i64 gr] by rw [hw1]; exact (((Var.new w 23 [.int .i64 gp, .int .i64 gs, .int .i64 gr]).alloc _).alloc _)); have vw1x := Lib.hid (show Var w1 (w.heap.size + 1) 27 [.int .u32 (vl sq), .int .u32 (vl pv), .int .u32 (vl fr), .slice a n cap] by rw [hw1]; exact ((show Var ((w.alloc (.cells #[.int .i64 gp, .int .i64 gs, .int .i64 gr] 23)).alloc (.cells #[.int .u32 (vl sq), .int .u32 (vl pv), .int .u32 (vl fr), .slice a n cap] 27)) (w.heap.size + 1) 27 [.int .u32 (vl sq), .int .u32 (vl pv), .int .u32 (vl fr), .slice a n cap] from by have h := Var.new (w.alloc (.cells #[.int .i64 gp, .int .i64 gs, .int .i64 gr] 23)) 27 [.int .u32 (vl sq), .int .u32 (vl pv), .int .u32 (vl fr), .slice a n cap]; rw [show (w.alloc (.cells #[.int .i64 gp, .int .i64 gs, .int .i64 gr] 23)).heap.size = w.heap.size + 1 by simp] at h; exact h).alloc _)); have vw1f := Lib.hid (show Var w1 (w.heap.size + 2) 29 [.int .i64 fk, .int .u32 (vl fa), .int .u32 (vl fb), .string FB] by rw [hw1]; exact (show Var (((w.alloc (.cells #[.int .i64 gp, .int .i64 gs, .int .i64 gr] 23)).alloc (.cells #[.int .u32 (vl sq), .int .u32 (vl pv), .int .u32 (vl fr), .slice a n cap] 27)).alloc (.cells #[.int .i64 fk, .int .u32 (vl fa), .int .u32 (vl fb), .string FB] 29)) (w.heap.size + 2) 29 [.int .i64 fk, .int .u32 (vl fa), .int .u32 (vl fb), .string FB] from by have h := Var.new ((w.alloc (.cells #[.int .i64 gp, .int .i64 gs, .int .i64 gr] 23)).alloc (.cells #[.int .u32 (vl sq), .int .u32 (vl pv), .int .u32 (vl fr), .slice a n cap] 27)) 29 [.int .i64 fk, .int .u32 (vl fa), .int .u32 (vl fb), .string FB]; rw [show ((w.alloc (.cells #[.int .i64 gp, .int .i64 gs, .int .i64 gr] 23)).alloc (.cells #[.int .u32 (vl sq), .int .u32 (vl pv), .int .u32 (vl fr), .slice a n cap] 27)).heap.size = w.heap.size + 2 by simp] at h; exact h)); have hbel : Below w1.heap.size w1 w2 := (by rw [hw1]; exact bz); clear bz; have bw2 := Lib.hid (bel2 bw1.out hbel); have zw2 := Lib.hid hbel.size; have vw2g := Lib.hid (vw1g.out.below hbel vw1g.out.lt); have vw2x := Lib.hid (vw1x.out.below hbel vw1x.out.lt); have vw2f := Lib.hid (vw1f.out.below hbel vw1f.out.lt); have rw2P := Lib.hid (show World.ownsRow w2 w1.heap.size 29 4 (.slice (some ⟨gP, 0, none⟩) PL.length vc) (PL.length) (flatF PL) from (by rw [hw1]; exact hown)); clear hbel; clear hown))
    | (go_at_call 5; ((with_reducible refine (HAL.out _ (Batch.Tb.below HT.out bw2.out)).mono ?_); rintro e w3 ⟨rfl, bz⟩; have hbel : Below w2.heap.size w2 w3 := (by exact bz); clear bz; have bw3 := Lib.hid (bel2 bw2.out hbel); have zw3 := Lib.hid hbel.size; have vw3g := Lib.hid (vw2g.out.below hbel vw2g.out.lt); have vw3x := Lib.hid (vw2x.out.below hbel vw2x.out.lt); have vw3f := Lib.hid (vw2f.out.below hbel vw2f.out.lt); have rw3P := Lib.hid (owns_below rw2P.out hbel); clear hbel))
    | (go_at_call 6; (with_reducible refine (HPI.out _).mono ?_); rintro e wsame ⟨rfl, rfl⟩)
    | (go_at_call 6; (with_reducible refine (HPK.out _).mono ?_); rintro e wsame ⟨rfl, rfl⟩)
    | (at_builtin; go_loud (refine append_at rfl _ _ 30 rfl w3.heap.size 29 (.agg #[.int .i64 0, .int .u32 0, .int .u32 0, .string ⟨#[]⟩]) 4 32 Tryz.underlying30 infoF rfl (by decide) (.slice none 0 0) 0 [] rfl ⟨rfl, .inl ⟨rfl, rfl⟩⟩ ⟨gP, 0, none⟩ PL.length vc (flatF PL) rfl (flatF_length _) (fat_news (fat_of rw3P.out)) (flat_one _) ?c1 ?c2 ?c3 ?_; (case c1 => omega); (case c2 => (unfold maxLen; omega)); (case c3 => exact Nat.le_refl _); intro v9 w9 hown9 hgrow9 hat9; have hb9 := below_append (Below.refl w3.heap.size w3) hgrow9 (Nat.le_refl _) (fun t ht => by cases ht); rw [Nat.zero_add, List.nil_append] at hown9; with_reducible refine Exists.elim (owns_slice hown9) ?_; intro aM hh; with_reducible refine Exists.elim hh ?_; intro cM he9; clear hh; subst he9; with_reducible refine Exists.elim (fmine_some (fm_of hown9) h1) ?_; intro gM hh; have hgM := hh.1; subst hgM; clear hh; have hgB := Lib.hid (owns_block hown9 gM 0 rfl).2.2.1; have rM := Lib.hid hown9; have rP9 := Lib.hid (owns_below rw3P.out hb9); have vf9 := Lib.hid (vw3f.out.below hb9 vw3f.out.lt); have HB9 := Lib.hid (bel2 bw3.out hb9); have HW9 := Lib.hid (show w.heap.size ≤ w3.heap.size from bw3.out.size); have hcM := fm_cap (fm_of rM.out); have hglt := owns_lt' rM.out; clear hown9 hgrow9 hat9 hb9; have hsl1 := fun w => sliceF_h (some ⟨gM, 0, none⟩) PL.length cM i (by omega) (i : Int) rfl w; have hsl2 := fun w => sliceF_l (some ⟨gM, 0, none⟩) PL.length cM (i + 1) (by omega) ((i : Int) + 1) (by omega) w; have HFD := Lib.hid ((fat_of rM.out).drop hcM (i + 1)); have hdr : dropA (some ⟨gM, 0, none⟩) (i + 1) cM = some ⟨gM, (if cM = i + 1 then 0 else (i + 1) * 4), none⟩ := (by unfold dropA; split <;> simp [Addr.add]); rw [hdr] at hsl2 HFD; generalize (if cM = i + 1 then 0 else (i + 1) * 4) = oD at *; have hld : (PL.drop (i + 1)).length = PL.length - (i + 1) := List.length_drop; have HFL := Lib.hid (show flatF (PL.take i) ++ flatF (PL.drop (i + 1)) = flatF LK by rw [hLK, flatF_app]); have hl2 : (flatF (PL.drop (i + 1))).length = (PL.length - (i + 1)) * 4 := (by rw [flatF_length, hld]); clear hLK hdr hld))
    | (go_at_call 6; (with_reducible refine (HPH.out _).mono ?_); rintro e wsame ⟨rfl, rfl⟩))
  refine wp_region_tail 7 [93, 94, 95, 96, 97, 98, 99] (fun w' => Below w9.heap.size w9 w') (VT [.slice (some ⟨gM, 0, none⟩) PL.length cM, .int .i64 (i : Int), .slice (some ⟨gM, 0, none⟩) i cM, .slice (some ⟨gM, 0, none⟩) PL.length cM, .int .i64 (i : Int), .int .i64 ((i : Int) + 1), .slice (some ⟨gM, oD, none⟩) (PL.length - (i + 1)) (cM - (i + 1))] []) (by kernel_rfl) (by kernel_rfl) (by kernel_rfl) (by decide) rfl (by decide) (by simp) (VT.mono _ _) (Below.refl _ _).drew ?each ?done
  case each =>
    simp only [List.take_succ_cons, List.take_zero, Each]
    refine ⟨?o0, ?o1, ?o2, ?o3, ?o4, ?o5, ?o6, trivial⟩
    case o0 =>
      intro ys wx hBx hdeps
      clear hdeps
      simp only [fill, List.foldl_cons, List.foldl_nil, Act.put, List.setIfInBounds_toArray, List.set_cons_succ, List.set_cons_zero]
      go_wp2_with fail
      exact ⟨_, rfl, rfl, hBx, Below.refl _ _⟩
    case o1 =>
      intro ys wx hBx hdeps
      clear hdeps
      simp only [fill, List.foldl_cons, List.foldl_nil, Act.put, List.setIfInBounds_toArray, List.set_cons_succ, List.set_cons_zero]
      go_wp2_with fail
      exact ⟨_, rfl, rfl, hBx, Below.refl _ _⟩
    case o2 =>
      intro ys wx hBx hdeps
      simp only [Deps, Region.binds, List.getD_cons_zero, List.getD_cons_succ, forall_const, and_true, true_and] at hdeps
      have y0 : ys 93 = .slice (some ⟨gM, 0, none⟩) PL.length cM := by first | exact hdeps.1 | exact hdeps.2.1 | exact hdeps.2.2.1 | exact hdeps.2 | exact hdeps.2.2 | exact hdeps.2.2.2
      have y1 : ys 94 = .int .i64 (i : Int) := by first | exact hdeps.1 | exact hdeps.2.1 | exact hdeps.2.2.1 | exact hdeps.2 | exact hdeps.2.2 | exact hdeps.2.2.2
      clear hdeps
      simp only [y0, y1, fill, List.foldl_cons, List.foldl_nil, Act.put, List.setIfInBounds_toArray, List.set_cons_succ, List.set_cons_zero]
      go_wp2_with fail
      exact ⟨_, rfl, rfl, hBx, Below.refl _ _⟩
    case o3 =>
      intro ys wx hBx hdeps
      clear hdeps
      simp only [fill, List.foldl_cons, List.foldl_nil, Act.put, List.setIfInBounds_toArray, List.set_cons_succ, List.set_cons_zero]
      go_wp2_with fail
      exact ⟨_, rfl, rfl, hBx, Below.refl _ _⟩
    case o4 =>
      intro ys wx hBx hdeps
      clear hdeps
      simp only [fill, List.foldl_cons, List.foldl_nil, Act.put, List.setIfInBounds_toArray, List.set_cons_succ, List.set_cons_zero]
      go_wp2_with fail
      exact ⟨_, rfl, rfl, hBx, Below.refl _ _⟩
    case o5 =>
      intro ys wx hBx hdeps
      simp only [Deps, Region.binds, List.getD_cons_zero, List.getD_cons_succ, forall_const, and_true, true_and] at hdeps
      have y4 : ys 97 = .int .i64 (i : Int) := by first | exact hdeps | exact hdeps.1 | exact hdeps.2.1 | exact hdeps.2 | exact hdeps.2.2
      clear hdeps
      simp only [y4, fill, List.foldl_cons, List.foldl_nil, Act.put, List.setIfInBounds_toArray, List.set_cons_succ, List.set_cons_zero]
      go_wp2_with fail
      exact ⟨_, rfl, rfl, hBx, Below.refl _ _⟩
    case o6 =>
      intro ys wx hBx hdeps
      simp only [Deps, Region.binds, List.getD_cons_zero, List.getD_cons_succ, forall_const, and_true, true_and] at hdeps
      have y3 : ys 96 = .slice (some ⟨gM, 0, none⟩) PL.length cM := by first | exact hdeps.1 | exact hdeps.2.1 | exact hdeps.2.2.1 | exact hdeps.2 | exact hdeps.2.2 | exact hdeps.2.2.2
      have y5 : ys 98 = .int .i64 ((i : Int) + 1) := by first | exact hdeps.1 | exact hdeps.2.1 | exact hdeps.2.2.1 | exact hdeps.2 | exact hdeps.2.2 | exact hdeps.2.2.2
      clear hdeps
      simp only [y3, y5, fill, List.foldl_cons, List.foldl_nil, Act.put, List.setIfInBounds_toArray, List.set_cons_succ, List.set_cons_zero]
      go_wp2_with fail
      exact ⟨_, rfl, rfl, hBx, Below.refl _ _⟩
  case done =>
    intro ys w71 hBx hV
    have bw71 := Lib.hid (bel2 HB9.out hBx)
    have zw71 := Lib.hid hBx.size
    have vw71f := Lib.hid (vf9.out.below hBx vf9.out.lt)
    have h95 : ys 95 = .slice (some ⟨gM, 0, none⟩) i cM := hV 2 (by decide)
    have h99 : ys 99 = .slice (some ⟨gM, oD, none⟩) (PL.length - (i + 1)) (cM - (i + 1)) := hV 6 (by decide)
    have hBz := Lib.hid hBx
    clear hBx hV
    simp only [h95, h99, fill, List.drop_succ_cons, List.drop_zero, List.foldl_cons, List.foldl_nil, Act.put, List.setIfInBounds_toArray, List.set_cons_succ, List.set_cons_zero]
    refine append_at rfl _ _ 30 rfl w3.heap.size 29 (.agg #[.int .i64 0, .int .u32 0, .int .u32 0, .string ⟨#[]⟩]) 4 32 Tryz.underlying30 infoF rfl (by decide) (.slice (some ⟨gM, 0, none⟩) i cM) i (flatF (PL.take i)) rfl (owns_below (owns_take rM.out rfl i (by omega)) hBz.out) ⟨gM, oD, none⟩ (PL.length - (i + 1)) (cM - (i + 1)) (flatF (PL.drop (i + 1))) rfl hl2 (fat_news (FAt.below HFD.out hBz.out)) (flat_one _) ?c1 ?c2 ?c3 ?_
    case c1 => omega
    case c2 => unfold maxLen; omega
    case c3 => have := hglt; have := hgB.out; have := hBz.out.size; omega
    intro v5 wS hown5 hgrow5 hat5
    have bS := Lib.hid (below_append bw71.out hgrow5 bw71.out.size (fun t ht => by simp only [Value.ownBlock, Option.some.injEq] at ht; have := hgB.out; have := HW9.out; omega))
    rw [HFL.out, show i + (PL.length - (i + 1)) = LK.length by omega] at hown5
    with_reducible refine Exists.elim (owns_slice hown5) ?_
    intro a5 hh
    with_reducible refine Exists.elim hh ?_
    intro c5 he5
    clear hh
    subst he5
    have rS := Lib.hid hown5
    clear hown5 hgrow5 hat5 hsl1 hsl2
    go_wp2_with (first
    | (go_at_call 7; ((with_reducible refine (HJ.out _ _ _ _ (Batch.Tb.below HT.out bS.out) rS.out).mono ?_); rintro e w101 ⟨vi, vj, rfl, hown, bz⟩; have hbel : Below wS.heap.size wS w101 := (by exact bz); clear bz; have bw101 := Lib.hid (bel2 bS.out hbel); have zw101 := Lib.hid hbel.size; have rw101m := Lib.hid (owns_below rS.out hbel); have rw101Q := Lib.hid (show World.ownsRow w101 wS.heap.size 44 3 (.slice vi M.length vj) (M.length) (Batch.flatW M) from hown); clear hbel; clear hown))
    | (go_at_call 8; ((with_reducible refine (HK.out _ _ _ _ (owns_below rw101m.out (Geom.bel_alloc _ _))).mono ?_); rintro e w103 ⟨vk, vl_, rfl, hown, bz⟩; obtain ⟨w102, hw102⟩ : ∃ wx, wx = (w101.alloc (.cells #[.int .u32 (vl t0), .int .u32 (vl t1), .int .u32 (vl t2), .slice vi M.length vj] 27)) := ⟨_, rfl⟩; have bw102 := Lib.hid (show Below w.heap.size w w102 by rw [hw102]; exact (bel2 bw101.out (Geom.bel_alloc _ _))); have zw102 := Lib.hid (show w101.heap.size + 1 ≤ w102.heap.size by rw [hw102]; simp); have vw102y := Lib.hid (show Var w102 (w101.heap.size) 27 [.int .u32 (vl t0), .int .u32 (vl t1), .int .u32 (vl t2), .slice vi M.length vj] by rw [hw102]; exact (Var.new w101 27 [.int .u32 (vl t0), .int .u32 (vl t1), .int .u32 (vl t2), .slice vi M.length vj])); have rw102m := Lib.hid (show World.ownsRow (w102) (w3.heap.size) 29 4 (.slice a5 LK.length c5) (LK.length) (flatF LK) by rw [hw102]; exact (owns_below rw101m.out (Geom.bel_alloc _ _))); have rw102Q := Lib.hid (show World.ownsRow (w102) (wS.heap.size) 44 3 (.slice vi M.length vj) (M.length) (Batch.flatW M) by rw [hw102]; exact (owns_below rw101Q.out (Geom.bel_alloc _ _))); have hbel : Below w102.heap.size w102 w103 := (by rw [hw102]; exact bz); clear bz; have bw103 := Lib.hid (bel2 bw102.out hbel); have zw103 := Lib.hid hbel.size; have vw103y := Lib.hid (vw102y.out.below hbel vw102y.out.lt); have rw103m := Lib.hid (owns_below rw102m.out hbel); have rw103Q := Lib.hid (owns_below rw102Q.out hbel); have rw103S := Lib.hid (show World.ownsRow w103 w102.heap.size 44 3 (.slice vk M.length vl_) (M.length) (Batch.flatW M) from (by rw [hw102]; exact hown)); clear hbel; clear hown; have vf2001 := (show Var w103 (w101.heap.size) 27 [.int .u32 (vl t0), .int .u32 (vl t1), .int .u32 (vl t2), .slice vi M.length vj] from vw103y.out); have c2002 := vf2001.cell (j := 0) rfl; have c2003 := vf2001.cell (j := 1) rfl; have c2004 := vf2001.cell (j := 2) rfl; have c2005 := vf2001.cell (j := 3) rfl; clear vf2001; have vf2006 := (show Var (w103.alloc (.cells #[.int .u32 (vl t0), .int .u32 (vl t1), .int .u32 (vl t2), .slice vk M.length vl_] 27)) (w101.heap.size) 27 [.int .u32 (vl t0), .int .u32 (vl t1), .int .u32 (vl t2), .slice vi M.length vj] from (vw103y.out.alloc _)); have c2007 := vf2006.cell (j := 0) rfl; have c2008 := vf2006.cell (j := 1) rfl; have c2009 := vf2006.cell (j := 2) rfl; have c2010 := vf2006.cell (j := 3) rfl; clear vf2006; have vf2011 := (show Var (w103.alloc (.cells #[.int .u32 (vl t0), .int .u32 (vl t1), .int .u32 (vl t2), .slice vk M.length vl_] 27)) (w103.heap.size) 27 [.int .u32 (vl t0), .int .u32 (vl t1), .int .u32 (vl t2), .slice vk M.length vl_] from (Var.new w103 27 [.int .u32 (vl t0), .int .u32 (vl t1), .int .u32 (vl t2), .slice vk M.length vl_])); have c2012 := vf2011.cell (j := 0) rfl; have c2013 := vf2011.cell (j := 1) rfl; have c2014 := vf2011.cell (j := 2) rfl; have c2015 := vf2011.cell (j := 3) rfl; clear vf2011))
    | (go_at_call 9; ((with_reducible refine (HSG.out _ _ _ _ _ (wat_of (owns_below rw103Q.out (Geom.bel_alloc _ _))) (wat_of (owns_below rw103S.out (Geom.bel_alloc _ _)))).mono ?_); rintro e w105 ⟨rfl, bz⟩; obtain ⟨w104, hw104⟩ : ∃ wx, wx = (w103.alloc (.cells #[.int .u32 (vl t0), .int .u32 (vl t1), .int .u32 (vl t2), .slice vk M.length vl_] 27)) := ⟨_, rfl⟩; have bw104 := Lib.hid (show Below w.heap.size w w104 by rw [hw104]; exact (bel2 bw103.out (Geom.bel_alloc _ _))); have zw104 := Lib.hid (show w103.heap.size + 1 ≤ w104.heap.size by rw [hw104]; simp); have vw104y := Lib.hid (show Var w104 (w101.heap.size) 27 [.int .u32 (vl t0), .int .u32 (vl t1), .int .u32 (vl t2), .slice vi M.length vj] by rw [hw104]; exact (vw103y.out.alloc _)); have vw104z := Lib.hid (show Var w104 (w103.heap.size) 27 [.int .u32 (vl t0), .int .u32 (vl t1), .int .u32 (vl t2), .slice vk M.length vl_] by rw [hw104]; exact (Var.new w103 27 [.int .u32 (vl t0), .int .u32 (vl t1), .int .u32 (vl t2), .slice vk M.length vl_])); have rw104m := Lib.hid (show World.ownsRow (w104) (w3.heap.size) 29 4 (.slice a5 LK.length c5) (LK.length) (flatF LK) by rw [hw104]; exact (owns_below rw103m.out (Geom.bel_alloc _ _))); have rw104Q := Lib.hid (show World.ownsRow (w104) (wS.heap.size) 44 3 (.slice vi M.length vj) (M.length) (Batch.flatW M) by rw [hw104]; exact (owns_below rw103Q.out (Geom.bel_alloc _ _))); have rw104S := Lib.hid (show World.ownsRow (w104) (w102.heap.size) 44 3 (.slice vk M.length vl_) (M.length) (Batch.flatW M) by rw [hw104]; exact (owns_below rw103S.out (Geom.bel_alloc _ _))); have hbel : Below w104.heap.size w104 w105 := (by rw [hw104]; exact bz); clear bz; have bw105 := Lib.hid (bel2 bw104.out hbel); have zw105 := Lib.hid hbel.size; have vw105y := Lib.hid (vw104y.out.below hbel vw104y.out.lt); have vw105z := Lib.hid (vw104z.out.below hbel vw104z.out.lt); have rw105m := Lib.hid (owns_below rw104m.out hbel); have rw105Q := Lib.hid (owns_below rw104Q.out hbel); have rw105S := Lib.hid (owns_below rw104S.out hbel); clear hbel; clear c2002 c2003 c2004 c2005 c2007 c2008 c2009 c2010 c2012 c2013 c2014 c2015)))
    go_ret
    exact ⟨rfl, bw105.out⟩
set_option maxRecDepth 100000 in
set_option maxHeartbeats 8000000 in
theorem bent_5 (gp gs gr : Int) (sq pv fr : W) (a : Option Addr) (n cap : Nat) (L : List Wr) (PL : List Fr) (how at_ to_ : Int) (fk : Int) (fa fb : W) (FB : ByteArray) (h1 : 0 < PL.length) (hfew : PL.length ≤ 1000) (i k : Nat) (hi : i < PL.length) (hk : k < PL.length) (LK : List Fr) (t0 t1 t2 : W) (M : List Wr) (c9 : Nat) (ak : Int) (aa ab : W) (AB : ByteArray) (hLK : flatF LK = flatF PL ++ [.int .i64 ak, .int .u32 (vl aa), .int .u32 (vl ab), .string AB]) (hai : (flatF PL)[i * 4]? = some (.int .i64 ak) ∧ (flatF PL)[i * 4 + 1]? = some (.int .u32 (vl aa)) ∧ (flatF PL)[i * 4 + 2]? = some (.int .u32 (vl ab)) ∧ (flatF PL)[i * 4 + 3]? = some (.string AB))
    (HCT : Hid (∀ w, Tb w → WAt w a L → Calls Tryz.prog 4 #[.agg #[.int .i64 gp, .int .i64 gs, .int .i64 gr], .agg #[.int .u32 (vl sq), .int .u32 (vl pv), .int .u32 (vl fr), .slice a n cap]] w fun e w' => ∃ gP vc, e = .returned (.slice (some ⟨gP, 0, none⟩) PL.length vc) ∧ FMine w' w.heap.size (.slice (some ⟨gP, 0, none⟩) PL.length vc) PL ∧ Below w.heap.size w w'))
    (HAL : Hid (∀ w, Tb w → Calls Tryz.prog 5 #[] w fun e w' => e = .returned (.bool true) ∧ Below w.heap.size w w'))
    (HPI : Hid (∀ w, Calls Tryz.prog 6 #[.int .i64 at_, .int .i64 (PL.length : Int)] w fun e w' => e = .returned (.int .i64 (i : Int)) ∧ w = w'))
    (HPK : Hid (∀ w, Calls Tryz.prog 6 #[.int .i64 to_, .int .i64 (PL.length : Int)] w fun e w' => e = .returned (.int .i64 (k : Int)) ∧ w = w'))
    (HPH : Hid (∀ w, Calls Tryz.prog 6 #[.int .i64 how, .int .i64 7] w fun e w' => e = .returned (.int .i64 5) ∧ w = w'))
    (HJ : Hid (∀ w base a c, Tb w → w.ownsRow base 29 4 (.slice a (PL.length + 1) c) (PL.length + 1) (flatF LK) → Calls Tryz.prog 7 #[.slice a (PL.length + 1) c] w fun e w' => ∃ va vc, e = .returned (.tuple #[.agg #[.int .u32 (vl t0), .int .u32 (vl t1), .int .u32 (vl t2), .slice va M.length vc], .int .i64 (c9 : Int)]) ∧ WMine w' w.heap.size (.slice va M.length vc) M ∧ Below w.heap.size w w'))
    (HK : Hid (∀ w base a c, w.ownsRow base 29 4 (.slice a (PL.length + 1) c) (PL.length + 1) (flatF LK) → Calls Tryz.prog 8 #[.slice a (PL.length + 1) c] w fun e w' => ∃ va vc, e = .returned (.tuple #[.agg #[.int .u32 (vl t0), .int .u32 (vl t1), .int .u32 (vl t2), .slice va M.length vc], .int .i64 (c9 : Int)]) ∧ WMine w' w.heap.size (.slice va M.length vc) M ∧ Below w.heap.size w w'))
    (HSG : Hid (∀ w a b c d, WAt w a M → WAt w b M → Calls Tryz.prog 9 #[.agg #[.int .u32 (vl t0), .int .u32 (vl t1), .int .u32 (vl t2), .slice a M.length c], .agg #[.int .u32 (vl t0), .int .u32 (vl t1), .int .u32 (vl t2), .slice b M.length d]] w fun e w' => e = .returned (.bool true) ∧ Below w.heap.size w w')) (w : World) (HT : Hid (Tb w)) (HRW : Hid (WAt w a L)) :
    Calls Tryz.prog 3 #[.agg #[.int .i64 gp, .int .i64 gs, .int .i64 gr], .agg #[.int .u32 (vl sq), .int .u32 (vl pv), .int .u32 (vl fr), .slice a n cap], .int .i64 how, .int .i64 at_, .int .i64 to_, .agg #[.int .i64 fk, .int .u32 (vl fa), .int .u32 (vl fb), .string FB]] w fun e w' => e = .returned (.bool true) ∧ Below w.heap.size w w' := by
  have q0 : ((PL.length : Int) == 0) = false := by rw [beq_eq_false_iff_ne]; omega
  have qc : ((c9 : Int) == (c9 : Int)) = true := beq_self_eq_true _
  have hiI : (i : Int) < (PL.length : Int) := by omega
  have hkI : (k : Int) < (PL.length : Int) := by omega
  go_enter Tryz.func3, Tryz.ntmps3
  go_wp2_with (first
    | (go_at_call 4; ((with_reducible refine (HCT.out _ (Batch.Tb.below HT.out (bel2 (bel2 (Geom.bel_alloc _ _) (Geom.bel_alloc _ _)) (Geom.bel_alloc _ _))) (Batch.WAt.below HRW.out (bel2 (bel2 (Geom.bel_alloc _ _) (Geom.bel_alloc _ _)) (Geom.bel_alloc _ _)))).mono ?_); rintro e w2 ⟨gP, vc, rfl, hown, bz⟩; obtain ⟨w1, hw1⟩ : ∃ wx, wx = (((w.alloc (.cells #[.int .i64 gp, .int .i64 gs, .int .i64 gr] 23)).alloc (.cells #[.int .u32 (vl sq), .int .u32 (vl pv), .int .u32 (vl fr), .slice a n cap] 27)).alloc (.cells #[.int .i64 fk, .int .u32 (vl fa), .int .u32 (vl fb), .string FB] 29)) := ⟨_, rfl⟩; have bw1 := Lib.hid (show Below w.heap.size w w1 by rw [hw1]; exact (bel2 (bel2 (Geom.bel_alloc _ _) (Geom.bel_alloc _ _)) (Geom.bel_alloc _ _))); have zw1 := Lib.hid (show w.heap.size + 3 ≤ w1.heap.size by rw [hw1]; simp); have vw1g := Lib.hid (show Var w1 (w.heap.size) 23 [.int .i64 gp, .int .i64 gs, .int .i64 gr] by rw [hw1]; exact (((Var.new w 23 [.int .i64 gp, .int .i64 gs, .int .i64 gr]).alloc _).alloc _)); have vw1x := Lib.hid (show Var w1 (w.heap.size + 1) 27 [.int .u32 (vl sq), .int .u32 (vl pv), .int .u32 (vl fr), .slice a n cap] by rw [hw1]; exact ((show Var ((w.alloc (.cells #[.int .i64 gp, .int .i64 gs, .int .i64 gr] 23)).alloc (.cells #[.int .u32 (vl sq), .int .u32 (vl pv), .int .u32 (vl fr), .slice a n cap] 27)) (w.heap.size + 1) 27 [.int .u32 (vl sq), .int .u32 (vl pv), .int .u32 (vl fr), .slice a n cap] from by have h := Var.new (w.alloc (.cells #[.int .i64 gp, .int .i64 gs, .int .i64 gr] 23)) 27 [.int .u32 (vl sq), .int .u32 (vl pv), .int .u32 (vl fr), .slice a n cap]; rw [show (w.alloc (.cells #[.int .i64 gp, .int .i64 gs, .int .i64 gr] 23)).heap.size = w.heap.size + 1 by simp] at h; exact h).alloc _)); have vw1f := Lib.hid (show Var w1 (w.heap.size + 2) 29 [.int .i64 fk, .int .u32 (vl fa), .int .u32 (vl fb), .string FB] by rw [hw1]; exact (show Var (((w.alloc (.cells #[.int .i64 gp, .int .i64 gs, .int .i64 gr] 23)).alloc (.cells #[.int .u32 (vl sq), .int .u32 (vl pv), .int .u32 (vl fr), .slice a n cap] 27)).alloc (.cells #[.int .i64 fk, .int .u32 (vl fa), .int .u32 (vl fb), .string FB] 29)) (w.heap.size + 2) 29 [.int .i64 fk, .int .u32 (vl fa), .int .u32 (vl fb), .string FB] from by have h := Var.new ((w.alloc (.cells #[.int .i64 gp, .int .i64 gs, .int .i64 gr] 23)).alloc (.cells #[.int .u32 (vl sq), .int .u32 (vl pv), .int .u32 (vl fr), .slice a n cap] 27)) 29 [.int .i64 fk, .int .u32 (vl fa), .int .u32 (vl fb), .string FB]; rw [show ((w.alloc (.cells #[.int .i64 gp, .int .i64 gs, .int .i64 gr] 23)).alloc (.cells #[.int .u32 (vl sq), .int .u32 (vl pv), .int .u32 (vl fr), .slice a n cap] 27)).heap.size = w.heap.size + 2 by simp] at h; exact h)); have hbel : Below w1.heap.size w1 w2 := (by rw [hw1]; exact bz); clear bz; have bw2 := Lib.hid (bel2 bw1.out hbel); have zw2 := Lib.hid hbel.size; have vw2g := Lib.hid (vw1g.out.below hbel vw1g.out.lt); have vw2x := Lib.hid (vw1x.out.below hbel vw1x.out.lt); have vw2f := Lib.hid (vw1f.out.below hbel vw1f.out.lt); have rw2P := Lib.hid (show World.ownsRow w2 w1.heap.size 29 4 (.slice (some ⟨gP, 0, none⟩) PL.length vc) (PL.length) (flatF PL) from (by rw [hw1]; exact hown)); clear hbel; clear hown))
    | (go_at_call 5; ((with_reducible refine (HAL.out _ (Batch.Tb.below HT.out bw2.out)).mono ?_); rintro e w3 ⟨rfl, bz⟩; have hbel : Below w2.heap.size w2 w3 := (by exact bz); clear bz; have bw3 := Lib.hid (bel2 bw2.out hbel); have zw3 := Lib.hid hbel.size; have vw3g := Lib.hid (vw2g.out.below hbel vw2g.out.lt); have vw3x := Lib.hid (vw2x.out.below hbel vw2x.out.lt); have vw3f := Lib.hid (vw2f.out.below hbel vw2f.out.lt); have rw3P := Lib.hid (owns_below rw2P.out hbel); clear hbel))
    | (go_at_call 6; (with_reducible refine (HPI.out _).mono ?_); rintro e wsame ⟨rfl, rfl⟩)
    | (go_at_call 6; (with_reducible refine (HPK.out _).mono ?_); rintro e wsame ⟨rfl, rfl⟩)
    | (at_builtin; go_loud (refine append_at rfl _ _ 30 rfl w3.heap.size 29 (.agg #[.int .i64 0, .int .u32 0, .int .u32 0, .string ⟨#[]⟩]) 4 32 Tryz.underlying30 infoF rfl (by decide) (.slice none 0 0) 0 [] rfl ⟨rfl, .inl ⟨rfl, rfl⟩⟩ ⟨gP, 0, none⟩ PL.length vc (flatF PL) rfl (flatF_length _) (fat_news (fat_of rw3P.out)) (flat_one _) ?c1 ?c2 ?c3 ?_; (case c1 => omega); (case c2 => (unfold maxLen; omega)); (case c3 => exact Nat.le_refl _); intro v9 w9 hown9 hgrow9 hat9; have hb9 := below_append (Below.refl w3.heap.size w3) hgrow9 (Nat.le_refl _) (fun t ht => by cases ht); rw [Nat.zero_add, List.nil_append] at hown9; with_reducible refine Exists.elim (owns_slice hown9) ?_; intro aM hh; with_reducible refine Exists.elim hh ?_; intro cM he9; clear hh; subst he9; with_reducible refine Exists.elim (fmine_some (fm_of hown9) h1) ?_; intro gM hh; have hgM := hh.1; subst hgM; clear hh; have hgB := Lib.hid (owns_block hown9 gM 0 rfl).2.2.1; have rM := Lib.hid hown9; have rP9 := Lib.hid (owns_below rw3P.out hb9); have vf9 := Lib.hid (vw3f.out.below hb9 vw3f.out.lt); have HB9 := Lib.hid (bel2 bw3.out hb9); have HW9 := Lib.hid (show w.heap.size ≤ w3.heap.size from bw3.out.size); have hcM := fm_cap (fm_of rM.out); have hglt := owns_lt' rM.out; clear hown9 hgrow9 hat9 hb9; have k0 := owns_cell rP9.out hai.1; have k1 := owns_cell rP9.out hai.2.1; have k2 := owns_cell rP9.out hai.2.2.1; have k3 := owns_cell rP9.out hai.2.2.2))
    | (go_at_call 6; (with_reducible refine (HPH.out _).mono ?_); rintro e wsame ⟨rfl, rfl⟩)
    | (at_builtin; go_loud ((refine append_tup rfl _ _ 30 rfl w3.heap.size 29 (.agg #[.int .i64 0, .int .u32 0, .int .u32 0, .string ⟨#[]⟩]) 4 32 Tryz.underlying30 infoF rfl (by decide) (.slice (some ⟨gM, 0, none⟩) PL.length cM) PL.length (flatF PL) rfl (owns_below rM.out (Geom.bel_alloc _ _)) w9.heap.size [.int .i64 ak, .int .u32 (vl aa), .int .u32 (vl ab), .string AB] rfl rfl (lies_new _ [.int .i64 ak, .int .u32 (vl aa), .int .u32 (vl ab), .string AB] _) ?c1 ?c2 ?c3 ?c5 ?_); (case c1 => simp [Value.oneCell']); (case c2 => omega); (case c3 => (unfold maxLen; omega)); (case c5 => (have := hglt; have := hgB.out; simp; omega)); intro g5 c5 wS hown5 hgrow5 hat5 hlt5)))
  have rS := Lib.hid (show World.ownsRow wS w3.heap.size 29 4 (.slice (some ⟨g5, 0, none⟩) (PL.length + 1) c5) (PL.length + 1) (flatF LK) by rw [hLK]; exact hown5)
  have bS := Lib.hid (below_append (bel2 HB9.out (Geom.bel_alloc _ _)) hgrow5 (bel2 HB9.out (Geom.bel_alloc _ _)).size (fun t ht => by have := (owns_lt rM.out t ht).2; have := HW9.out; omega))
  clear hown5 hgrow5 hat5 k0 k1 k2 k3
  go_wp2_with (first
    | (go_at_call 7; ((with_reducible refine (HJ.out _ _ _ _ (Batch.Tb.below HT.out bS.out) rS.out).mono ?_); rintro e w101 ⟨vi, vj, rfl, hown, bz⟩; have hbel : Below wS.heap.size wS w101 := (by exact bz); clear bz; have bw101 := Lib.hid (bel2 bS.out hbel); have zw101 := Lib.hid hbel.size; have rw101m := Lib.hid (owns_below rS.out hbel); have rw101Q := Lib.hid (show World.ownsRow w101 wS.heap.size 44 3 (.slice vi M.length vj) (M.length) (Batch.flatW M) from hown); clear hbel; clear hown))
    | (go_at_call 8; ((with_reducible refine (HK.out _ _ _ _ (owns_below rw101m.out (Geom.bel_alloc _ _))).mono ?_); rintro e w103 ⟨vk, vl_, rfl, hown, bz⟩; obtain ⟨w102, hw102⟩ : ∃ wx, wx = (w101.alloc (.cells #[.int .u32 (vl t0), .int .u32 (vl t1), .int .u32 (vl t2), .slice vi M.length vj] 27)) := ⟨_, rfl⟩; have bw102 := Lib.hid (show Below w.heap.size w w102 by rw [hw102]; exact (bel2 bw101.out (Geom.bel_alloc _ _))); have zw102 := Lib.hid (show w101.heap.size + 1 ≤ w102.heap.size by rw [hw102]; simp); have vw102y := Lib.hid (show Var w102 (w101.heap.size) 27 [.int .u32 (vl t0), .int .u32 (vl t1), .int .u32 (vl t2), .slice vi M.length vj] by rw [hw102]; exact (Var.new w101 27 [.int .u32 (vl t0), .int .u32 (vl t1), .int .u32 (vl t2), .slice vi M.length vj])); have rw102m := Lib.hid (show World.ownsRow (w102) (w3.heap.size) 29 4 (.slice (some ⟨g5, 0, none⟩) (PL.length + 1) c5) ((PL.length + 1)) (flatF LK) by rw [hw102]; exact (owns_below rw101m.out (Geom.bel_alloc _ _))); have rw102Q := Lib.hid (show World.ownsRow (w102) (wS.heap.size) 44 3 (.slice vi M.length vj) (M.length) (Batch.flatW M) by rw [hw102]; exact (owns_below rw101Q.out (Geom.bel_alloc _ _))); have hbel : Below w102.heap.size w102 w103 := (by rw [hw102]; exact bz); clear bz; have bw103 := Lib.hid (bel2 bw102.out hbel); have zw103 := Lib.hid hbel.size; have vw103y := Lib.hid (vw102y.out.below hbel vw102y.out.lt); have rw103m := Lib.hid (owns_below rw102m.out hbel); have rw103Q := Lib.hid (owns_below rw102Q.out hbel); have rw103S := Lib.hid (show World.ownsRow w103 w102.heap.size 44 3 (.slice vk M.length vl_) (M.length) (Batch.flatW M) from (by rw [hw102]; exact hown)); clear hbel; clear hown; have vf2001 := (show Var w103 (w101.heap.size) 27 [.int .u32 (vl t0), .int .u32 (vl t1), .int .u32 (vl t2), .slice vi M.length vj] from vw103y.out); have c2002 := vf2001.cell (j := 0) rfl; have c2003 := vf2001.cell (j := 1) rfl; have c2004 := vf2001.cell (j := 2) rfl; have c2005 := vf2001.cell (j := 3) rfl; clear vf2001; have vf2006 := (show Var (w103.alloc (.cells #[.int .u32 (vl t0), .int .u32 (vl t1), .int .u32 (vl t2), .slice vk M.length vl_] 27)) (w101.heap.size) 27 [.int .u32 (vl t0), .int .u32 (vl t1), .int .u32 (vl t2), .slice vi M.length vj] from (vw103y.out.alloc _)); have c2007 := vf2006.cell (j := 0) rfl; have c2008 := vf2006.cell (j := 1) rfl; have c2009 := vf2006.cell (j := 2) rfl; have c2010 := vf2006.cell (j := 3) rfl; clear vf2006; have vf2011 := (show Var (w103.alloc (.cells #[.int .u32 (vl t0), .int .u32 (vl t1), .int .u32 (vl t2), .slice vk M.length vl_] 27)) (w103.heap.size) 27 [.int .u32 (vl t0), .int .u32 (vl t1), .int .u32 (vl t2), .slice vk M.length vl_] from (Var.new w103 27 [.int .u32 (vl t0), .int .u32 (vl t1), .int .u32 (vl t2), .slice vk M.length vl_])); have c2012 := vf2011.cell (j := 0) rfl; have c2013 := vf2011.cell (j := 1) rfl; have c2014 := vf2011.cell (j := 2) rfl; have c2015 := vf2011.cell (j := 3) rfl; clear vf2011))
    | (go_at_call 9; ((with_reducible refine (HSG.out _ _ _ _ _ (wat_of (owns_below rw103Q.out (Geom.bel_alloc _ _))) (wat_of (owns_below rw103S.out (Geom.bel_alloc _ _)))).mono ?_); rintro e w105 ⟨rfl, bz⟩; obtain ⟨w104, hw104⟩ : ∃ wx, wx = (w103.alloc (.cells #[.int .u32 (vl t0), .int .u32 (vl t1), .int .u32 (vl t2), .slice vk M.length vl_] 27)) := ⟨_, rfl⟩; have bw104 := Lib.hid (show Below w.heap.size w w104 by rw [hw104]; exact (bel2 bw103.out (Geom.bel_alloc _ _))); have zw104 := Lib.hid (show w103.heap.size + 1 ≤ w104.heap.size by rw [hw104]; simp); have vw104y := Lib.hid (show Var w104 (w101.heap.size) 27 [.int .u32 (vl t0), .int .u32 (vl t1), .int .u32 (vl t2), .slice vi M.length vj] by rw [hw104]; exact (vw103y.out.alloc _)); have vw104z := Lib.hid (show Var w104 (w103.heap.size) 27 [.int .u32 (vl t0), .int .u32 (vl t1), .int .u32 (vl t2), .slice vk M.length vl_] by rw [hw104]; exact (Var.new w103 27 [.int .u32 (vl t0), .int .u32 (vl t1), .int .u32 (vl t2), .slice vk M.length vl_])); have rw104m := Lib.hid (show World.ownsRow (w104) (w3.heap.size) 29 4 (.slice (some ⟨g5, 0, none⟩) (PL.length + 1) c5) ((PL.length + 1)) (flatF LK) by rw [hw104]; exact (owns_below rw103m.out (Geom.bel_alloc _ _))); have rw104Q := Lib.hid (show World.ownsRow (w104) (wS.heap.size) 44 3 (.slice vi M.length vj) (M.length) (Batch.flatW M) by rw [hw104]; exact (owns_below rw103Q.out (Geom.bel_alloc _ _))); have rw104S := Lib.hid (show World.ownsRow (w104) (w102.heap.size) 44 3 (.slice vk M.length vl_) (M.length) (Batch.flatW M) by rw [hw104]; exact (owns_below rw103S.out (Geom.bel_alloc _ _))); have hbel : Below w104.heap.size w104 w105 := (by rw [hw104]; exact bz); clear bz; have bw105 := Lib.hid (bel2 bw104.out hbel); have zw105 := Lib.hid hbel.size; have vw105y := Lib.hid (vw104y.out.below hbel vw104y.out.lt); have vw105z := Lib.hid (vw104z.out.below hbel vw104z.out.lt); have rw105m := Lib.hid (owns_below rw104m.out hbel); have rw105Q := Lib.hid (owns_below rw104Q.out hbel); have rw105S := Lib.hid (owns_below rw104S.out hbel); clear hbel; clear c2002 c2003 c2004 c2005 c2007 c2008 c2009 c2010 c2012 c2013 c2014 c2015)))
  go_ret
  exact ⟨rfl, bw105.out⟩
set_option maxRecDepth 100000 in
set_option maxHeartbeats 8000000 in
theorem bent_6 (gp gs gr : Int) (sq pv fr : W) (a : Option Addr) (n cap : Nat) (L : List Wr) (PL : List Fr) (how at_ to_ : Int) (fk : Int) (fa fb : W) (FB : ByteArray) (h1 : 0 < PL.length) (hfew : PL.length ≤ 1000) (i k : Nat) (hi : i < PL.length) (hk : k < PL.length) (LK : List Fr) (t0 t1 t2 : W) (M : List Wr) (c9 : Nat) (kk : Int) (hset : (flatF PL).set (i * 4) (.int .i64 kk) = flatF LK) (u0 : Value) (hu0 : (flatF PL)[i * 4]? = some u0)
    (HCT : Hid (∀ w, Tb w → WAt w a L → Calls Tryz.prog 4 #[.agg #[.int .i64 gp, .int .i64 gs, .int .i64 gr], .agg #[.int .u32 (vl sq), .int .u32 (vl pv), .int .u32 (vl fr), .slice a n cap]] w fun e w' => ∃ gP vc, e = .returned (.slice (some ⟨gP, 0, none⟩) PL.length vc) ∧ FMine w' w.heap.size (.slice (some ⟨gP, 0, none⟩) PL.length vc) PL ∧ Below w.heap.size w w'))
    (HAL : Hid (∀ w, Tb w → Calls Tryz.prog 5 #[] w fun e w' => e = .returned (.bool true) ∧ Below w.heap.size w w'))
    (HPI : Hid (∀ w, Calls Tryz.prog 6 #[.int .i64 at_, .int .i64 (PL.length : Int)] w fun e w' => e = .returned (.int .i64 (i : Int)) ∧ w = w'))
    (HPK : Hid (∀ w, Calls Tryz.prog 6 #[.int .i64 to_, .int .i64 (PL.length : Int)] w fun e w' => e = .returned (.int .i64 (k : Int)) ∧ w = w'))
    (HPH : Hid (∀ w, Calls Tryz.prog 6 #[.int .i64 how, .int .i64 7] w fun e w' => e = .returned (.int .i64 6) ∧ w = w'))
    (HPF : Hid (∀ w, Calls Tryz.prog 6 #[.int .i64 fk, .int .i64 6] w fun e w' => e = .returned (.int .i64 kk) ∧ w = w'))
    (HJ : Hid (∀ w base a c, Tb w → w.ownsRow base 29 4 (.slice a PL.length c) PL.length (flatF LK) → Calls Tryz.prog 7 #[.slice a PL.length c] w fun e w' => ∃ va vc, e = .returned (.tuple #[.agg #[.int .u32 (vl t0), .int .u32 (vl t1), .int .u32 (vl t2), .slice va M.length vc], .int .i64 (c9 : Int)]) ∧ WMine w' w.heap.size (.slice va M.length vc) M ∧ Below w.heap.size w w'))
    (HK : Hid (∀ w base a c, w.ownsRow base 29 4 (.slice a PL.length c) PL.length (flatF LK) → Calls Tryz.prog 8 #[.slice a PL.length c] w fun e w' => ∃ va vc, e = .returned (.tuple #[.agg #[.int .u32 (vl t0), .int .u32 (vl t1), .int .u32 (vl t2), .slice va M.length vc], .int .i64 (c9 : Int)]) ∧ WMine w' w.heap.size (.slice va M.length vc) M ∧ Below w.heap.size w w'))
    (HSG : Hid (∀ w a b c d, WAt w a M → WAt w b M → Calls Tryz.prog 9 #[.agg #[.int .u32 (vl t0), .int .u32 (vl t1), .int .u32 (vl t2), .slice a M.length c], .agg #[.int .u32 (vl t0), .int .u32 (vl t1), .int .u32 (vl t2), .slice b M.length d]] w fun e w' => e = .returned (.bool true) ∧ Below w.heap.size w w')) (w : World) (HT : Hid (Tb w)) (HRW : Hid (WAt w a L)) :
    Calls Tryz.prog 3 #[.agg #[.int .i64 gp, .int .i64 gs, .int .i64 gr], .agg #[.int .u32 (vl sq), .int .u32 (vl pv), .int .u32 (vl fr), .slice a n cap], .int .i64 how, .int .i64 at_, .int .i64 to_, .agg #[.int .i64 fk, .int .u32 (vl fa), .int .u32 (vl fb), .string FB]] w fun e w' => e = .returned (.bool true) ∧ Below w.heap.size w w' := by
  have q0 : ((PL.length : Int) == 0) = false := by rw [beq_eq_false_iff_ne]; omega
  have qc : ((c9 : Int) == (c9 : Int)) = true := beq_self_eq_true _
  have hiI : (i : Int) < (PL.length : Int) := by omega
  have hkI : (k : Int) < (PL.length : Int) := by omega
  go_enter Tryz.func3, Tryz.ntmps3
  go_wp2_with (first
    | (go_at_call 4; ((with_reducible refine (HCT.out _ (Batch.Tb.below HT.out (bel2 (bel2 (Geom.bel_alloc _ _) (Geom.bel_alloc _ _)) (Geom.bel_alloc _ _))) (Batch.WAt.below HRW.out (bel2 (bel2 (Geom.bel_alloc _ _) (Geom.bel_alloc _ _)) (Geom.bel_alloc _ _)))).mono ?_); rintro e w2 ⟨gP, vc, rfl, hown, bz⟩; obtain ⟨w1, hw1⟩ : ∃ wx, wx = (((w.alloc (.cells #[.int .i64 gp, .int .i64 gs, .int .i64 gr] 23)).alloc (.cells #[.int .u32 (vl sq), .int .u32 (vl pv), .int .u32 (vl fr), .slice a n cap] 27)).alloc (.cells #[.int .i64 fk, .int .u32 (vl fa), .int .u32 (vl fb), .string FB] 29)) := ⟨_, rfl⟩; have bw1 := Lib.hid (show Below w.heap.size w w1 by rw [hw1]; exact (bel2 (bel2 (Geom.bel_alloc _ _) (Geom.bel_alloc _ _)) (Geom.bel_alloc _ _))); have zw1 := Lib.hid (show w.heap.size + 3 ≤ w1.heap.size by rw [hw1]; simp); have vw1g := Lib.hid (show Var w1 (w.heap.size) 23 [.int .i64 gp, .int .i64 gs, .int .i64 gr] by rw [hw1]; exact (((Var.new w 23 [.int .i64 gp, .int .i64 gs, .int .i64 gr]).alloc _).alloc _)); have vw1x := Lib.hid (show Var w1 (w.heap.size + 1) 27 [.int .u32 (vl sq), .int .u32 (vl pv), .int .u32 (vl fr), .slice a n cap] by rw [hw1]; exact ((show Var ((w.alloc (.cells #[.int .i64 gp, .int .i64 gs, .int .i64 gr] 23)).alloc (.cells #[.int .u32 (vl sq), .int .u32 (vl pv), .int .u32 (vl fr), .slice a n cap] 27)) (w.heap.size + 1) 27 [.int .u32 (vl sq), .int .u32 (vl pv), .int .u32 (vl fr), .slice a n cap] from by have h := Var.new (w.alloc (.cells #[.int .i64 gp, .int .i64 gs, .int .i64 gr] 23)) 27 [.int .u32 (vl sq), .int .u32 (vl pv), .int .u32 (vl fr), .slice a n cap]; rw [show (w.alloc (.cells #[.int .i64 gp, .int .i64 gs, .int .i64 gr] 23)).heap.size = w.heap.size + 1 by simp] at h; exact h).alloc _)); have vw1f := Lib.hid (show Var w1 (w.heap.size + 2) 29 [.int .i64 fk, .int .u32 (vl fa), .int .u32 (vl fb), .string FB] by rw [hw1]; exact (show Var (((w.alloc (.cells #[.int .i64 gp, .int .i64 gs, .int .i64 gr] 23)).alloc (.cells #[.int .u32 (vl sq), .int .u32 (vl pv), .int .u32 (vl fr), .slice a n cap] 27)).alloc (.cells #[.int .i64 fk, .int .u32 (vl fa), .int .u32 (vl fb), .string FB] 29)) (w.heap.size + 2) 29 [.int .i64 fk, .int .u32 (vl fa), .int .u32 (vl fb), .string FB] from by have h := Var.new ((w.alloc (.cells #[.int .i64 gp, .int .i64 gs, .int .i64 gr] 23)).alloc (.cells #[.int .u32 (vl sq), .int .u32 (vl pv), .int .u32 (vl fr), .slice a n cap] 27)) 29 [.int .i64 fk, .int .u32 (vl fa), .int .u32 (vl fb), .string FB]; rw [show ((w.alloc (.cells #[.int .i64 gp, .int .i64 gs, .int .i64 gr] 23)).alloc (.cells #[.int .u32 (vl sq), .int .u32 (vl pv), .int .u32 (vl fr), .slice a n cap] 27)).heap.size = w.heap.size + 2 by simp] at h; exact h)); have hbel : Below w1.heap.size w1 w2 := (by rw [hw1]; exact bz); clear bz; have bw2 := Lib.hid (bel2 bw1.out hbel); have zw2 := Lib.hid hbel.size; have vw2g := Lib.hid (vw1g.out.below hbel vw1g.out.lt); have vw2x := Lib.hid (vw1x.out.below hbel vw1x.out.lt); have vw2f := Lib.hid (vw1f.out.below hbel vw1f.out.lt); have rw2P := Lib.hid (show World.ownsRow w2 w1.heap.size 29 4 (.slice (some ⟨gP, 0, none⟩) PL.length vc) (PL.length) (flatF PL) from (by rw [hw1]; exact hown)); clear hbel; clear hown))
    | (go_at_call 5; ((with_reducible refine (HAL.out _ (Batch.Tb.below HT.out bw2.out)).mono ?_); rintro e w3 ⟨rfl, bz⟩; have hbel : Below w2.heap.size w2 w3 := (by exact bz); clear bz; have bw3 := Lib.hid (bel2 bw2.out hbel); have zw3 := Lib.hid hbel.size; have vw3g := Lib.hid (vw2g.out.below hbel vw2g.out.lt); have vw3x := Lib.hid (vw2x.out.below hbel vw2x.out.lt); have vw3f := Lib.hid (vw2f.out.below hbel vw2f.out.lt); have rw3P := Lib.hid (owns_below rw2P.out hbel); clear hbel))
    | (go_at_call 6; (with_reducible refine (HPI.out _).mono ?_); rintro e wsame ⟨rfl, rfl⟩)
    | (go_at_call 6; (with_reducible refine (HPK.out _).mono ?_); rintro e wsame ⟨rfl, rfl⟩)
    | (at_builtin; go_loud (refine append_at rfl _ _ 30 rfl w3.heap.size 29 (.agg #[.int .i64 0, .int .u32 0, .int .u32 0, .string ⟨#[]⟩]) 4 32 Tryz.underlying30 infoF rfl (by decide) (.slice none 0 0) 0 [] rfl ⟨rfl, .inl ⟨rfl, rfl⟩⟩ ⟨gP, 0, none⟩ PL.length vc (flatF PL) rfl (flatF_length _) (fat_news (fat_of rw3P.out)) (flat_one _) ?c1 ?c2 ?c3 ?_; (case c1 => omega); (case c2 => (unfold maxLen; omega)); (case c3 => exact Nat.le_refl _); intro v9 w9 hown9 hgrow9 hat9; have hb9 := below_append (Below.refl w3.heap.size w3) hgrow9 (Nat.le_refl _) (fun t ht => by cases ht); rw [Nat.zero_add, List.nil_append] at hown9; with_reducible refine Exists.elim (owns_slice hown9) ?_; intro aM hh; with_reducible refine Exists.elim hh ?_; intro cM he9; clear hh; subst he9; with_reducible refine Exists.elim (fmine_some (fm_of hown9) h1) ?_; intro gM hh; have hgM := hh.1; subst hgM; clear hh; have hgB := Lib.hid (owns_block hown9 gM 0 rfl).2.2.1; have rM := Lib.hid hown9; have rP9 := Lib.hid (owns_below rw3P.out hb9); have vf9 := Lib.hid (vw3f.out.below hb9 vw3f.out.lt); have HB9 := Lib.hid (bel2 bw3.out hb9); have HW9 := Lib.hid (show w.heap.size ≤ w3.heap.size from bw3.out.size); have hcM := fm_cap (fm_of rM.out); have hglt := owns_lt' rM.out; clear hown9 hgrow9 hat9 hb9; have vf1501 := (show Var w9 (w.heap.size + 2) 29 [.int .i64 fk, .int .u32 (vl fa), .int .u32 (vl fb), .string FB] from vf9.out); have c1502 := vf1501.cell (j := 0) rfl; have c1503 := vf1501.cell (j := 1) rfl; have c1504 := vf1501.cell (j := 2) rfl; have c1505 := vf1501.cell (j := 3) rfl; clear vf1501; have k0 := owns_cell rM.out hu0; have k1 := owns_frozen rM.out (i * 4)))
    | (go_at_call 6; (with_reducible refine (HPH.out _).mono ?_); rintro e wsame ⟨rfl, rfl⟩)
    | (go_at_call 6; (with_reducible refine (HPF.out _).mono ?_); rintro e wsame ⟨rfl, rfl⟩))
  obtain ⟨wS, hwS⟩ : ∃ wS, wS = (w9.setCell ⟨gM, i * 4, none⟩ (.int .i64 kk)) := ⟨_, rfl⟩
  rw [← hwS]
  have rS := Lib.hid (show World.ownsRow wS w3.heap.size 29 4 (.slice (some ⟨gM, 0, none⟩) PL.length cM) PL.length (flatF LK) by rw [hwS, ← hset]; exact owns_set rM.out (i * 4) (.int .i64 kk))
  have bS := Lib.hid (show Below w.heap.size w wS by rw [hwS]; exact HB9.out.setCell (p := ⟨gM, i * 4, none⟩) (by have := hgB.out; have := HW9.out; simp only; omega) _)
  clear hwS k0 k1 c1502 c1503 c1504 c1505
  go_wp2_with (first
    | (go_at_call 7; ((with_reducible refine (HJ.out _ _ _ _ (Batch.Tb.below HT.out bS.out) rS.out).mono ?_); rintro e w101 ⟨vi, vj, rfl, hown, bz⟩; have hbel : Below wS.heap.size wS w101 := (by exact bz); clear bz; have bw101 := Lib.hid (bel2 bS.out hbel); have zw101 := Lib.hid hbel.size; have rw101m := Lib.hid (owns_below rS.out hbel); have rw101Q := Lib.hid (show World.ownsRow w101 wS.heap.size 44 3 (.slice vi M.length vj) (M.length) (Batch.flatW M) from hown); clear hbel; clear hown))
    | (go_at_call 8; ((with_reducible refine (HK.out _ _ _ _ (owns_below rw101m.out (Geom.bel_alloc _ _))).mono ?_); rintro e w103 ⟨vk, vl_, rfl, hown, bz⟩; obtain ⟨w102, hw102⟩ : ∃ wx, wx = (w101.alloc (.cells #[.int .u32 (vl t0), .int .u32 (vl t1), .int .u32 (vl t2), .slice vi M.length vj] 27)) := ⟨_, rfl⟩; have bw102 := Lib.hid (show Below w.heap.size w w102 by rw [hw102]; exact (bel2 bw101.out (Geom.bel_alloc _ _))); have zw102 := Lib.hid (show w101.heap.size + 1 ≤ w102.heap.size by rw [hw102]; simp); have vw102y := Lib.hid (show Var w102 (w101.heap.size) 27 [.int .u32 (vl t0), .int .u32 (vl t1), .int .u32 (vl t2), .slice vi M.length vj] by rw [hw102]; exact (Var.new w101 27 [.int .u32 (vl t0), .int .u32 (vl t1), .int .u32 (vl t2), .slice vi M.length vj])); have rw102m := Lib.hid (show World.ownsRow (w102) (w3.heap.size) 29 4 (.slice (some ⟨gM, 0, none⟩) PL.length cM) (PL.length) (flatF LK) by rw [hw102]; exact (owns_below rw101m.out (Geom.bel_alloc _ _))); have rw102Q := Lib.hid (show World.ownsRow (w102) (wS.heap.size) 44 3 (.slice vi M.length vj) (M.length) (Batch.flatW M) by rw [hw102]; exact (owns_below rw101Q.out (Geom.bel_alloc _ _))); have hbel : Below w102.heap.size w102 w103 := (by rw [hw102]; exact bz); clear bz; have bw103 := Lib.hid (bel2 bw102.out hbel); have zw103 := Lib.hid hbel.size; have vw103y := Lib.hid (vw102y.out.below hbel vw102y.out.lt); have rw103m := Lib.hid (owns_below rw102m.out hbel); have rw103Q := Lib.hid (owns_below rw102Q.out hbel); have rw103S := Lib.hid (show World.ownsRow w103 w102.heap.size 44 3 (.slice vk M.length vl_) (M.length) (Batch.flatW M) from (by rw [hw102]; exact hown)); clear hbel; clear hown; have vf2001 := (show Var w103 (w101.heap.size) 27 [.int .u32 (vl t0), .int .u32 (vl t1), .int .u32 (vl t2), .slice vi M.length vj] from vw103y.out); have c2002 := vf2001.cell (j := 0) rfl; have c2003 := vf2001.cell (j := 1) rfl; have c2004 := vf2001.cell (j := 2) rfl; have c2005 := vf2001.cell (j := 3) rfl; clear vf2001; have vf2006 := (show Var (w103.alloc (.cells #[.int .u32 (vl t0), .int .u32 (vl t1), .int .u32 (vl t2), .slice vk M.length vl_] 27)) (w101.heap.size) 27 [.int .u32 (vl t0), .int .u32 (vl t1), .int .u32 (vl t2), .slice vi M.length vj] from (vw103y.out.alloc _)); have c2007 := vf2006.cell (j := 0) rfl; have c2008 := vf2006.cell (j := 1) rfl; have c2009 := vf2006.cell (j := 2) rfl; have c2010 := vf2006.cell (j := 3) rfl; clear vf2006; have vf2011 := (show Var (w103.alloc (.cells #[.int .u32 (vl t0), .int .u32 (vl t1), .int .u32 (vl t2), .slice vk M.length vl_] 27)) (w103.heap.size) 27 [.int .u32 (vl t0), .int .u32 (vl t1), .int .u32 (vl t2), .slice vk M.length vl_] from (Var.new w103 27 [.int .u32 (vl t0), .int .u32 (vl t1), .int .u32 (vl t2), .slice vk M.length vl_])); have c2012 := vf2011.cell (j := 0) rfl; have c2013 := vf2011.cell (j := 1) rfl; have c2014 := vf2011.cell (j := 2) rfl; have c2015 := vf2011.cell (j := 3) rfl; clear vf2011))
    | (go_at_call 9; ((with_reducible refine (HSG.out _ _ _ _ _ (wat_of (owns_below rw103Q.out (Geom.bel_alloc _ _))) (wat_of (owns_below rw103S.out (Geom.bel_alloc _ _)))).mono ?_); rintro e w105 ⟨rfl, bz⟩; obtain ⟨w104, hw104⟩ : ∃ wx, wx = (w103.alloc (.cells #[.int .u32 (vl t0), .int .u32 (vl t1), .int .u32 (vl t2), .slice vk M.length vl_] 27)) := ⟨_, rfl⟩; have bw104 := Lib.hid (show Below w.heap.size w w104 by rw [hw104]; exact (bel2 bw103.out (Geom.bel_alloc _ _))); have zw104 := Lib.hid (show w103.heap.size + 1 ≤ w104.heap.size by rw [hw104]; simp); have vw104y := Lib.hid (show Var w104 (w101.heap.size) 27 [.int .u32 (vl t0), .int .u32 (vl t1), .int .u32 (vl t2), .slice vi M.length vj] by rw [hw104]; exact (vw103y.out.alloc _)); have vw104z := Lib.hid (show Var w104 (w103.heap.size) 27 [.int .u32 (vl t0), .int .u32 (vl t1), .int .u32 (vl t2), .slice vk M.length vl_] by rw [hw104]; exact (Var.new w103 27 [.int .u32 (vl t0), .int .u32 (vl t1), .int .u32 (vl t2), .slice vk M.length vl_])); have rw104m := Lib.hid (show World.ownsRow (w104) (w3.heap.size) 29 4 (.slice (some ⟨gM, 0, none⟩) PL.length cM) (PL.length) (flatF LK) by rw [hw104]; exact (owns_below rw103m.out (Geom.bel_alloc _ _))); have rw104Q := Lib.hid (show World.ownsRow (w104) (wS.heap.size) 44 3 (.slice vi M.length vj) (M.length) (Batch.flatW M) by rw [hw104]; exact (owns_below rw103Q.out (Geom.bel_alloc _ _))); have rw104S := Lib.hid (show World.ownsRow (w104) (w102.heap.size) 44 3 (.slice vk M.length vl_) (M.length) (Batch.flatW M) by rw [hw104]; exact (owns_below rw103S.out (Geom.bel_alloc _ _))); have hbel : Below w104.heap.size w104 w105 := (by rw [hw104]; exact bz); clear bz; have bw105 := Lib.hid (bel2 bw104.out hbel); have zw105 := Lib.hid hbel.size; have vw105y := Lib.hid (vw104y.out.below hbel vw104y.out.lt); have vw105z := Lib.hid (vw104z.out.below hbel vw104z.out.lt); have rw105m := Lib.hid (owns_below rw104m.out hbel); have rw105Q := Lib.hid (owns_below rw104Q.out hbel); have rw105S := Lib.hid (owns_below rw104S.out hbel); clear hbel; clear c2002 c2003 c2004 c2005 c2007 c2008 c2009 c2010 c2012 c2013 c2014 c2015)))
  go_ret
  exact ⟨rfl, bw105.out⟩
theorem bent_any (g : Gm) (x : Gp) (a : Option Addr) (cap : Nat) (how at_ to_ : Int) (f : Fr) (hfb : f.body.length ≤ 1048576) (hl : x.wr.length ≤ maxLen) (w : World) (hT : Tb w) (hr : WAt w a x.wr) :
    Calls Tryz.prog 3 #[gV g, gpV x (.slice a x.wr.length cap), .int .i64 how, .int .i64 at_, .int .i64 to_, fV f] w fun e w' => e = .returned (.bool true) ∧ Below w.heap.size w w' := by
  have HCT := fun w hT hr => cut_frames g x a cap hl w hT hr
  have HA := fun w hT => alive_any w hT
  obtain ⟨PL, hPL⟩ : ∃ PL, PL = (cutG (smallG g) (shapedG x)).1 := ⟨_, rfl⟩
  have hfew5 : PL.length ≤ 500 := by
    by_cases hc : (cutG (smallG g) (shapedG x)).2 = 0
    · obtain ⟨b, hb, he⟩ := cut_ok (g := smallG g) (x := shapedG x) (l := (cutG (smallG g) (shapedG x)).1) (by rw [← hc])
      rw [hPL, he]; exact frames_tight hb
    · rw [hPL, cut_none hc]; simp
  have hfew : PL.length ≤ 1000 := by omega
  have hbod : ∀ f ∈ PL, f.body.length ≤ 1048576 := by
    by_cases hc : (cutG (smallG g) (shapedG x)).2 = 0
    · obtain ⟨b, hb, he⟩ := cut_ok (g := smallG g) (x := shapedG x) (l := (cutG (smallG g) (shapedG x)).1) (by rw [← hc])
      rw [hPL, he]; exact small_body hb
    · rw [hPL, cut_none hc]; simp
  rw [← hPL] at HCT
  clear hPL
  by_cases h0 : PL.length = 0
  · exact bent_f g.page g.pages g.regions x.seq x.prev x.frm a x.wr.length cap x.wr PL how at_ to_ f.kind f.a f.b (bs f.body) h0 HCT HA w hT hr
  have h1 : 0 < PL.length := by omega
  have HCT2 : ∀ w, Tb w → WAt w a x.wr → Calls Tryz.prog 4 #[gV g, gpV x (.slice a x.wr.length cap)] w fun e w' => ∃ gP vc, e = .returned (.slice (some ⟨gP, 0, none⟩) PL.length vc) ∧ FMine w' w.heap.size (.slice (some ⟨gP, 0, none⟩) PL.length vc) PL ∧ Below w.heap.size w w' := fun w hT hr =>
    (HCT w hT hr).mono fun e w' ⟨va, vc, he, hown, hb⟩ => by
      obtain ⟨gP, rfl, _⟩ := fmine_some hown h1
      exact ⟨gP, vc, he, hown, hb⟩
  obtain ⟨i, hi⟩ : ∃ i : Nat, (i : Int) = at_ % (PL.length : Int) := ⟨(at_ % (PL.length : Int)).toNat, by have := Int.emod_nonneg at_ (show (PL.length : Int) ≠ 0 by omega); omega⟩
  have hil : i < PL.length := by have := Int.emod_lt_of_pos at_ (show 0 < (PL.length : Int) by omega); omega
  obtain ⟨k, hk⟩ : ∃ k : Nat, (k : Int) = to_ % (PL.length : Int) := ⟨(to_ % (PL.length : Int)).toNat, by have := Int.emod_nonneg to_ (show (PL.length : Int) ≠ 0 by omega); omega⟩
  have hkl : k < PL.length := by have := Int.emod_lt_of_pos to_ (show 0 < (PL.length : Int) by omega); omega
  have HPI := fun w => Book.pick_any at_ PL.length h1 (by omega) w
  have HPK := fun w => Book.pick_any to_ PL.length h1 (by omega) w
  rw [← hi] at HPI
  rw [← hk] at HPK
  have HPH : ∀ w, Calls Tryz.prog 6 #[.int .i64 how, .int .i64 7] w fun e w' => e = .returned (.int .i64 (how % 7)) ∧ w = w' := fun w => Book.pick_any how 7 (by decide) (by decide) w
  have HPF : ∀ w, Calls Tryz.prog 6 #[.int .i64 f.kind, .int .i64 6] w fun e w' => e = .returned (.int .i64 (f.kind % 6)) ∧ w = w' := fun w => Book.pick_any f.kind 6 (by decide) (by decide) w
  have JJ : ∀ (LK : List Fr) (n : Nat), LK.length = n → LK.length ≤ 1001 → (∀ q ∈ LK, q.body.length ≤ 1048576) → LK.length ≤ 1000 →
      (∀ w base a c, Tb w → w.ownsRow base 29 4 (.slice a n c) n (flatF LK) → Calls Tryz.prog 7 #[.slice a n c] w fun e w' => ∃ va vc, e = .returned (.tuple #[gpV (joinG LK).1 (.slice va (joinG LK).1.wr.length vc), .int .i64 ((joinG LK).2 : Int)]) ∧ WMine w' w.heap.size (.slice va (joinG LK).1.wr.length vc) (joinG LK).1.wr ∧ Below w.heap.size w w') ∧
      (∀ w base a c, w.ownsRow base 29 4 (.slice a n c) n (flatF LK) → Calls Tryz.prog 8 #[.slice a n c] w fun e w' => ∃ va vc, e = .returned (.tuple #[gpV (joinG LK).1 (.slice va (joinG LK).1.wr.length vc), .int .i64 ((joinG LK).2 : Int)]) ∧ WMine w' w.heap.size (.slice va (joinG LK).1.wr.length vc) (joinG LK).1.wr ∧ Below w.heap.size w w') := by
    intro LK n hn _ hb hf
    subst hn
    exact ⟨fun w base a c hT hr => join_mine (join_any a LK c hf hb (fm_cap (fm_of hr)) w hT (fat_of hr)), fun w base a c hr => join_mine (refJoin_any a LK c hf hb w (fat_of hr))⟩
  have hgi := List.getElem?_eq_getElem hil
  have hgk := List.getElem?_eq_getElem hkl
  obtain ⟨p, hp⟩ : ∃ p, p = PL[i] := ⟨_, rfl⟩
  obtain ⟨q, hq⟩ : ∃ q, q = PL[k] := ⟨_, rfl⟩
  rw [← hp] at hgi
  rw [← hq] at hgk
  have hpb := hbod p (List.mem_of_getElem? hgi)
  have hqb := hbod q (List.mem_of_getElem? hgk)
  have hsetb : ∀ (l : List Fr) (j : Nat) (r : Fr), (∀ s ∈ l, s.body.length ≤ 1048576) → r.body.length ≤ 1048576 → ∀ s ∈ l.set j r, s.body.length ≤ 1048576 := fun l j r h1 h2 s hs => by
    rcases List.mem_or_eq_of_mem_set hs with hs | rfl
    · exact h1 s hs
    · exact h2
  obtain ⟨f0, f1, f2, f3⟩ := flatF_at _ _ _ hgi
  have hfk := flatF_at _ _ _ hgk
  have hs := Int.emod_nonneg how (show (7 : Int) ≠ 0 by decide)
  have hs2 := Int.emod_lt_of_pos how (show (0 : Int) < 7 by decide)
  have fin : ∀ (LK : List Fr), (joinG LK).1.wr.length ≤ 1000000 := join_few
  by_cases e0 : how % 7 = 0
  · rw [e0] at HPH
    obtain ⟨LK, hLK⟩ : ∃ LK : List Fr, LK = PL.set i ⟨p.kind, f.a, p.b, p.body⟩ := ⟨_, rfl⟩
    obtain ⟨HJ, HK⟩ := JJ LK PL.length (by rw [hLK, List.length_set]) (by rw [hLK, List.length_set]; omega) (by rw [hLK]; exact hsetb PL i _ hbod (by first | exact hpb | exact hfb)) (by rw [hLK, List.length_set]; omega)
    have HS := fun w a b c d ha hb => sameG_any (joinG LK).1 a b c d (fin LK) w ha hb
    generalize joinG LK = J at *
    obtain ⟨⟨t0, t1, t2, M⟩, c9⟩ := J
    exact bent_0 g.page g.pages g.regions x.seq x.prev x.frm a x.wr.length cap x.wr PL how at_ to_ f.kind f.a f.b (bs f.body) h1 hfew i k hil hkl LK t0 t1 t2 M c9 (by rw [hLK]; exact flatF_at1 PL i p f.a hgi) _ f1 HCT2 HA HPI HPK HPH HJ HK HS w hT hr
  by_cases e1 : how % 7 = 1
  · rw [e1] at HPH
    obtain ⟨LK, hLK⟩ : ∃ LK : List Fr, LK = PL.set i ⟨p.kind, p.a, f.b, p.body⟩ := ⟨_, rfl⟩
    obtain ⟨HJ, HK⟩ := JJ LK PL.length (by rw [hLK, List.length_set]) (by rw [hLK, List.length_set]; omega) (by rw [hLK]; exact hsetb PL i _ hbod (by first | exact hpb | exact hfb)) (by rw [hLK, List.length_set]; omega)
    have HS := fun w a b c d ha hb => sameG_any (joinG LK).1 a b c d (fin LK) w ha hb
    generalize joinG LK = J at *
    obtain ⟨⟨t0, t1, t2, M⟩, c9⟩ := J
    exact bent_1 g.page g.pages g.regions x.seq x.prev x.frm a x.wr.length cap x.wr PL how at_ to_ f.kind f.a f.b (bs f.body) h1 hfew i k hil hkl LK t0 t1 t2 M c9 (by rw [hLK]; exact flatF_at2 PL i p f.b hgi) _ f2 HCT2 HA HPI HPK HPH HJ HK HS w hT hr
  by_cases e2 : how % 7 = 2
  · rw [e2] at HPH
    obtain ⟨LK, hLK⟩ : ∃ LK : List Fr, LK = PL.set i ⟨p.kind, p.a, p.b, f.body⟩ := ⟨_, rfl⟩
    obtain ⟨HJ, HK⟩ := JJ LK PL.length (by rw [hLK, List.length_set]) (by rw [hLK, List.length_set]; omega) (by rw [hLK]; exact hsetb PL i _ hbod (by first | exact hpb | exact hfb)) (by rw [hLK, List.length_set]; omega)
    have HS := fun w a b c d ha hb => sameG_any (joinG LK).1 a b c d (fin LK) w ha hb
    generalize joinG LK = J at *
    obtain ⟨⟨t0, t1, t2, M⟩, c9⟩ := J
    exact bent_2 g.page g.pages g.regions x.seq x.prev x.frm a x.wr.length cap x.wr PL how at_ to_ f.kind f.a f.b (bs f.body) h1 hfew i k hil hkl LK t0 t1 t2 M c9 (by rw [hLK]; exact flatF_set PL i p f.body hgi) _ f3 HCT2 HA HPI HPK HPH HJ HK HS w hT hr
  by_cases e6 : how % 7 = 6
  · rw [e6] at HPH
    obtain ⟨LK, hLK⟩ : ∃ LK : List Fr, LK = PL.set i ⟨f.kind % 6, p.a, p.b, p.body⟩ := ⟨_, rfl⟩
    obtain ⟨HJ, HK⟩ := JJ LK PL.length (by rw [hLK, List.length_set]) (by rw [hLK, List.length_set]; omega) (by rw [hLK]; exact hsetb PL i _ hbod (by first | exact hpb | exact hfb)) (by rw [hLK, List.length_set]; omega)
    have HS := fun w a b c d ha hb => sameG_any (joinG LK).1 a b c d (fin LK) w ha hb
    generalize joinG LK = J at *
    obtain ⟨⟨t0, t1, t2, M⟩, c9⟩ := J
    exact bent_6 g.page g.pages g.regions x.seq x.prev x.frm a x.wr.length cap x.wr PL how at_ to_ f.kind f.a f.b (bs f.body) h1 hfew i k hil hkl LK t0 t1 t2 M c9 (f.kind % 6) (by rw [hLK]; exact flatF_at0 PL i p (f.kind % 6) hgi) _ f0 HCT2 HA HPI HPK HPH HPF HJ HK HS w hT hr
  by_cases e3 : how % 7 = 3
  · rw [e3] at HPH
    obtain ⟨L1, hL1⟩ : ∃ L1 : List Fr, L1 = PL.set i q := ⟨_, rfl⟩
    obtain ⟨LK, hLK⟩ : ∃ LK : List Fr, LK = L1.set k p := ⟨_, rfl⟩
    have hl1 : L1.length = PL.length := by rw [hL1, List.length_set]
    have hlk : LK.length = PL.length := by rw [hLK, List.length_set, hl1]
    obtain ⟨HJ, HK⟩ := JJ LK PL.length hlk (by omega) (by rw [hLK]; exact hsetb L1 k p (by rw [hL1]; exact hsetb PL i q hbod hqb) hpb) (by omega)
    have HS := fun w a b c d ha hb => sameG_any (joinG LK).1 a b c d (fin LK) w ha hb
    generalize joinG LK = J at *
    obtain ⟨⟨t0, t1, t2, M⟩, c9⟩ := J
    have hk1 : L1[k]? = some L1[k] := List.getElem?_eq_getElem (by omega)
    have hu := flatF_at _ _ _ hk1
    exact bent_3 g.page g.pages g.regions x.seq x.prev x.frm a x.wr.length cap x.wr PL how at_ to_ f.kind f.a f.b (bs f.body) h1 hfew i k hil hkl LK t0 t1 t2 M c9 p.kind q.kind p.a p.b q.a q.b (bs p.body) (bs q.body) L1 ⟨f0, f1, f2, f3⟩ hfk (L1[k]).kind (L1[k]).a (L1[k]).b (bs (L1[k]).body) hu (by rw [hL1]; exact flatF_put PL i q hil) (by rw [hLK]; exact flatF_put L1 k p (by omega)) HCT2 HA HPI HPK HPH HJ HK HS w hT hr
  by_cases e4 : how % 7 = 4
  · rw [e4] at HPH
    obtain ⟨LK, hLK⟩ : ∃ LK : List Fr, LK = PL.take i ++ PL.drop (i + 1) := ⟨_, rfl⟩
    have hlk : LK.length + 1 = PL.length := by rw [hLK, List.length_append, List.length_take, List.length_drop]; omega
    obtain ⟨HJ, HK⟩ := JJ LK LK.length rfl (by omega) (fun s hs => by
      rw [hLK] at hs
      rcases List.mem_append.1 hs with hs | hs
      · exact hbod s (List.mem_of_mem_take hs)
      · exact hbod s (List.mem_of_mem_drop hs)) (by omega)
    have HS := fun w a b c d ha hb => sameG_any (joinG LK).1 a b c d (fin LK) w ha hb
    generalize joinG LK = J at *
    obtain ⟨⟨t0, t1, t2, M⟩, c9⟩ := J
    exact bent_4 g.page g.pages g.regions x.seq x.prev x.frm a x.wr.length cap x.wr PL how at_ to_ f.kind f.a f.b (bs f.body) h1 hfew i k hil hkl LK t0 t1 t2 M c9 hLK hlk HCT2 HA HPI HPK HPH HJ HK HS w hT hr
  have e5 : how % 7 = 5 := by omega
  rw [e5] at HPH
  obtain ⟨LK, hLK⟩ : ∃ LK : List Fr, LK = PL ++ [p] := ⟨_, rfl⟩
  have hlk : LK.length = PL.length + 1 := by rw [hLK, List.length_append]; rfl
  obtain ⟨HJ, HK⟩ := JJ LK (PL.length + 1) hlk (by omega) (fun s hs => by
    rw [hLK] at hs
    rcases List.mem_append.1 hs with hs | hs
    · exact hbod s hs
    · rw [List.mem_singleton.1 hs]; exact hpb) (by omega)
  have HS := fun w a b c d ha hb => sameG_any (joinG LK).1 a b c d (fin LK) w ha hb
  generalize joinG LK = J at *
  obtain ⟨⟨t0, t1, t2, M⟩, c9⟩ := J
  exact bent_5 g.page g.pages g.regions x.seq x.prev x.frm a x.wr.length cap x.wr PL how at_ to_ f.kind f.a f.b (bs f.body) h1 hfew i k hil hkl LK t0 t1 t2 M c9 p.kind p.a p.b (bs p.body) (by rw [hLK, flatF_snoc]; rfl) ⟨f0, f1, f2, f3⟩ HCT2 HA HPI HPK HPH HJ HK HS w hT hr
end Go.Proofs.YtligapgjdpdihaaGreatDoor.Group
