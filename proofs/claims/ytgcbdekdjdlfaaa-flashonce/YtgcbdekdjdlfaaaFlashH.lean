/-
  FlashPlays: a byte that rots on both devices.
-/
import Derived.Test.YtgcbdekdjdlfaaaFlashG
import Derived.Test.YtgcbdekdjdlfaaaPick
set_option linter.unusedVariables false
set_option linter.unusedSimpArgs false
namespace Go.Proofs.Ytgcbdekdjdlfaaa.Flash
open Go.RowKit
open Go.Proofs.Ytgcbdekdjdlfaaa.Own
open Tup Bytes Foot
open Go.Proofs.Ytgcbdekdjdlfaaa.Region (fill Then Deps Each wp_region_is wp_region_is_tail Deps2 Each2 Owes upd put wp_region_each3 slots)
/-- behind some of the operations of 'f.Rot(..) == r.Rot(..)' -/
def RJ (w0 : World) (p r : Nat) (d d' : Dev) (S R : Nat → Prop) (B : Nat) (t : TypeId) (bx tab : List Value) (dd : Nat → Bool) (ys : Nat → Value) (wx : World) : Prop :=
  (∀ i, i < 13 → dd i = true → ys (117 + i) = tab.getD i undef) ∧ (dd 13 = true → ys 6 = .bool true)
  ∧ ∃ S' R', Two wx p r (if dd 5 then d' else d) (if dd 11 then d' else d) S' R' ∧ After (both S R) w0 wx (both S' R') ∧ Var wx B t bx
theorem RJ.tabs {w0 : World} {p r : Nat} {d d' : Dev} {S R : Nat → Prop} {B : Nat} {t : TypeId} {bx tab : List Value} {dd : Nat → Bool} {ys : Nat → Value} {wx : World} (h : RJ w0 p r d d' S R B t bx tab dd ys wx) {i : Nat} (hi : i < 13) {v : Value} (hv : v = tab.getD i undef) :
    (∀ j, j < 13 → upd dd i j = true → put ys (some (117 + i)) v (117 + j) = tab.getD j undef) ∧ (upd dd i 13 = true → put ys (some (117 + i)) v 6 = .bool true) := by
  constructor
  · intro j hj hd
    by_cases e : j = i
    · subst e; rw [put_eq]; exact hv
    · rw [put_ne v (by omega)]
      rw [upd_ne e] at hd
      exact h.1 j hj hd
  · intro hd
    rw [upd_ne (by omega)] at hd
    rw [put_ne v (by omega)]
    exact h.2.1 hd
theorem RJ.plain {w0 : World} {p r : Nat} {d d' : Dev} {S R : Nat → Prop} {B : Nat} {t : TypeId} {bx tab : List Value} {dd : Nat → Bool} {ys : Nat → Value} {wx : World} (h : RJ w0 p r d d' S R B t bx tab dd ys wx) {i : Nat} (hi : i < 13) (h5 : i ≠ 5) (h11 : i ≠ 11) {v : Value} (hv : v = tab.getD i undef) :
    RJ w0 p r d d' S R B t bx tab (upd dd i) (put ys (some (117 + i)) v) wx := by
  refine ⟨(h.tabs hi hv).1, (h.tabs hi hv).2, ?_⟩
  rw [upd_ne (fun e => h5 e.symm), upd_ne (fun e => h11 e.symm)]
  exact h.2.2
theorem RJ.last {w0 : World} {p r : Nat} {d d' : Dev} {S R : Nat → Prop} {B : Nat} {t : TypeId} {bx tab : List Value} {dd : Nat → Bool} {ys : Nat → Value} {wx : World} (h : RJ w0 p r d d' S R B t bx tab dd ys wx) :
    RJ w0 p r d d' S R B t bx tab (upd dd 13) (put ys (some 6) (.bool true)) wx := by
  refine ⟨fun j hj hd => ?_, fun _ => put_eq _ _ _, ?_⟩
  · rw [upd_ne (by omega)] at hd
    rw [put_ne _ (by omega)]
    exact h.1 j hj hd
  · rw [upd_ne (by omega), upd_ne (by omega)]
    exact h.2.2
theorem RJ.box {w0 w1 : World} {S R S' R' : Nat → Prop} {B : Nat} (a : After (both S R) w0 w1 (both S' R')) (h1 : ¬ both S R B) (h2 : B < w0.heap.size) : ¬ both S' R' B := fun x => by
  rcases a.foot B x with y | y
  · exact h1 y
  · omega
theorem RJ.left {w0 : World} {p r : Nat} {d d' : Dev} {S R : Nat → Prop} {B : Nat} {t : TypeId} {bx tab : List Value} {dd : Nat → Bool} {ys : Nat → Value} {wx wy : World} {S' R' S2 : Nat → Prop} (h : RJ w0 p r d d' S R B t bx tab dd ys wx) (h1 : ¬ both S R B) (h2 : B < w0.heap.size)
    (tw : Two wx p r d (if dd 11 then d' else d) S' R') (ha : After (both S R) w0 wx (both S' R')) (hv : Var wx B t bx) (hf : FHas wy p d' S2) (a : After S' wx wy S2) {v : Value} (hx : v = tab.getD 5 undef) :
    RJ w0 p r d d' S R B t bx tab (upd dd 5) (put ys (some 122) v) wy := by
  refine ⟨(h.tabs (i := 5) (by omega) hx).1, (h.tabs (i := 5) (by omega) hx).2, S2, R', ?_⟩
  rw [upd_eq, upd_ne (by omega)]
  obtain ⟨t1, a1⟩ := tw.left hf a
  exact ⟨t1, ha.trans a1, a.grows.var hv (fun x => RJ.box ha h1 h2 (.inl x))⟩
theorem RJ.right {w0 : World} {p r : Nat} {d d' : Dev} {S R : Nat → Prop} {B : Nat} {t : TypeId} {bx tab : List Value} {dd : Nat → Bool} {ys : Nat → Value} {wx wy : World} {S' R' R2 : Nat → Prop} (h : RJ w0 p r d d' S R B t bx tab dd ys wx) (h1 : ¬ both S R B) (h2 : B < w0.heap.size)
    (tw : Two wx p r (if dd 5 then d' else d) d S' R') (ha : After (both S R) w0 wx (both S' R')) (hv : Var wx B t bx) (hr : RHas wy r d' R2) (a : After R' wx wy R2) {v : Value} (hx : v = tab.getD 11 undef) :
    RJ w0 p r d d' S R B t bx tab (upd dd 11) (put ys (some 128) v) wy := by
  refine ⟨(h.tabs (i := 11) (by omega) hx).1, (h.tabs (i := 11) (by omega) hx).2, S', R2, ?_⟩
  rw [upd_eq, upd_ne (by omega)]
  obtain ⟨t1, a1⟩ := tw.right hr a
  exact ⟨t1, ha.trans a1, a.grows.var hv (fun x => RJ.box ha h1 h2 (.inr x))⟩
set_option maxRecDepth 100000 in
set_option maxHeartbeats 16000000 in
theorem step_false_10 {w : World} {p r : Nat} {d : Dev} {S R : Nat → Prop} (h : Two w p r d d S R) (hd : d.Ok) (tw ta tb : Int) (ts : ByteArray) (tx : UInt8) (tm : List Int) (ma : Option Addr) (ml mc : Nat) (hs : ts.size ≤ maxLen) (hM : MaskAt w ma tm (both S R)) (hm : ∀ m ∈ tm, m < 9223372036854775808) (hml : ml = tm.length) (hml2 : tm.length ≤ maxLen) (hk : tw % 12 = 10) :
    Calls Try.prog 17 #[.pointer (some ⟨p, 0, none⟩), .pointer (some ⟨r, 0, none⟩), .agg #[.int .i64 tw, .int .i64 ta, .int .i64 tb, .string ts, .int .u8 (tx.toNat : Int), .slice ma ml mc, .bool false]] w fun e w' => e = .returned (.bool true) ∧ ∃ S' R', Two w' p r (stepD d ⟨tw, ta, tb, ts, tx, tm, false⟩) (stepD d ⟨tw, ta, tb, ts, tx, tm, false⟩) S' R' ∧ After (both S R) w w' (both S' R') := by
  have HML := Lib.hid hml
  clear hml
  have H0 := Lib.hid h
  have M0 := Lib.hid hM
  have NS := Lib.hid (show ∀ k, w.heap.size ≤ k → ¬ S k from fun k hk hs => by have := h.f.lt k hs; omega)
  obtain ⟨q0, q1, q2⟩ := rCells h.r
  have r0 : (w.alloc (.cells #[.int .i64 tw, .int .i64 ta, .int .i64 tb, .string ts, .int .u8 (tx.toNat : Int), .slice ma ml mc, .bool false] 39)).cell? ⟨r, 0, none⟩ = some (.int .i64 (d.pg : Int)) := (Grows.alloc (fun _ => False) w _).cell q0 (fun x => x)
  have r1 : (w.alloc (.cells #[.int .i64 tw, .int .i64 ta, .int .i64 tb, .string ts, .int .u8 (tx.toNat : Int), .slice ma ml mc, .bool false] 39)).cell? ⟨r, 1, none⟩ = some (.int .i64 (d.pgs : Int)) := (Grows.alloc (fun _ => False) w _).cell q1 (fun x => x)
  have r2 : (w.alloc (.cells #[.int .i64 tw, .int .i64 ta, .int .i64 tb, .string ts, .int .u8 (tx.toNat : Int), .slice ma ml mc, .bool false] 39)).cell? ⟨r, 2, none⟩ = some (.int .i64 (d.rgs : Int)) := (Grows.alloc (fun _ => False) w _).cell q2 (fun x => x)
  have HVB := Lib.hid (show Var ((w.alloc (.cells #[.int .i64 tw, .int .i64 ta, .int .i64 tb, .string ts, .int .u8 (tx.toNat : Int), .slice ma ml mc, .bool false] 39)).alloc (.cells #[.int .i64 (d.pg : Int), .int .i64 (d.pgs : Int), .int .i64 (d.rgs : Int)] 23)) w.heap.size 39 [.int .i64 tw, .int .i64 ta, .int .i64 tb, .string ts, .int .u8 (tx.toNat : Int), .slice ma ml mc, .bool false] from (Var.new w 39 [.int .i64 tw, .int .i64 ta, .int .i64 tb, .string ts, .int .u8 (tx.toNat : Int), .slice ma ml mc, .bool false]).alloc _)
  have HVG := Lib.hid (show Var ((w.alloc (.cells #[.int .i64 tw, .int .i64 ta, .int .i64 tb, .string ts, .int .u8 (tx.toNat : Int), .slice ma ml mc, .bool false] 39)).alloc (.cells #[.int .i64 (d.pg : Int), .int .i64 (d.pgs : Int), .int .i64 (d.rgs : Int)] 23)) (w.heap.size + 1) 23 [.int .i64 (d.pg : Int), .int .i64 (d.pgs : Int), .int .i64 (d.rgs : Int)] by have := Var.new (w.alloc (.cells #[.int .i64 tw, .int .i64 ta, .int .i64 tb, .string ts, .int .u8 (tx.toNat : Int), .slice ma ml mc, .bool false] 39)) 23 [.int .i64 (d.pg : Int), .int .i64 (d.pgs : Int), .int .i64 (d.rgs : Int)]; rw [show (w.alloc (.cells #[.int .i64 tw, .int .i64 ta, .int .i64 tb, .string ts, .int .u8 (tx.toNat : Int), .slice ma ml mc, .bool false] 39)).heap.size = w.heap.size + 1 by simp] at this; exact this)
  have HB2 := Lib.hid (show Below w.heap.size w ((w.alloc (.cells #[.int .i64 tw, .int .i64 ta, .int .i64 tb, .string ts, .int .u8 (tx.toNat : Int), .slice ma ml mc, .bool false] 39)).alloc (.cells #[.int .i64 (d.pg : Int), .int .i64 (d.pgs : Int), .int .i64 (d.rgs : Int)] 23)) from bel2 (Geom.bel_alloc w _) (Geom.bel_alloc _ _))
  have hp0 := hd.p0
  have hp1 := hd.p1
  have hs0 := hd.s0
  have hs1 := hd.s1
  have hr0 := hd.r0
  have hr1 := hd.r1
  have hn1 := hd.n_le
  have hn0 : 0 < d.n := Nat.mul_pos (by omega) (by omega)
  have hnn : (d.pgs : Int) * (d.rgs : Int) = (d.n : Int) := by unfold Dev.n; rw [Int.natCast_mul]
  obtain ⟨fz, hfz⟩ : ∃ fz, fz = ta % 12 := ⟨_, rfl⟩
  have hf2 : 0 ≤ fz ∧ fz < 12 := by omega
  clear h hM q0 q1 q2
  have HK : Hid (∀ w, Calls Try.prog 19 #[.int .i64 tw, .int .i64 12] w fun e w' => e = .returned (.int .i64 10) ∧ w = w') := fun w => by have := Book.pick_any tw 12 (by decide) (by decide) w; rw [show tw % ((12 : Nat) : Int) = 10 from hk] at this; exact this
  obtain ⟨cd, dn, hrd⟩ : ∃ cd dn, rotD d ta tb tx = (cd, dn) := ⟨_, _, rfl⟩
  have HF := Lib.hid (fun w p S (h : FHas w p d S) => fRot_any h hd ta tb tx)
  rw [hrd] at HF
  have HR := Lib.hid (fun w p R (h : RHas w p d R) => rRot h hd ta tb tx)
  rw [hrd] at HR
  have eSt : stepD d ⟨tw, ta, tb, ts, tx, tm, false⟩ = (rotD d ta tb tx).2 := by unfold stepD St.page St.at; simp only [hk]; rfl
  have HSt := Lib.hid (show stepD d ⟨tw, ta, tb, ts, tx, tm, false⟩ = dn by rw [eSt, hrd])
  clear eSt
  clear hrd
  clear hk hfz
  go_enter Try.func17, Try.ntmps17
  go_wp2
  go_quiet (fail)
  obtain ⟨w5, hw5⟩ : ∃ w5, w5 = ((w.alloc (.cells #[.int .i64 tw, .int .i64 ta, .int .i64 tb, .string ts, .int .u8 (tx.toNat : Int), .slice ma ml mc, .bool false] 39)).alloc (.cells #[.int .i64 (d.pg : Int), .int .i64 (d.pgs : Int), .int .i64 (d.rgs : Int)] 23)).drewN nq := ⟨_, rfl⟩
  rw [← hw5]
  have B5 := Lib.hid (show Below ((w.alloc (.cells #[.int .i64 tw, .int .i64 ta, .int .i64 tb, .string ts, .int .u8 (tx.toNat : Int), .slice ma ml mc, .bool false] 39)).alloc (.cells #[.int .i64 (d.pg : Int), .int .i64 (d.pgs : Int), .int .i64 (d.rgs : Int)] 23)).heap.size ((w.alloc (.cells #[.int .i64 tw, .int .i64 ta, .int .i64 tb, .string ts, .int .u8 (tx.toNat : Int), .slice ma ml mc, .bool false] 39)).alloc (.cells #[.int .i64 (d.pg : Int), .int .i64 (d.pgs : Int), .int .i64 (d.rgs : Int)] 23)) w5 by rw [hw5]; exact below_drewN _ _)
  have VB5 := Lib.hid (HVB.out.below B5.out HVB.out.lt)
  have VG5 := Lib.hid (HVG.out.below B5.out HVG.out.lt)
  have BW5 := Lib.hid (HB2.out.trans (B5.out.mono HB2.out.size))
  clear hw5 r0 r1 r2
  have x0 := VB5.out.cell (j := 0) rfl
  have x1 := VB5.out.cell (j := 1) rfl
  have x2 := VB5.out.cell (j := 2) rfl
  have x3 := VB5.out.cell (j := 3) rfl
  have x4 := VB5.out.cell (j := 4) rfl
  have x5 := VB5.out.cell (j := 5) rfl
  have x6 := VB5.out.cell (j := 6) rfl
  have g0 := VG5.out.cell (j := 0) rfl
  have g1 := VG5.out.cell (j := 1) rfl
  have g2 := VG5.out.cell (j := 2) rfl
  have VB := VB5
  have VG := VG5
  have BW := BW5
  have TB := Lib.hid (H0.out.below BW.out)
  have MB := Lib.hid (M0.out.grows (Grows.of_below (S := fun _ => False) BW.out) (fun _ x => x.elim))
  have MF := Lib.hid (MB.out.sub (T := S) (fun k hk => Or.inl hk))
  go_wp2_with (first
    | (go_at_call 19; (with_reducible refine (HK.out _).mono ?_); rintro e wz ⟨rfl, rfl⟩))
  have NB := Lib.hid (show ¬ both S R w.heap.size from fun x => by have := H0.out.lt _ x; omega)
  have LB := Lib.hid (show w.heap.size < w5.heap.size from VB.out.lt)
  refine wp_region_each3 [some 117, some 118, some 119, some 120, some 121, some 122, some 123, some 124, some 125, some 126, some 127, some 128, some 129, some 6] (RJ w5 p r d dn S R w.heap.size 39 [.int .i64 tw, .int .i64 ta, .int .i64 tb, .string ts, .int .u8 (tx.toNat : Int), .slice ma ml mc, .bool false] [.pointer (some ⟨p, 0, none⟩), .int .i64 ta, .int .i64 tb, .pointer (some ⟨w.heap.size, 4, none⟩), .int .u8 (tx.toNat : Int), .int .i64 (cd : Int), .pointer (some ⟨r, 0, none⟩), .int .i64 ta, .int .i64 tb, .pointer (some ⟨w.heap.size, 4, none⟩), .int .u8 (tx.toNat : Int), .int .i64 (cd : Int), .bool true]) (by kernel_rfl) (by kernel_rfl) (by simp [slots]) ?start ?each ?done
  case start => exact ⟨by simp, by simp, S, R, TB.out.below (below_drewN _ 1), after_below (below_drewN _ 1), VB.out.below (below_drewN _ 1) VB.out.lt⟩
  case each =>
    clear x0 x1 x2 x3 x4 x5 x6 g0 g1 g2
    simp only [Each2]
    refine ⟨?o0, ?o1, ?o2, ?o3, ?o4, ?o5, ?o6, ?o7, ?o8, ?o9, ?o10, ?o11, ?o12, ?o13, trivial⟩
    case o0 =>
      intro d0 ys wx hJ hdi hw hdeps
      simp only [List.getD_cons_succ, List.getD_cons_zero, fill, slots, List.filterMap_cons, List.filterMap_nil, id, List.foldl_cons, List.foldl_nil, Act.put, List.setIfInBounds_toArray, List.set_cons_succ, List.set_cons_zero]
      go_wp2_with fail
      exact ⟨_, rfl, hJ.plain (i := 0) (by decide) (by decide) (by decide) rfl⟩
    case o1 =>
      intro d0 ys wx hJ hdi hw hdeps
      simp only [List.getD_cons_succ, List.getD_cons_zero, fill, slots, List.filterMap_cons, List.filterMap_nil, id, List.foldl_cons, List.foldl_nil, Act.put, List.setIfInBounds_toArray, List.set_cons_succ, List.set_cons_zero]
      go_wp2_with fail
      exact ⟨_, rfl, hJ.plain (i := 1) (by decide) (by decide) (by decide) rfl⟩
    case o2 =>
      intro d0 ys wx hJ hdi hw hdeps
      simp only [List.getD_cons_succ, List.getD_cons_zero, fill, slots, List.filterMap_cons, List.filterMap_nil, id, List.foldl_cons, List.foldl_nil, Act.put, List.setIfInBounds_toArray, List.set_cons_succ, List.set_cons_zero]
      go_wp2_with fail
      exact ⟨_, rfl, hJ.plain (i := 2) (by decide) (by decide) (by decide) rfl⟩
    case o3 =>
      intro d0 ys wx hJ hdi hw hdeps
      simp only [List.getD_cons_succ, List.getD_cons_zero, fill, slots, List.filterMap_cons, List.filterMap_nil, id, List.foldl_cons, List.foldl_nil, Act.put, List.setIfInBounds_toArray, List.set_cons_succ, List.set_cons_zero]
      go_wp2_with fail
      exact ⟨_, rfl, hJ.plain (i := 3) (by decide) (by decide) (by decide) rfl⟩
    case o4 =>
      intro d0 ys wx hJ hdi hw hdeps
      have q3 : d0 3 = true := by simp [Region.Deps2, Go.Region.binds] at hdeps; simp [hdeps]
      have y3 : ys 120 = .pointer (some ⟨w.heap.size, 4, none⟩) := hJ.1 3 (by decide) q3
      obtain ⟨S3, R3, t3, a3, v3⟩ := hJ.2.2
      have c4 := v3.cell (j := 4) rfl
      clear t3 a3 v3
      simp only [y3, List.getD_cons_succ, List.getD_cons_zero, fill, slots, List.filterMap_cons, List.filterMap_nil, id, List.foldl_cons, List.foldl_nil, Act.put, List.setIfInBounds_toArray, List.set_cons_succ, List.set_cons_zero]
      go_wp2_with fail
      exact ⟨_, rfl, hJ.plain (i := 4) (by decide) (by decide) (by decide) rfl⟩
    case o5 =>
      intro d0 ys wx hJ hdi hw hdeps
      have q0 : d0 0 = true := by simp [Region.Deps2, Go.Region.binds] at hdeps; simp [hdeps]
      have y0 : ys 117 = .pointer (some ⟨p, 0, none⟩) := hJ.1 0 (by decide) q0
      have q1 : d0 1 = true := by simp [Region.Deps2, Go.Region.binds] at hdeps; simp [hdeps]
      have y1 : ys 118 = .int .i64 ta := hJ.1 1 (by decide) q1
      have q2 : d0 2 = true := by simp [Region.Deps2, Go.Region.binds] at hdeps; simp [hdeps]
      have y2 : ys 119 = .int .i64 tb := hJ.1 2 (by decide) q2
      have q4 : d0 4 = true := by simp [Region.Deps2, Go.Region.binds] at hdeps; simp [hdeps]
      have y4 : ys 121 = .int .u8 (tx.toNat : Int) := hJ.1 4 (by decide) q4
      obtain ⟨S3, R3, t3, a3, v3⟩ := hJ.2.2
      rw [hdi, if_neg (by simp)] at t3
      have T3 := Lib.hid t3
      have A3 := Lib.hid a3
      have V3 := Lib.hid v3
      have HJ := Lib.hid hJ
      clear t3 a3 v3 hJ
      simp only [y0, y1, y2, y4, List.getD_cons_succ, List.getD_cons_zero, fill, slots, List.filterMap_cons, List.filterMap_nil, id, List.foldl_cons, List.foldl_nil, Act.put, List.setIfInBounds_toArray, List.set_cons_succ, List.set_cons_zero]
      go_wp2_with (go_at_call 33; (with_reducible refine (HF.out _ _ _ T3.out.f).mono ?_); rintro e wy ⟨rfl, S4, hf4, a4⟩)
      exact ⟨_, rfl, HJ.out.left NB.out LB.out T3.out A3.out V3.out hf4 a4 rfl⟩
    case o6 =>
      intro d0 ys wx hJ hdi hw hdeps
      simp only [List.getD_cons_succ, List.getD_cons_zero, fill, slots, List.filterMap_cons, List.filterMap_nil, id, List.foldl_cons, List.foldl_nil, Act.put, List.setIfInBounds_toArray, List.set_cons_succ, List.set_cons_zero]
      go_wp2_with fail
      exact ⟨_, rfl, hJ.plain (i := 6) (by decide) (by decide) (by decide) rfl⟩
    case o7 =>
      intro d0 ys wx hJ hdi hw hdeps
      simp only [List.getD_cons_succ, List.getD_cons_zero, fill, slots, List.filterMap_cons, List.filterMap_nil, id, List.foldl_cons, List.foldl_nil, Act.put, List.setIfInBounds_toArray, List.set_cons_succ, List.set_cons_zero]
      go_wp2_with fail
      exact ⟨_, rfl, hJ.plain (i := 7) (by decide) (by decide) (by decide) rfl⟩
    case o8 =>
      intro d0 ys wx hJ hdi hw hdeps
      simp only [List.getD_cons_succ, List.getD_cons_zero, fill, slots, List.filterMap_cons, List.filterMap_nil, id, List.foldl_cons, List.foldl_nil, Act.put, List.setIfInBounds_toArray, List.set_cons_succ, List.set_cons_zero]
      go_wp2_with fail
      exact ⟨_, rfl, hJ.plain (i := 8) (by decide) (by decide) (by decide) rfl⟩
    case o9 =>
      intro d0 ys wx hJ hdi hw hdeps
      simp only [List.getD_cons_succ, List.getD_cons_zero, fill, slots, List.filterMap_cons, List.filterMap_nil, id, List.foldl_cons, List.foldl_nil, Act.put, List.setIfInBounds_toArray, List.set_cons_succ, List.set_cons_zero]
      go_wp2_with fail
      exact ⟨_, rfl, hJ.plain (i := 9) (by decide) (by decide) (by decide) rfl⟩
    case o10 =>
      intro d0 ys wx hJ hdi hw hdeps
      have q9 : d0 9 = true := by simp [Region.Deps2, Go.Region.binds] at hdeps; simp [hdeps]
      have y9 : ys 126 = .pointer (some ⟨w.heap.size, 4, none⟩) := hJ.1 9 (by decide) q9
      obtain ⟨S3, R3, t3, a3, v3⟩ := hJ.2.2
      have c4 := v3.cell (j := 4) rfl
      clear t3 a3 v3
      simp only [y9, List.getD_cons_succ, List.getD_cons_zero, fill, slots, List.filterMap_cons, List.filterMap_nil, id, List.foldl_cons, List.foldl_nil, Act.put, List.setIfInBounds_toArray, List.set_cons_succ, List.set_cons_zero]
      go_wp2_with fail
      exact ⟨_, rfl, hJ.plain (i := 10) (by decide) (by decide) (by decide) rfl⟩
    case o11 =>
      intro d0 ys wx hJ hdi hw hdeps
      have q6 : d0 6 = true := by simp [Region.Deps2, Go.Region.binds] at hdeps; simp [hdeps]
      have y6 : ys 123 = .pointer (some ⟨r, 0, none⟩) := hJ.1 6 (by decide) q6
      have q7 : d0 7 = true := by simp [Region.Deps2, Go.Region.binds] at hdeps; simp [hdeps]
      have y7 : ys 124 = .int .i64 ta := hJ.1 7 (by decide) q7
      have q8 : d0 8 = true := by simp [Region.Deps2, Go.Region.binds] at hdeps; simp [hdeps]
      have y8 : ys 125 = .int .i64 tb := hJ.1 8 (by decide) q8
      have q10 : d0 10 = true := by simp [Region.Deps2, Go.Region.binds] at hdeps; simp [hdeps]
      have y10 : ys 127 = .int .u8 (tx.toNat : Int) := hJ.1 10 (by decide) q10
      obtain ⟨S3, R3, t3, a3, v3⟩ := hJ.2.2
      have t3 := t3
      have e11 : (if d0 11 then dn else d) = d := by rw [hdi]; rfl
      rw [e11] at t3
      have T3 := Lib.hid t3
      have A3 := Lib.hid a3
      have V3 := Lib.hid v3
      have HJ := Lib.hid hJ
      clear t3 a3 v3 hJ
      simp only [y6, y7, y8, y10, List.getD_cons_succ, List.getD_cons_zero, fill, slots, List.filterMap_cons, List.filterMap_nil, id, List.foldl_cons, List.foldl_nil, Act.put, List.setIfInBounds_toArray, List.set_cons_succ, List.set_cons_zero]
      go_wp2_with (go_at_call 41; (with_reducible refine (HR.out _ _ _ T3.out.r).mono ?_); rintro e wy ⟨rfl, R4, hr4, a4⟩)
      exact ⟨_, rfl, HJ.out.right NB.out LB.out T3.out A3.out V3.out hr4 a4 rfl⟩
    case o12 =>
      intro d0 ys wx hJ hdi hw hdeps
      have q5 : d0 5 = true := by simp [Region.Deps2, Go.Region.binds] at hdeps; simp [hdeps]
      have y5 : ys 122 = .int .i64 (cd : Int) := hJ.1 5 (by decide) q5
      have q11 : d0 11 = true := by simp [Region.Deps2, Go.Region.binds] at hdeps; simp [hdeps]
      have y11 : ys 128 = .int .i64 (cd : Int) := hJ.1 11 (by decide) q11
      simp only [y5, y11, List.getD_cons_succ, List.getD_cons_zero, fill, slots, List.filterMap_cons, List.filterMap_nil, id, List.foldl_cons, List.foldl_nil, Act.put, List.setIfInBounds_toArray, List.set_cons_succ, List.set_cons_zero]
      go_wp2_with fail
      exact ⟨_, rfl, hJ.plain (i := 12) (by decide) (by decide) (by decide) rfl⟩
    case o13 =>
      intro d0 ys wx hJ hdi hw hdeps
      have q12 : d0 12 = true := by simp [Region.Deps2, Go.Region.binds] at hdeps; simp [hdeps]
      have y12 : ys 129 = .bool true := hJ.1 12 (by decide) q12
      simp only [y12, List.getD_cons_succ, List.getD_cons_zero, fill, slots, List.filterMap_cons, List.filterMap_nil, id, List.foldl_cons, List.foldl_nil, Act.put, List.setIfInBounds_toArray, List.set_cons_succ, List.set_cons_zero]
      go_wp2_with fail
      exact ⟨_, rfl, hJ.last⟩
  case done =>
    intro d0 ys wx hJ hall
    have h6 : ys 6 = .bool true := hJ.2.1 (hall 13 (by decide))
    obtain ⟨S3, R3, t3, a3, v3⟩ := hJ.2.2
    rw [hall 5 (by decide), hall 11 (by decide), if_pos rfl] at t3
    have T3 := Lib.hid t3
    have A3 := Lib.hid a3
    clear t3 a3 v3 hJ hall
    simp only [h6, List.getD_cons_succ, List.getD_cons_zero, fill, slots, List.filterMap_cons, List.filterMap_nil, id, List.foldl_cons, List.foldl_nil, Act.put, List.setIfInBounds_toArray, List.set_cons_succ, List.set_cons_zero]
    go_wp2
    go_ret
    rw [HSt.out]
    exact ⟨rfl, S3, R3, T3.out, After.trans (after_below BW.out) A3.out⟩
set_option maxRecDepth 100000 in
set_option maxHeartbeats 16000000 in
theorem step_true_10 {w : World} {p r : Nat} {d : Dev} {S R : Nat → Prop} (h : Two w p r d d S R) (hd : d.Ok) (tw ta tb : Int) (ts : ByteArray) (tx : UInt8) (tm : List Int) (ma : Option Addr) (ml mc : Nat) (hs : ts.size ≤ maxLen) (hM : MaskAt w ma tm (both S R)) (hm : ∀ m ∈ tm, m < 9223372036854775808) (hml : ml = tm.length) (hml2 : tm.length ≤ maxLen) (hk : tw % 12 = 10) :
    Calls Try.prog 17 #[.pointer (some ⟨p, 0, none⟩), .pointer (some ⟨r, 0, none⟩), .agg #[.int .i64 tw, .int .i64 ta, .int .i64 tb, .string ts, .int .u8 (tx.toNat : Int), .slice ma ml mc, .bool true]] w fun e w' => e = .returned (.bool true) ∧ ∃ S' R', Two w' p r (stepD d ⟨tw, ta, tb, ts, tx, tm, true⟩) (stepD d ⟨tw, ta, tb, ts, tx, tm, true⟩) S' R' ∧ After (both S R) w w' (both S' R') := by
  have HML := Lib.hid hml
  clear hml
  have H0 := Lib.hid h
  have M0 := Lib.hid hM
  have NS := Lib.hid (show ∀ k, w.heap.size ≤ k → ¬ S k from fun k hk hs => by have := h.f.lt k hs; omega)
  obtain ⟨q0, q1, q2⟩ := rCells h.r
  have r0 : (w.alloc (.cells #[.int .i64 tw, .int .i64 ta, .int .i64 tb, .string ts, .int .u8 (tx.toNat : Int), .slice ma ml mc, .bool true] 39)).cell? ⟨r, 0, none⟩ = some (.int .i64 (d.pg : Int)) := (Grows.alloc (fun _ => False) w _).cell q0 (fun x => x)
  have r1 : (w.alloc (.cells #[.int .i64 tw, .int .i64 ta, .int .i64 tb, .string ts, .int .u8 (tx.toNat : Int), .slice ma ml mc, .bool true] 39)).cell? ⟨r, 1, none⟩ = some (.int .i64 (d.pgs : Int)) := (Grows.alloc (fun _ => False) w _).cell q1 (fun x => x)
  have r2 : (w.alloc (.cells #[.int .i64 tw, .int .i64 ta, .int .i64 tb, .string ts, .int .u8 (tx.toNat : Int), .slice ma ml mc, .bool true] 39)).cell? ⟨r, 2, none⟩ = some (.int .i64 (d.rgs : Int)) := (Grows.alloc (fun _ => False) w _).cell q2 (fun x => x)
  have HVB := Lib.hid (show Var ((w.alloc (.cells #[.int .i64 tw, .int .i64 ta, .int .i64 tb, .string ts, .int .u8 (tx.toNat : Int), .slice ma ml mc, .bool true] 39)).alloc (.cells #[.int .i64 (d.pg : Int), .int .i64 (d.pgs : Int), .int .i64 (d.rgs : Int)] 23)) w.heap.size 39 [.int .i64 tw, .int .i64 ta, .int .i64 tb, .string ts, .int .u8 (tx.toNat : Int), .slice ma ml mc, .bool true] from (Var.new w 39 [.int .i64 tw, .int .i64 ta, .int .i64 tb, .string ts, .int .u8 (tx.toNat : Int), .slice ma ml mc, .bool true]).alloc _)
  have HVG := Lib.hid (show Var ((w.alloc (.cells #[.int .i64 tw, .int .i64 ta, .int .i64 tb, .string ts, .int .u8 (tx.toNat : Int), .slice ma ml mc, .bool true] 39)).alloc (.cells #[.int .i64 (d.pg : Int), .int .i64 (d.pgs : Int), .int .i64 (d.rgs : Int)] 23)) (w.heap.size + 1) 23 [.int .i64 (d.pg : Int), .int .i64 (d.pgs : Int), .int .i64 (d.rgs : Int)] by have := Var.new (w.alloc (.cells #[.int .i64 tw, .int .i64 ta, .int .i64 tb, .string ts, .int .u8 (tx.toNat : Int), .slice ma ml mc, .bool true] 39)) 23 [.int .i64 (d.pg : Int), .int .i64 (d.pgs : Int), .int .i64 (d.rgs : Int)]; rw [show (w.alloc (.cells #[.int .i64 tw, .int .i64 ta, .int .i64 tb, .string ts, .int .u8 (tx.toNat : Int), .slice ma ml mc, .bool true] 39)).heap.size = w.heap.size + 1 by simp] at this; exact this)
  have HB2 := Lib.hid (show Below w.heap.size w ((w.alloc (.cells #[.int .i64 tw, .int .i64 ta, .int .i64 tb, .string ts, .int .u8 (tx.toNat : Int), .slice ma ml mc, .bool true] 39)).alloc (.cells #[.int .i64 (d.pg : Int), .int .i64 (d.pgs : Int), .int .i64 (d.rgs : Int)] 23)) from bel2 (Geom.bel_alloc w _) (Geom.bel_alloc _ _))
  have hp0 := hd.p0
  have hp1 := hd.p1
  have hs0 := hd.s0
  have hs1 := hd.s1
  have hr0 := hd.r0
  have hr1 := hd.r1
  have hn1 := hd.n_le
  have hn0 : 0 < d.n := Nat.mul_pos (by omega) (by omega)
  have hnn : (d.pgs : Int) * (d.rgs : Int) = (d.n : Int) := by unfold Dev.n; rw [Int.natCast_mul]
  obtain ⟨fz, hfz⟩ : ∃ fz, fz = ta % 12 := ⟨_, rfl⟩
  have hf2 : 0 ≤ fz ∧ fz < 12 := by omega
  obtain ⟨nn, hN⟩ : ∃ nn, nn = d.n := ⟨_, rfl⟩
  rw [← hN] at hnn
  obtain ⟨pn, hpn⟩ : ∃ pn : Nat, (pn : Int) = ta % (d.n : Int) := ⟨(ta % (d.n : Int)).toNat, by have := Int.emod_nonneg ta (show (d.n : Int) ≠ 0 by omega); omega⟩
  obtain ⟨rn, hrn⟩ : ∃ rn : Nat, (rn : Int) = ta % (d.rgs : Int) := ⟨(ta % (d.rgs : Int)).toNat, by have := Int.emod_nonneg ta (show (d.rgs : Int) ≠ 0 by omega); omega⟩
  have hq1 : 0 ≤ (nn : Int) ∧ (nn : Int) ≤ 120 := by omega
  have HKp := Lib.hid (fun w => Book.pick_any ta nn (by omega) (by omega) w)
  rw [show ta % (nn : Int) = (pn : Int) by rw [hN, hpn]] at HKp
  have HSh := Lib.hid (fun w => shortB_any ts hs d.pg (by omega) (d.pg : Int) rfl w)
  obtain ⟨b1, hb1⟩ : ∃ b1, b1 = ts.data.toList.take d.pg := ⟨_, rfl⟩
  have lb : b1.length ≤ d.pg := by rw [hb1, List.length_take]; omega
  rw [← hb1] at HSh
  have HFi := Lib.hid (fun w => fillC 0 ((d.pg : Int) - (b1.length : Int)) (d.pg - b1.length) (by omega) (by omega) 0 rfl w)
  obtain ⟨bf, hbf0⟩ : ∃ bf, bf = b1 ++ rep (d.pg - b1.length) 0 := ⟨_, rfl⟩
  have hbf : bf = full ts d.pg 0 := by rw [hbf0, hb1]; rfl
  have zb : bs b1 ++ bs (rep (d.pg - b1.length) 0) = bs bf := by rw [bs_append, hbf0]
  have sb : (bs b1).size = b1.length := bs_size _
  have sb2 : (bs (rep (d.pg - b1.length) 0)).size = d.pg - b1.length := by rw [bs_size]; simp [rep]
  clear hN hb1 hbf0
  clear h hM q0 q1 q2
  have HK : Hid (∀ w, Calls Try.prog 19 #[.int .i64 tw, .int .i64 12] w fun e w' => e = .returned (.int .i64 10) ∧ w = w') := fun w => by have := Book.pick_any tw 12 (by decide) (by decide) w; rw [show tw % ((12 : Nat) : Int) = 10 from hk] at this; exact this
  obtain ⟨an, han⟩ : ∃ an : Nat, (an : Int) = tb % (d.pg : Int) := ⟨(tb % (d.pg : Int)).toNat, by have := Int.emod_nonneg tb (show (d.pg : Int) ≠ 0 by omega); omega⟩
  have HKt := Lib.hid (fun w => Book.pick_any tb d.pg (by omega) (by omega) w)
  rw [← han] at HKt
  obtain ⟨cd, dn, hrd⟩ : ∃ cd dn, rotD d (pn : Int) (an : Int) tx = (cd, dn) := ⟨_, _, rfl⟩
  have HF := Lib.hid (fun w p S (h : FHas w p d S) => fRot_any h hd (pn : Int) (an : Int) tx)
  rw [hrd] at HF
  have HR := Lib.hid (fun w p R (h : RHas w p d R) => rRot h hd (pn : Int) (an : Int) tx)
  rw [hrd] at HR
  have eSt : stepD d ⟨tw, ta, tb, ts, tx, tm, true⟩ = (rotD d (ta % (d.n : Int)) (tb % (d.pg : Int)) tx).2 := by unfold stepD St.page St.at; simp only [hk]; rfl
  have HSt := Lib.hid (show stepD d ⟨tw, ta, tb, ts, tx, tm, true⟩ = dn by rw [eSt, ← hpn, ← han, hrd])
  clear eSt
  clear hrd
  clear han
  clear hk hfz hpn hrn hbf
  go_enter Try.func17, Try.ntmps17
  go_wp2
  go_quiet (fail)
  obtain ⟨w5, hw5⟩ : ∃ w5, w5 = ((w.alloc (.cells #[.int .i64 tw, .int .i64 ta, .int .i64 tb, .string ts, .int .u8 (tx.toNat : Int), .slice ma ml mc, .bool true] 39)).alloc (.cells #[.int .i64 (d.pg : Int), .int .i64 (d.pgs : Int), .int .i64 (d.rgs : Int)] 23)).drewN nq := ⟨_, rfl⟩
  rw [← hw5]
  have B5 := Lib.hid (show Below ((w.alloc (.cells #[.int .i64 tw, .int .i64 ta, .int .i64 tb, .string ts, .int .u8 (tx.toNat : Int), .slice ma ml mc, .bool true] 39)).alloc (.cells #[.int .i64 (d.pg : Int), .int .i64 (d.pgs : Int), .int .i64 (d.rgs : Int)] 23)).heap.size ((w.alloc (.cells #[.int .i64 tw, .int .i64 ta, .int .i64 tb, .string ts, .int .u8 (tx.toNat : Int), .slice ma ml mc, .bool true] 39)).alloc (.cells #[.int .i64 (d.pg : Int), .int .i64 (d.pgs : Int), .int .i64 (d.rgs : Int)] 23)) w5 by rw [hw5]; exact below_drewN _ _)
  have VB5 := Lib.hid (HVB.out.below B5.out HVB.out.lt)
  have VG5 := Lib.hid (HVG.out.below B5.out HVG.out.lt)
  have BW5 := Lib.hid (HB2.out.trans (B5.out.mono HB2.out.size))
  clear hw5 r0 r1 r2
  have x0 := VB5.out.cell (j := 0) rfl
  have x1 := VB5.out.cell (j := 1) rfl
  have x2 := VB5.out.cell (j := 2) rfl
  have x3 := VB5.out.cell (j := 3) rfl
  have x4 := VB5.out.cell (j := 4) rfl
  have x5 := VB5.out.cell (j := 5) rfl
  have x6 := VB5.out.cell (j := 6) rfl
  have g0 := VG5.out.cell (j := 0) rfl
  have g1 := VG5.out.cell (j := 1) rfl
  have g2 := VG5.out.cell (j := 2) rfl
  go_wp2_with (first
    | (go_at_call 19; (with_reducible refine (HKp.out _).mono ?_); rintro e wz ⟨rfl, rfl⟩)
    | (go_at_call 11; (with_reducible refine (HSh.out _).mono ?_); rintro e wz ⟨rfl, rfl⟩)
    | (go_at_call 22; (with_reducible refine (HFi.out _).mono ?_); rintro e wb ⟨rfl, b6⟩; have VB := Lib.hid (VB5.out.below b6 VB5.out.lt); have VG := Lib.hid (VG5.out.below b6 VG5.out.lt); have BW := Lib.hid (BW5.out.trans (b6.mono BW5.out.size)); have TB := Lib.hid (H0.out.below BW.out); clear b6; have x0 := VB.out.cell (j := 0) rfl; have x1 := VB.out.cell (j := 1) rfl; have x2 := VB.out.cell (j := 2) rfl; have x3 := VB.out.cell (j := 3) rfl; have x4 := VB.out.cell (j := 4) rfl; have x5 := VB.out.cell (j := 5) rfl; have x6 := VB.out.cell (j := 6) rfl; have g0 := VG.out.cell (j := 0) rfl; have g1 := VG.out.cell (j := 1) rfl; have g2 := VG.out.cell (j := 2) rfl)
    | (go_at_call 19; (with_reducible refine (HK.out _).mono ?_); rintro e wz ⟨rfl, rfl⟩)
    | (go_at_call 19; (with_reducible refine (HKt.out _).mono ?_); rintro e wz ⟨rfl, rfl⟩))
  have NB := Lib.hid (show ¬ both S R w.heap.size from fun x => by have := H0.out.lt _ x; omega)
  have LB := Lib.hid (show w.heap.size < wb.heap.size from VB.out.lt)
  refine wp_region_each3 [some 117, some 118, some 119, some 120, some 121, some 122, some 123, some 124, some 125, some 126, some 127, some 128, some 129, some 6] (RJ wb p r d dn S R w.heap.size 39 [.int .i64 tw, .int .i64 ta, .int .i64 tb, .string ts, .int .u8 (tx.toNat : Int), .slice ma ml mc, .bool true] [.pointer (some ⟨p, 0, none⟩), .int .i64 (pn : Int), .int .i64 (an : Int), .pointer (some ⟨w.heap.size, 4, none⟩), .int .u8 (tx.toNat : Int), .int .i64 (cd : Int), .pointer (some ⟨r, 0, none⟩), .int .i64 (pn : Int), .int .i64 (an : Int), .pointer (some ⟨w.heap.size, 4, none⟩), .int .u8 (tx.toNat : Int), .int .i64 (cd : Int), .bool true]) (by kernel_rfl) (by kernel_rfl) (by simp [slots]) ?start ?each ?done
  case start => exact ⟨by simp, by simp, S, R, TB.out.below (below_drewN _ 1), after_below (below_drewN _ 1), VB.out.below (below_drewN _ 1) VB.out.lt⟩
  case each =>
    clear x0 x1 x2 x3 x4 x5 x6 g0 g1 g2
    simp only [Each2]
    refine ⟨?o0, ?o1, ?o2, ?o3, ?o4, ?o5, ?o6, ?o7, ?o8, ?o9, ?o10, ?o11, ?o12, ?o13, trivial⟩
    case o0 =>
      intro d0 ys wx hJ hdi hw hdeps
      simp only [List.getD_cons_succ, List.getD_cons_zero, fill, slots, List.filterMap_cons, List.filterMap_nil, id, List.foldl_cons, List.foldl_nil, Act.put, List.setIfInBounds_toArray, List.set_cons_succ, List.set_cons_zero]
      go_wp2_with fail
      exact ⟨_, rfl, hJ.plain (i := 0) (by decide) (by decide) (by decide) rfl⟩
    case o1 =>
      intro d0 ys wx hJ hdi hw hdeps
      simp only [List.getD_cons_succ, List.getD_cons_zero, fill, slots, List.filterMap_cons, List.filterMap_nil, id, List.foldl_cons, List.foldl_nil, Act.put, List.setIfInBounds_toArray, List.set_cons_succ, List.set_cons_zero]
      go_wp2_with fail
      exact ⟨_, rfl, hJ.plain (i := 1) (by decide) (by decide) (by decide) rfl⟩
    case o2 =>
      intro d0 ys wx hJ hdi hw hdeps
      simp only [List.getD_cons_succ, List.getD_cons_zero, fill, slots, List.filterMap_cons, List.filterMap_nil, id, List.foldl_cons, List.foldl_nil, Act.put, List.setIfInBounds_toArray, List.set_cons_succ, List.set_cons_zero]
      go_wp2_with fail
      exact ⟨_, rfl, hJ.plain (i := 2) (by decide) (by decide) (by decide) rfl⟩
    case o3 =>
      intro d0 ys wx hJ hdi hw hdeps
      simp only [List.getD_cons_succ, List.getD_cons_zero, fill, slots, List.filterMap_cons, List.filterMap_nil, id, List.foldl_cons, List.foldl_nil, Act.put, List.setIfInBounds_toArray, List.set_cons_succ, List.set_cons_zero]
      go_wp2_with fail
      exact ⟨_, rfl, hJ.plain (i := 3) (by decide) (by decide) (by decide) rfl⟩
    case o4 =>
      intro d0 ys wx hJ hdi hw hdeps
      have q3 : d0 3 = true := by simp [Region.Deps2, Go.Region.binds] at hdeps; simp [hdeps]
      have y3 : ys 120 = .pointer (some ⟨w.heap.size, 4, none⟩) := hJ.1 3 (by decide) q3
      obtain ⟨S3, R3, t3, a3, v3⟩ := hJ.2.2
      have c4 := v3.cell (j := 4) rfl
      clear t3 a3 v3
      simp only [y3, List.getD_cons_succ, List.getD_cons_zero, fill, slots, List.filterMap_cons, List.filterMap_nil, id, List.foldl_cons, List.foldl_nil, Act.put, List.setIfInBounds_toArray, List.set_cons_succ, List.set_cons_zero]
      go_wp2_with fail
      exact ⟨_, rfl, hJ.plain (i := 4) (by decide) (by decide) (by decide) rfl⟩
    case o5 =>
      intro d0 ys wx hJ hdi hw hdeps
      have q0 : d0 0 = true := by simp [Region.Deps2, Go.Region.binds] at hdeps; simp [hdeps]
      have y0 : ys 117 = .pointer (some ⟨p, 0, none⟩) := hJ.1 0 (by decide) q0
      have q1 : d0 1 = true := by simp [Region.Deps2, Go.Region.binds] at hdeps; simp [hdeps]
      have y1 : ys 118 = .int .i64 (pn : Int) := hJ.1 1 (by decide) q1
      have q2 : d0 2 = true := by simp [Region.Deps2, Go.Region.binds] at hdeps; simp [hdeps]
      have y2 : ys 119 = .int .i64 (an : Int) := hJ.1 2 (by decide) q2
      have q4 : d0 4 = true := by simp [Region.Deps2, Go.Region.binds] at hdeps; simp [hdeps]
      have y4 : ys 121 = .int .u8 (tx.toNat : Int) := hJ.1 4 (by decide) q4
      obtain ⟨S3, R3, t3, a3, v3⟩ := hJ.2.2
      rw [hdi, if_neg (by simp)] at t3
      have T3 := Lib.hid t3
      have A3 := Lib.hid a3
      have V3 := Lib.hid v3
      have HJ := Lib.hid hJ
      clear t3 a3 v3 hJ
      simp only [y0, y1, y2, y4, List.getD_cons_succ, List.getD_cons_zero, fill, slots, List.filterMap_cons, List.filterMap_nil, id, List.foldl_cons, List.foldl_nil, Act.put, List.setIfInBounds_toArray, List.set_cons_succ, List.set_cons_zero]
      go_wp2_with (go_at_call 33; (with_reducible refine (HF.out _ _ _ T3.out.f).mono ?_); rintro e wy ⟨rfl, S4, hf4, a4⟩)
      exact ⟨_, rfl, HJ.out.left NB.out LB.out T3.out A3.out V3.out hf4 a4 rfl⟩
    case o6 =>
      intro d0 ys wx hJ hdi hw hdeps
      simp only [List.getD_cons_succ, List.getD_cons_zero, fill, slots, List.filterMap_cons, List.filterMap_nil, id, List.foldl_cons, List.foldl_nil, Act.put, List.setIfInBounds_toArray, List.set_cons_succ, List.set_cons_zero]
      go_wp2_with fail
      exact ⟨_, rfl, hJ.plain (i := 6) (by decide) (by decide) (by decide) rfl⟩
    case o7 =>
      intro d0 ys wx hJ hdi hw hdeps
      simp only [List.getD_cons_succ, List.getD_cons_zero, fill, slots, List.filterMap_cons, List.filterMap_nil, id, List.foldl_cons, List.foldl_nil, Act.put, List.setIfInBounds_toArray, List.set_cons_succ, List.set_cons_zero]
      go_wp2_with fail
      exact ⟨_, rfl, hJ.plain (i := 7) (by decide) (by decide) (by decide) rfl⟩
    case o8 =>
      intro d0 ys wx hJ hdi hw hdeps
      simp only [List.getD_cons_succ, List.getD_cons_zero, fill, slots, List.filterMap_cons, List.filterMap_nil, id, List.foldl_cons, List.foldl_nil, Act.put, List.setIfInBounds_toArray, List.set_cons_succ, List.set_cons_zero]
      go_wp2_with fail
      exact ⟨_, rfl, hJ.plain (i := 8) (by decide) (by decide) (by decide) rfl⟩
    case o9 =>
      intro d0 ys wx hJ hdi hw hdeps
      simp only [List.getD_cons_succ, List.getD_cons_zero, fill, slots, List.filterMap_cons, List.filterMap_nil, id, List.foldl_cons, List.foldl_nil, Act.put, List.setIfInBounds_toArray, List.set_cons_succ, List.set_cons_zero]
      go_wp2_with fail
      exact ⟨_, rfl, hJ.plain (i := 9) (by decide) (by decide) (by decide) rfl⟩
    case o10 =>
      intro d0 ys wx hJ hdi hw hdeps
      have q9 : d0 9 = true := by simp [Region.Deps2, Go.Region.binds] at hdeps; simp [hdeps]
      have y9 : ys 126 = .pointer (some ⟨w.heap.size, 4, none⟩) := hJ.1 9 (by decide) q9
      obtain ⟨S3, R3, t3, a3, v3⟩ := hJ.2.2
      have c4 := v3.cell (j := 4) rfl
      clear t3 a3 v3
      simp only [y9, List.getD_cons_succ, List.getD_cons_zero, fill, slots, List.filterMap_cons, List.filterMap_nil, id, List.foldl_cons, List.foldl_nil, Act.put, List.setIfInBounds_toArray, List.set_cons_succ, List.set_cons_zero]
      go_wp2_with fail
      exact ⟨_, rfl, hJ.plain (i := 10) (by decide) (by decide) (by decide) rfl⟩
    case o11 =>
      intro d0 ys wx hJ hdi hw hdeps
      have q6 : d0 6 = true := by simp [Region.Deps2, Go.Region.binds] at hdeps; simp [hdeps]
      have y6 : ys 123 = .pointer (some ⟨r, 0, none⟩) := hJ.1 6 (by decide) q6
      have q7 : d0 7 = true := by simp [Region.Deps2, Go.Region.binds] at hdeps; simp [hdeps]
      have y7 : ys 124 = .int .i64 (pn : Int) := hJ.1 7 (by decide) q7
      have q8 : d0 8 = true := by simp [Region.Deps2, Go.Region.binds] at hdeps; simp [hdeps]
      have y8 : ys 125 = .int .i64 (an : Int) := hJ.1 8 (by decide) q8
      have q10 : d0 10 = true := by simp [Region.Deps2, Go.Region.binds] at hdeps; simp [hdeps]
      have y10 : ys 127 = .int .u8 (tx.toNat : Int) := hJ.1 10 (by decide) q10
      obtain ⟨S3, R3, t3, a3, v3⟩ := hJ.2.2
      have t3 := t3
      have e11 : (if d0 11 then dn else d) = d := by rw [hdi]; rfl
      rw [e11] at t3
      have T3 := Lib.hid t3
      have A3 := Lib.hid a3
      have V3 := Lib.hid v3
      have HJ := Lib.hid hJ
      clear t3 a3 v3 hJ
      simp only [y6, y7, y8, y10, List.getD_cons_succ, List.getD_cons_zero, fill, slots, List.filterMap_cons, List.filterMap_nil, id, List.foldl_cons, List.foldl_nil, Act.put, List.setIfInBounds_toArray, List.set_cons_succ, List.set_cons_zero]
      go_wp2_with (go_at_call 41; (with_reducible refine (HR.out _ _ _ T3.out.r).mono ?_); rintro e wy ⟨rfl, R4, hr4, a4⟩)
      exact ⟨_, rfl, HJ.out.right NB.out LB.out T3.out A3.out V3.out hr4 a4 rfl⟩
    case o12 =>
      intro d0 ys wx hJ hdi hw hdeps
      have q5 : d0 5 = true := by simp [Region.Deps2, Go.Region.binds] at hdeps; simp [hdeps]
      have y5 : ys 122 = .int .i64 (cd : Int) := hJ.1 5 (by decide) q5
      have q11 : d0 11 = true := by simp [Region.Deps2, Go.Region.binds] at hdeps; simp [hdeps]
      have y11 : ys 128 = .int .i64 (cd : Int) := hJ.1 11 (by decide) q11
      simp only [y5, y11, List.getD_cons_succ, List.getD_cons_zero, fill, slots, List.filterMap_cons, List.filterMap_nil, id, List.foldl_cons, List.foldl_nil, Act.put, List.setIfInBounds_toArray, List.set_cons_succ, List.set_cons_zero]
      go_wp2_with fail
      exact ⟨_, rfl, hJ.plain (i := 12) (by decide) (by decide) (by decide) rfl⟩
    case o13 =>
      intro d0 ys wx hJ hdi hw hdeps
      have q12 : d0 12 = true := by simp [Region.Deps2, Go.Region.binds] at hdeps; simp [hdeps]
      have y12 : ys 129 = .bool true := hJ.1 12 (by decide) q12
      simp only [y12, List.getD_cons_succ, List.getD_cons_zero, fill, slots, List.filterMap_cons, List.filterMap_nil, id, List.foldl_cons, List.foldl_nil, Act.put, List.setIfInBounds_toArray, List.set_cons_succ, List.set_cons_zero]
      go_wp2_with fail
      exact ⟨_, rfl, hJ.last⟩
  case done =>
    intro d0 ys wx hJ hall
    have h6 : ys 6 = .bool true := hJ.2.1 (hall 13 (by decide))
    obtain ⟨S3, R3, t3, a3, v3⟩ := hJ.2.2
    rw [hall 5 (by decide), hall 11 (by decide), if_pos rfl] at t3
    have T3 := Lib.hid t3
    have A3 := Lib.hid a3
    clear t3 a3 v3 hJ hall
    simp only [h6, List.getD_cons_succ, List.getD_cons_zero, fill, slots, List.filterMap_cons, List.filterMap_nil, id, List.foldl_cons, List.foldl_nil, Act.put, List.setIfInBounds_toArray, List.set_cons_succ, List.set_cons_zero]
    go_wp2
    go_ret
    rw [HSt.out]
    exact ⟨rfl, S3, R3, T3.out, After.trans (after_below BW.out) A3.out⟩
theorem step_any {w : World} {p r : Nat} {d : Dev} {S R : Nat → Prop} (h : Two w p r d d S R) (hd : d.Ok) (t : St) (ma : Option Addr) (ml mc : Nat) (hs : t.s.size ≤ maxLen) (hM : MaskAt w ma t.m (both S R)) (hm : ∀ m ∈ t.m, m < 9223372036854775808) (hml : ml = t.m.length) (hml2 : t.m.length ≤ maxLen) :
    Calls Try.prog 17 #[.pointer (some ⟨p, 0, none⟩), .pointer (some ⟨r, 0, none⟩), .agg #[.int .i64 t.what, .int .i64 t.a, .int .i64 t.b, .string t.s, .int .u8 (t.x.toNat : Int), .slice ma ml mc, .bool t.near]] w fun e w' => e = .returned (.bool true) ∧ ∃ S' R', Two w' p r (stepD d t) (stepD d t) S' R' ∧ After (both S R) w w' (both S' R') := by
  obtain ⟨tw, ta, tb, ts, tx, tm, nr⟩ := t
  simp only at hs hM hm hml hml2 ⊢
  have hk : tw % 12 = 0 ∨ tw % 12 = 1 ∨ tw % 12 = 2 ∨ tw % 12 = 3 ∨ tw % 12 = 4 ∨ tw % 12 = 5 ∨ tw % 12 = 6 ∨ tw % 12 = 7 ∨ tw % 12 = 8 ∨ tw % 12 = 9 ∨ tw % 12 = 10 ∨ tw % 12 = 11 := by omega
  cases nr
  · rcases hk with hk | hk | hk | hk | hk | hk | hk | hk | hk | hk | hk | hk
    · exact step_false_0 h hd tw ta tb ts tx tm ma ml mc hs hM hm hml hml2 hk
    · exact step_false_1 h hd tw ta tb ts tx tm ma ml mc hs hM hm hml hml2 hk
    · exact step_false_2 h hd tw ta tb ts tx tm ma ml mc hs hM hm hml hml2 hk
    · exact step_false_3 h hd tw ta tb ts tx tm ma ml mc hs hM hm hml hml2 hk
    · exact step_false_4 h hd tw ta tb ts tx tm ma ml mc hs hM hm hml hml2 hk
    · exact step_false_5 h hd tw ta tb ts tx tm ma ml mc hs hM hm hml hml2 hk
    · exact step_false_6 h hd tw ta tb ts tx tm ma ml mc hs hM hm hml hml2 hk
    · exact step_false_7 h hd tw ta tb ts tx tm ma ml mc hs hM hm hml hml2 hk
    · exact step_false_8 h hd tw ta tb ts tx tm ma ml mc hs hM hm hml hml2 hk
    · exact step_false_9 h hd tw ta tb ts tx tm ma ml mc hs hM hm hml hml2 hk
    · exact step_false_10 h hd tw ta tb ts tx tm ma ml mc hs hM hm hml hml2 hk
    · exact step_false_11 h hd tw ta tb ts tx tm ma ml mc hs hM hm hml hml2 hk
  · rcases hk with hk | hk | hk | hk | hk | hk | hk | hk | hk | hk | hk | hk
    · exact step_true_0 h hd tw ta tb ts tx tm ma ml mc hs hM hm hml hml2 hk
    · exact step_true_1 h hd tw ta tb ts tx tm ma ml mc hs hM hm hml hml2 hk
    · exact step_true_2 h hd tw ta tb ts tx tm ma ml mc hs hM hm hml hml2 hk
    · exact step_true_3 h hd tw ta tb ts tx tm ma ml mc hs hM hm hml hml2 hk
    · exact step_true_4 h hd tw ta tb ts tx tm ma ml mc hs hM hm hml hml2 hk
    · exact step_true_5 h hd tw ta tb ts tx tm ma ml mc hs hM hm hml hml2 hk
    · exact step_true_6 h hd tw ta tb ts tx tm ma ml mc hs hM hm hml hml2 hk
    · exact step_true_7 h hd tw ta tb ts tx tm ma ml mc hs hM hm hml hml2 hk
    · exact step_true_8 h hd tw ta tb ts tx tm ma ml mc hs hM hm hml hml2 hk
    · exact step_true_9 h hd tw ta tb ts tx tm ma ml mc hs hM hm hml hml2 hk
    · exact step_true_10 h hd tw ta tb ts tx tm ma ml mc hs hM hm hml hml2 hk
    · exact step_true_11 h hd tw ta tb ts tx tm ma ml mc hs hM hm hml hml2 hk
end Go.Proofs.Ytgcbdekdjdlfaaa.Flash
