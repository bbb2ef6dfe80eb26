/-
  TapeApart's walk.
-/
import Derived.Test.YtcmjambbdfangaaRunTapeL
import Derived.Test.YtcmjambbdfangaaRegionTurn
set_option linter.unusedVariables false
set_option linter.unusedSimpArgs false
namespace Go.Proofs.Ytcmjambbdfangaa.Tape
open Go.RowKit
open Go.Proofs.Ytcmjambbdfangaa.Own
open CrcM (W)
open Crc (vl wd)
open Flash (newD readD Dev FHas RHas programD eraseD flushD bs list_bs)
open Chart (newC pgC Ch CHas DHas openC takeC eraseC setC)
open Go.Proofs.Ytcmjambbdfangaa.Frame (Fr fV page bytesG)
open Tup Foot Bytes
open Go.Proofs.Ytcmjambbdfangaa.Region (fill Then Deps Each wp_region_is wp_region_is_tail wp_region_each wp_region_tail slots TJ TJ2 Each2 Deps2 wp_region_each3 upd put)

structure FH (w : World) (p : Nat) (d : Dev) (S : Nat → Prop) : Prop where
  h : FHas w p d S
theorem FH.below {w w' : World} {p : Nat} {d : Dev} {S : Nat → Prop} (h : FH w p d S) (g : Below w.heap.size w w') : FH w' p d S := ⟨fh_below h.h g⟩
theorem flash_new {pg pgs rgs : Nat} (z : Sz pg pgs rgs) (w : World) : Calls Try.prog 23 #[.agg #[.int .i64 (pg : Int), .int .i64 (pgs : Int), .int .i64 (rgs : Int)], .string ⟨#[]⟩] w fun e w' => ∃ p S, e = .returned (.tuple #[.pointer (some ⟨p, 0, none⟩), .int .i64 0]) ∧ FH w' p (newD pg pgs rgs []) S ∧ Below w.heap.size w w' := by
  obtain ⟨p0, p1, s0, s1, r0, r1⟩ := z
  refine (Flash.fNew_any ⟨pg, pgs, rgs⟩ ⟨#[]⟩ w).mono ?_
  rintro e w' ⟨hb, h⟩
  rw [if_pos ⟨Geom.right_small.2 ⟨by simp only; omega, by simp only; omega, by simp only; omega, by simp only; omega, by simp only; omega, by simp only; omega⟩, by
    unfold Geom.sizeG; simp only; rw [← Int.natCast_mul, ← Int.natCast_mul]; exact Int.natCast_nonneg _⟩] at h
  obtain ⟨p, S, h1, h2, h3⟩ := h
  simp only [Int.toNat_natCast] at h2
  exact ⟨p, S, h1, ⟨h2⟩, hb⟩
/-- the values of the last test's operations: one of them is a new tape -/
def TV (tab : List Value) (i : Nat) (v : Value) (_w : World) : Prop := if i = 2 then ∃ t, v = .pointer (some ⟨t, 0, none⟩) else v = tab.getD i undef
theorem TV.mono (tab : List Value) : ∀ i v w w', TV tab i v w → Below w.heap.size w w' → TV tab i v w' := fun _ _ _ _ h _ => h
set_option maxRecDepth 100000 in
set_option maxHeartbeats 8000000 in
theorem apart_eq (gp gs gr hp hq hr : Int) (e0 : 32 + gp % 33 = 32 + hp % 33) (e1 : 3 + gs % 4 = 3 + hq % 4) (e2 : 4 + gr % 4 = 4 + hr % 4) (w : World) :
    Calls Try.prog 6 #[Geom.gV ⟨gp, gs, gr⟩, Geom.gV ⟨hp, hq, hr⟩] w fun e w' => e = .returned (.bool true) ∧ Below w.heap.size w w' := by
  unfold Geom.gV
  obtain ⟨pg, hpg⟩ : ∃ n : Nat, (n : Int) = 32 + gp % 33 := ⟨(32 + gp % 33).toNat, by omega⟩
  obtain ⟨pgs, hpgs⟩ : ∃ n : Nat, (n : Int) = 3 + gs % 4 := ⟨(3 + gs % 4).toNat, by omega⟩
  obtain ⟨rgs, hrgs⟩ : ∃ n : Nat, (n : Int) = 4 + gr % 4 := ⟨(4 + gr % 4).toNat, by omega⟩
  have p0 : 32 ≤ pg := by omega
  have p1 : pg ≤ 64 := by omega
  have s0 : 3 ≤ pgs := by omega
  have s1 : pgs ≤ 6 := by omega
  have r0 : 4 ≤ rgs := by omega
  have r1 : rgs ≤ 7 := by omega
  have HG : Hid (∀ w, Calls Try.prog 8 #[.agg #[.int .i64 gp, .int .i64 gs, .int .i64 gr]] w fun e w' => e = .returned (.agg #[.int .i64 (pg : Int), .int .i64 (pgs : Int), .int .i64 (rgs : Int)]) ∧ Below w.heap.size w w') := fun w => by
    rw [hpg, hpgs, hrgs]; exact Geom.geom_any ⟨gp, gs, gr⟩ w
  have HAL := Lib.hid (fun w => alive_any w)
  have SZ := Lib.hid (show Sz pg pgs rgs from ⟨p0, by omega, s0, by omega, r0, by omega⟩)
  obtain ⟨qg, hqg⟩ : ∃ n : Nat, (n : Int) = 32 + hp % 33 := ⟨(32 + hp % 33).toNat, by omega⟩
  obtain ⟨qgs, hqgs⟩ : ∃ n : Nat, (n : Int) = 3 + hq % 4 := ⟨(3 + hq % 4).toNat, by omega⟩
  obtain ⟨qrs, hqrs⟩ : ∃ n : Nat, (n : Int) = 4 + hr % 4 := ⟨(4 + hr % 4).toNat, by omega⟩
  have HG2 : Hid (∀ w, Calls Try.prog 8 #[.agg #[.int .i64 hp, .int .i64 hq, .int .i64 hr]] w fun e w' => e = .returned (.agg #[.int .i64 (qg : Int), .int .i64 (qgs : Int), .int .i64 (qrs : Int)]) ∧ Below w.heap.size w w') := fun w => by
    rw [hqg, hqgs, hqrs]; exact Geom.geom_any ⟨hp, hq, hr⟩ w
  have SZ2 := Lib.hid (show Sz qg qgs qrs from ⟨by omega, by omega, by omega, by omega, by omega, by omega⟩)
  obtain rfl : pg = qg := by omega
  have q0 : ((pg : Int) == (pg : Int)) = true := by simp
  obtain rfl : pgs = qgs := by omega
  have q1 : ((pgs : Int) == (pgs : Int)) = true := by simp
  obtain rfl : rgs = qrs := by omega
  have q2 : ((rgs : Int) == (rgs : Int)) = true := by simp
  have HNF := Lib.hid (fun w => flash_new SZ.out w)
  have OKD := Lib.hid (Flash.new_ok (pg := pg) (pgs := pgs) (rgs := rgs) (image := []) (Nat.zero_le _) SZ.out.p0 SZ.out.p1 SZ.out.s0 SZ.out.s1 SZ.out.r0 SZ.out.r1)
  have HNC := Lib.hid (fun w => Chart.new_good pg pgs rgs SZ2.out.p0 SZ2.out.p1 SZ2.out.s0 SZ2.out.s1 SZ2.out.r0 SZ2.out.r1 w)
  unfold Chart.ptr at HNC
  have HAN := Lib.hid (fun w => append_nil _ rfl w)
  have HN1 := Lib.hid (fun q w => new_nil1 (some q) w)
  have HN2 := Lib.hid (fun p w => new_nil2 p w)
  have HFN := Lib.hid (fun w => flush_nil w)
  have HEN := Lib.hid (fun w => erase_nil 0 w)
  have HNT : Hid (∀ w p q S R, FH w p (newD pg pgs rgs []) S → CHas w q (newC pg pgs rgs) R → Calls Try.prog 25 #[.pointer (some ⟨p, 0, none⟩), .pointer (some ⟨q, 0, none⟩)] w fun e w' => ∃ t, e = .returned (.pointer (some ⟨t, 0, none⟩)) ∧ Below w.heap.size w w') := fun w p q S R hf hc =>
    (new_any hf.h OKD.out hc rfl rfl rfl).mono fun e w' ⟨t, w2, he, b1, _, b2, _⟩ => ⟨t, he, bel2 b1 b2⟩
  clear hpg hpgs hrgs hqg hqgs hqrs e0 e1 e2
  go_enter Try.func6, Try.ntmps6
  go_wp2
  obtain ⟨w1, hw1⟩ : ∃ wx, wx = ((w.alloc (.cells #[.int .i64 gp, .int .i64 gs, .int .i64 gr] 23)).alloc (.cells #[.int .i64 hp, .int .i64 hq, .int .i64 hr] 23)) := ⟨_, rfl⟩
  have bw1 := Lib.hid (show Below w.heap.size w w1 by rw [hw1]; exact (bel2 (Geom.bel_alloc _ _) (Geom.bel_alloc _ _)))
  have zw1 := Lib.hid (show w.heap.size + 2 ≤ w1.heap.size by rw [hw1]; simp)
  have vw1g := Lib.hid (show Var w1 (w.heap.size) 23 [.int .i64 gp, .int .i64 gs, .int .i64 gr] by rw [hw1]; exact ((Var.new w 23 [.int .i64 gp, .int .i64 gs, .int .i64 gr]).alloc _))
  have vw1h := Lib.hid (show Var w1 (w.heap.size + 1) 23 [.int .i64 hp, .int .i64 hq, .int .i64 hr] by rw [hw1]; exact (show Var ((w.alloc (.cells #[.int .i64 gp, .int .i64 gs, .int .i64 gr] 23)).alloc (.cells #[.int .i64 hp, .int .i64 hq, .int .i64 hr] 23)) (w.heap.size + 1) 23 [.int .i64 hp, .int .i64 hq, .int .i64 hr] from by have h := Var.new (w.alloc (.cells #[.int .i64 gp, .int .i64 gs, .int .i64 gr] 23)) 23 [.int .i64 hp, .int .i64 hq, .int .i64 hr]; rw [show (w.alloc (.cells #[.int .i64 gp, .int .i64 gs, .int .i64 gr] 23)).heap.size = w.heap.size + 1 by simp] at h; exact h))
  rw [← hw1]
  refine wp_region_is_tail 4 [11, 12, 13, 14] (fun w' => Below w1.heap.size w1 w')
    [.agg #[.int .i64 gp, .int .i64 gs, .int .i64 gr], .agg #[.int .i64 (pg : Int), .int .i64 (pgs : Int), .int .i64 (rgs : Int)], .agg #[.int .i64 hp, .int .i64 hq, .int .i64 hr], .agg #[.int .i64 (pg : Int), .int .i64 (pgs : Int), .int .i64 (rgs : Int)]] (by kernel_rfl) (by kernel_rfl) (by kernel_rfl) (by decide) rfl (by decide) (by simp) (Below.refl _ _).drew ?each ?done
  case each =>
    simp only [List.take_succ_cons, List.take_zero, Each]
    repeat' (first | exact trivial | refine And.intro ?_ ?_)
    all_goals
      intro ys wx hBx hdeps
      simp only [Deps, Region.binds, List.getD_cons_zero, List.getD_cons_succ, forall_const, and_true] at hdeps
      have q1 := (vw1g.out.below hBx vw1g.out.lt).cell (j := 0) rfl
      have q2 := (vw1g.out.below hBx vw1g.out.lt).cell (j := 1) rfl
      have q3 := (vw1g.out.below hBx vw1g.out.lt).cell (j := 2) rfl
      have q4 := (vw1h.out.below hBx vw1h.out.lt).cell (j := 0) rfl
      have q5 := (vw1h.out.below hBx vw1h.out.lt).cell (j := 1) rfl
      have q6 := (vw1h.out.below hBx vw1h.out.lt).cell (j := 2) rfl
      simp only [hdeps, fill, List.foldl_cons, List.foldl_nil, Act.put, List.setIfInBounds_toArray, List.set_cons_succ, List.set_cons_zero]
      first
        | (go_wp2_with fail; exact ⟨_, rfl, rfl, hBx, Below.refl _ _⟩)
        | (go_wp2_with (go_at_call 8; (with_reducible refine (HG.out _).mono ?_); rintro e w3 ⟨rfl, hm⟩); exact ⟨_, rfl, rfl, hBx.trans (hm.mono hBx.size), hm⟩)
        | (go_wp2_with (go_at_call 8; (with_reducible refine (HG2.out _).mono ?_); rintro e w3 ⟨rfl, hm⟩); exact ⟨_, rfl, rfl, hBx.trans (hm.mono hBx.size), hm⟩)
  case done =>
    intro ys wx hBx hV
    obtain ⟨w2, hw2⟩ : ∃ wy, wy = wx := ⟨_, rfl⟩
    rw [← hw2] at hBx ⊢
    have bw2 := Lib.hid (bel2 bw1.out hBx)
    have zw2 := Lib.hid hBx.size
    have vw2g := Lib.hid (vw1g.out.below hBx vw1g.out.lt)
    have vw2h := Lib.hid (vw1h.out.below hBx vw1h.out.lt)
    have h12 : ys 12 = .agg #[.int .i64 (pg : Int), .int .i64 (pgs : Int), .int .i64 (rgs : Int)] := hV 1 (by decide)
    have h14 : ys 14 = .agg #[.int .i64 (pg : Int), .int .i64 (pgs : Int), .int .i64 (rgs : Int)] := hV 3 (by decide)
    clear hBx hV hw2
    simp only [h12, h14, fill, List.drop_succ_cons, List.drop_zero, List.foldl_cons, List.foldl_nil, Act.put, List.setIfInBounds_toArray, List.set_cons_succ, List.set_cons_zero]
    have vf7 := (show Var w2 (w.heap.size) 23 [.int .i64 gp, .int .i64 gs, .int .i64 gr] from vw2g.out)
    have c8 := vf7.cell (j := 0) rfl
    have c9 := vf7.cell (j := 1) rfl
    have c10 := vf7.cell (j := 2) rfl
    clear vf7
    have vf11 := (show Var w2 (w.heap.size + 1) 23 [.int .i64 hp, .int .i64 hq, .int .i64 hr] from vw2h.out)
    have c12 := vf11.cell (j := 0) rfl
    have c13 := vf11.cell (j := 1) rfl
    have c14 := vf11.cell (j := 2) rfl
    clear vf11
    have vf15 := (show Var w2 (w.heap.size) 23 [.int .i64 gp, .int .i64 gs, .int .i64 gr] from vw2g.out)
    have f16 := vf15.frozen 0
    have f17 := vf15.frozen 1
    have f18 := vf15.frozen 2
    clear vf15
    have vf19 := (show Var w2 (w.heap.size + 1) 23 [.int .i64 hp, .int .i64 hq, .int .i64 hr] from vw2h.out)
    have f20 := vf19.frozen 0
    have f21 := vf19.frozen 1
    have f22 := vf19.frozen 2
    clear vf19
    have vf23 := (show Var ((((((w2.setCell ⟨w.heap.size, 0, none⟩ (.int .i64 (pg : Int))).setCell ⟨w.heap.size, 1, none⟩ (.int .i64 (pgs : Int))).setCell ⟨w.heap.size, 2, none⟩ (.int .i64 (rgs : Int))).setCell ⟨w.heap.size + 1, 0, none⟩ (.int .i64 (pg : Int))).setCell ⟨w.heap.size + 1, 1, none⟩ (.int .i64 (pgs : Int))).setCell ⟨w.heap.size + 1, 2, none⟩ (.int .i64 (rgs : Int))) (w.heap.size) 23 [.int .i64 (pg : Int), .int .i64 (pgs : Int), .int .i64 (rgs : Int)] from (Piece.Var.othr2 (Piece.Var.othr2 (Piece.Var.othr2 (((vw2g.out.set 0 (.int .i64 (pg : Int))).set 1 (.int .i64 (pgs : Int))).set 2 (.int .i64 (rgs : Int))) ⟨w.heap.size + 1, 0, none⟩ (.int .i64 (pg : Int)) (by have := zw1.out; have := zw2.out; have := vw2g.out.lt; simp only; omega)) ⟨w.heap.size + 1, 1, none⟩ (.int .i64 (pgs : Int)) (by have := zw1.out; have := zw2.out; have := vw2g.out.lt; simp only; omega)) ⟨w.heap.size + 1, 2, none⟩ (.int .i64 (rgs : Int)) (by have := zw1.out; have := zw2.out; have := vw2g.out.lt; simp only; omega)))
    have c24 := vf23.cell (j := 0) rfl
    have c25 := vf23.cell (j := 1) rfl
    have c26 := vf23.cell (j := 2) rfl
    clear vf23
    have vf27 := (show Var ((((((w2.setCell ⟨w.heap.size, 0, none⟩ (.int .i64 (pg : Int))).setCell ⟨w.heap.size, 1, none⟩ (.int .i64 (pgs : Int))).setCell ⟨w.heap.size, 2, none⟩ (.int .i64 (rgs : Int))).setCell ⟨w.heap.size + 1, 0, none⟩ (.int .i64 (pg : Int))).setCell ⟨w.heap.size + 1, 1, none⟩ (.int .i64 (pgs : Int))).setCell ⟨w.heap.size + 1, 2, none⟩ (.int .i64 (rgs : Int))) (w.heap.size + 1) 23 [.int .i64 (pg : Int), .int .i64 (pgs : Int), .int .i64 (rgs : Int)] from ((((Piece.Var.othr2 (Piece.Var.othr2 (Piece.Var.othr2 vw2h.out ⟨w.heap.size, 0, none⟩ (.int .i64 (pg : Int)) (by have := zw1.out; have := zw2.out; have := vw2h.out.lt; simp only; omega)) ⟨w.heap.size, 1, none⟩ (.int .i64 (pgs : Int)) (by have := zw1.out; have := zw2.out; have := vw2h.out.lt; simp only; omega)) ⟨w.heap.size, 2, none⟩ (.int .i64 (rgs : Int)) (by have := zw1.out; have := zw2.out; have := vw2h.out.lt; simp only; omega)).set 0 (.int .i64 (pg : Int))).set 1 (.int .i64 (pgs : Int))).set 2 (.int .i64 (rgs : Int))))
    have c28 := vf27.cell (j := 0) rfl
    have c29 := vf27.cell (j := 1) rfl
    have c30 := vf27.cell (j := 2) rfl
    clear vf27
    go_wp2_with (first
      | (go_at_call 23; ((with_reducible refine (HNF.out _).mono ?_); rintro e w4 ⟨p, S, rfl, hf, bz⟩; obtain ⟨w3, hw3⟩ : ∃ wx, wx = ((((((w2.setCell ⟨w.heap.size, 0, none⟩ (.int .i64 (pg : Int))).setCell ⟨w.heap.size, 1, none⟩ (.int .i64 (pgs : Int))).setCell ⟨w.heap.size, 2, none⟩ (.int .i64 (rgs : Int))).setCell ⟨w.heap.size + 1, 0, none⟩ (.int .i64 (pg : Int))).setCell ⟨w.heap.size + 1, 1, none⟩ (.int .i64 (pgs : Int))).setCell ⟨w.heap.size + 1, 2, none⟩ (.int .i64 (rgs : Int))) := ⟨_, rfl⟩; have bw3 := Lib.hid (show Below w.heap.size w w3 by rw [hw3]; exact ((((((bw2.out.setCell (p := ⟨w.heap.size, 0, none⟩) (by have := zw1.out; have := zw2.out; simp only; omega) _).setCell (p := ⟨w.heap.size, 1, none⟩) (by have := zw1.out; have := zw2.out; simp only; omega) _).setCell (p := ⟨w.heap.size, 2, none⟩) (by have := zw1.out; have := zw2.out; simp only; omega) _).setCell (p := ⟨w.heap.size + 1, 0, none⟩) (by have := zw1.out; have := zw2.out; simp only; omega) _).setCell (p := ⟨w.heap.size + 1, 1, none⟩) (by have := zw1.out; have := zw2.out; simp only; omega) _).setCell (p := ⟨w.heap.size + 1, 2, none⟩) (by have := zw1.out; have := zw2.out; simp only; omega) _)); have zw3 := Lib.hid (show w2.heap.size + 0 ≤ w3.heap.size by rw [hw3]; simp); have vw3g := Lib.hid (show Var w3 (w.heap.size) 23 [.int .i64 (pg : Int), .int .i64 (pgs : Int), .int .i64 (rgs : Int)] by rw [hw3]; exact (Piece.Var.othr2 (Piece.Var.othr2 (Piece.Var.othr2 (((vw2g.out.set 0 (.int .i64 (pg : Int))).set 1 (.int .i64 (pgs : Int))).set 2 (.int .i64 (rgs : Int))) ⟨w.heap.size + 1, 0, none⟩ (.int .i64 (pg : Int)) (by have := zw1.out; have := zw2.out; have := vw2g.out.lt; simp only; omega)) ⟨w.heap.size + 1, 1, none⟩ (.int .i64 (pgs : Int)) (by have := zw1.out; have := zw2.out; have := vw2g.out.lt; simp only; omega)) ⟨w.heap.size + 1, 2, none⟩ (.int .i64 (rgs : Int)) (by have := zw1.out; have := zw2.out; have := vw2g.out.lt; simp only; omega))); have vw3h := Lib.hid (show Var w3 (w.heap.size + 1) 23 [.int .i64 (pg : Int), .int .i64 (pgs : Int), .int .i64 (rgs : Int)] by rw [hw3]; exact ((((Piece.Var.othr2 (Piece.Var.othr2 (Piece.Var.othr2 vw2h.out ⟨w.heap.size, 0, none⟩ (.int .i64 (pg : Int)) (by have := zw1.out; have := zw2.out; have := vw2h.out.lt; simp only; omega)) ⟨w.heap.size, 1, none⟩ (.int .i64 (pgs : Int)) (by have := zw1.out; have := zw2.out; have := vw2h.out.lt; simp only; omega)) ⟨w.heap.size, 2, none⟩ (.int .i64 (rgs : Int)) (by have := zw1.out; have := zw2.out; have := vw2h.out.lt; simp only; omega)).set 0 (.int .i64 (pg : Int))).set 1 (.int .i64 (pgs : Int))).set 2 (.int .i64 (rgs : Int)))); have hbel : Below w3.heap.size w3 w4 := (by rw [hw3]; exact bz); clear bz; have bw4 := Lib.hid (bel2 bw3.out hbel); have zw4 := Lib.hid hbel.size; have vw4g := Lib.hid (vw3g.out.below hbel vw3g.out.lt); have vw4h := Lib.hid (vw3h.out.below hbel vw3h.out.lt); clear hbel; clear c8 c9 c10 c12 c13 c14 f16 f17 f18 f20 f21 f22 c24 c25 c26 c28 c29 c30; have kF := Lib.hid hf; clear hf; have vf31 := (show Var w4 (w.heap.size) 23 [.int .i64 (pg : Int), .int .i64 (pgs : Int), .int .i64 (rgs : Int)] from vw4g.out); have c32 := vf31.cell (j := 0) rfl; have c33 := vf31.cell (j := 1) rfl; have c34 := vf31.cell (j := 2) rfl; clear vf31; have vf35 := (show Var w4 (w.heap.size + 1) 23 [.int .i64 (pg : Int), .int .i64 (pgs : Int), .int .i64 (rgs : Int)] from vw4h.out); have c36 := vf35.cell (j := 0) rfl; have c37 := vf35.cell (j := 1) rfl; have c38 := vf35.cell (j := 2) rfl; clear vf35))
      | (go_at_call 24; ((with_reducible refine (HNC.out _).mono ?_); rintro e w5 ⟨q, R, rfl, hc, bz, hs⟩; have hbel : Below w4.heap.size w4 w5 := (by exact bz); clear bz; have bw5 := Lib.hid (bel2 bw4.out hbel); have zw5 := Lib.hid hbel.size; have vw5g := Lib.hid (vw4g.out.below hbel vw4g.out.lt); have vw5h := Lib.hid (vw4h.out.below hbel vw4h.out.lt); have kw5F := Lib.hid (kF.out.below hbel); clear hbel; clear c32 c33 c34 c36 c37 c38; have kC := Lib.hid hc; clear hc hs))
      | (go_at_call 10; ((with_reducible refine (HAL.out _).mono ?_); rintro e w6 ⟨rfl, bz⟩; have hbel : Below w5.heap.size w5 w6 := (by exact bz); clear bz; have bw6 := Lib.hid (bel2 bw5.out hbel); have zw6 := Lib.hid hbel.size; have vw6g := Lib.hid (vw5g.out.below hbel vw5g.out.lt); have vw6h := Lib.hid (vw5h.out.below hbel vw5h.out.lt); have kw6F := Lib.hid (kw5F.out.below hbel); have kw6C := Lib.hid (kC.out.below hbel); clear hbel))
      | (go_at_call 13; ((with_reducible refine (HAN.out _).mono ?_); rintro e w7 ⟨rfl, bz⟩; have hbel : Below w6.heap.size w6 w7 := (by exact bz); clear bz; have bw7 := Lib.hid (bel2 bw6.out hbel); have zw7 := Lib.hid hbel.size; have vw7g := Lib.hid (vw6g.out.below hbel vw6g.out.lt); have vw7h := Lib.hid (vw6h.out.below hbel vw6h.out.lt); have kw7F := Lib.hid (kw6F.out.below hbel); have kw7C := Lib.hid (kw6C.out.below hbel); clear hbel)))
    refine wp_region_each [38, 39, 40, 41, 42, 43, 44, 45, 46, 47, 48, 49, 50, 51, 52, 53, 54, 55, 56, 57, 58, 59, 60, 61, 62, 63, 64, 65, 66, 67, 68, 69, 4] (fun w' => Below w7.heap.size w7 w') (TV [.pointer (some ⟨p, 0, none⟩), .pointer (some ⟨q, 0, none⟩), undef, .bool true, .agg #[.int .i64 (pg : Int), .int .i64 (pgs : Int), .int .i64 (rgs : Int)], .agg #[.int .i64 (pg : Int), .int .i64 (pgs : Int), .int .i64 (rgs : Int)], .bool true, .bool true, .bool true, .pointer (some ⟨q, 0, none⟩), .pointer none, .bool true, .bool true, .bool true, .pointer (some ⟨p, 0, none⟩), .pointer none, .bool true, .bool true, .bool true, .int .i64 1, .bool true, .bool true, .bool true, .pointer none, .int .i64 1, .bool true, .bool true, .bool true, .pointer none, .int .i64 1, .bool true, .bool true, .bool true]) (by kernel_rfl) (by kernel_rfl) rfl (by decide) (by simp) (TV.mono _) (Below.refl _ _).drew ?each2 ?done2
    case each2 =>
      simp only [Each]
      refine ⟨?o0, ?o1, ?o2, ?o3, ?o4, ?o5, ?o6, ?o7, ?o8, ?o9, ?o10, ?o11, ?o12, ?o13, ?o14, ?o15, ?o16, ?o17, ?o18, ?o19, ?o20, ?o21, ?o22, ?o23, ?o24, ?o25, ?o26, ?o27, ?o28, ?o29, ?o30, ?o31, ?o32, trivial⟩
      case o0 =>
        intro ys wx hBx hdeps
        clear hdeps
        simp only [fill, List.foldl_cons, List.foldl_nil, Act.put, List.setIfInBounds_toArray, List.set_cons_succ, List.set_cons_zero]
        go_wp2_with fail
        exact ⟨_, rfl, rfl, hBx, Below.refl _ _⟩
      case o1 =>
        intro ys wx hBx hdeps
        clear hdeps
        simp only [fill, List.foldl_cons, List.foldl_nil, Act.put, List.setIfInBounds_toArray, List.set_cons_succ, List.set_cons_zero]
        go_wp2_with fail
        exact ⟨_, rfl, rfl, hBx, Below.refl _ _⟩
      case o2 =>
        intro ys wx hBx hdeps
        simp only [Deps, Region.binds, List.getD_cons_zero, List.getD_cons_succ, forall_const, and_true, true_and] at hdeps
        have y0 : ys 38 = .pointer (some ⟨p, 0, none⟩) := by first | exact hdeps | exact hdeps.1 | exact hdeps.2 | exact hdeps.2.1 | exact hdeps.2.2 | exact hdeps.2.2.1 | exact hdeps.2.2.2
        have y1 : ys 39 = .pointer (some ⟨q, 0, none⟩) := by first | exact hdeps | exact hdeps.1 | exact hdeps.2 | exact hdeps.2.1 | exact hdeps.2.2 | exact hdeps.2.2.1 | exact hdeps.2.2.2
        clear hdeps
        simp only [y0, y1, fill, List.foldl_cons, List.foldl_nil, Act.put, List.setIfInBounds_toArray, List.set_cons_succ, List.set_cons_zero]
        go_wp2_with (go_at_call 25; (with_reducible refine (HNT.out _ _ _ _ _ (kw7F.out.below hBx) (kw7C.out.below hBx)).mono ?_); rintro e w3 ⟨t, rfl, hm⟩)
        exact ⟨_, rfl, ⟨t, rfl⟩, hBx.trans (hm.mono hBx.size), hm⟩
      case o3 =>
        intro ys wx hBx hdeps
        simp only [Deps, Region.binds, List.getD_cons_zero, List.getD_cons_succ, forall_const, and_true, true_and] at hdeps
        have z2 : ∃ t, ys 40 = .pointer (some ⟨t, 0, none⟩) := by first | exact hdeps | exact hdeps.1 | exact hdeps.2 | exact hdeps.2.1 | exact hdeps.2.2 | exact hdeps.2.2.1 | exact hdeps.2.2.2
        clear hdeps
        with_reducible refine Exists.elim z2 ?_
        intro tt y2
        simp only [y2, fill, List.foldl_cons, List.foldl_nil, Act.put, List.setIfInBounds_toArray, List.set_cons_succ, List.set_cons_zero]
        go_wp2_with fail
        exact ⟨_, rfl, rfl, hBx, Below.refl _ _⟩
      case o4 =>
        intro ys wx hBx hdeps
        clear hdeps
        have g0 := (vw7g.out.below hBx vw7g.out.lt).cell (j := 0) rfl
        have g1 := (vw7g.out.below hBx vw7g.out.lt).cell (j := 1) rfl
        have g2 := (vw7g.out.below hBx vw7g.out.lt).cell (j := 2) rfl
        have h0 := (vw7h.out.below hBx vw7h.out.lt).cell (j := 0) rfl
        have h1 := (vw7h.out.below hBx vw7h.out.lt).cell (j := 1) rfl
        have h2 := (vw7h.out.below hBx vw7h.out.lt).cell (j := 2) rfl
        simp only [fill, List.foldl_cons, List.foldl_nil, Act.put, List.setIfInBounds_toArray, List.set_cons_succ, List.set_cons_zero]
        go_wp2_with fail
        exact ⟨_, rfl, rfl, hBx, Below.refl _ _⟩
      case o5 =>
        intro ys wx hBx hdeps
        clear hdeps
        have g0 := (vw7g.out.below hBx vw7g.out.lt).cell (j := 0) rfl
        have g1 := (vw7g.out.below hBx vw7g.out.lt).cell (j := 1) rfl
        have g2 := (vw7g.out.below hBx vw7g.out.lt).cell (j := 2) rfl
        have h0 := (vw7h.out.below hBx vw7h.out.lt).cell (j := 0) rfl
        have h1 := (vw7h.out.below hBx vw7h.out.lt).cell (j := 1) rfl
        have h2 := (vw7h.out.below hBx vw7h.out.lt).cell (j := 2) rfl
        simp only [fill, List.foldl_cons, List.foldl_nil, Act.put, List.setIfInBounds_toArray, List.set_cons_succ, List.set_cons_zero]
        go_wp2_with fail
        exact ⟨_, rfl, rfl, hBx, Below.refl _ _⟩
      case o6 =>
        intro ys wx hBx hdeps
        simp only [Deps, Region.binds, List.getD_cons_zero, List.getD_cons_succ, forall_const, and_true, true_and] at hdeps
        have y4 : ys 42 = .agg #[.int .i64 (pg : Int), .int .i64 (pgs : Int), .int .i64 (rgs : Int)] := by first | exact hdeps | exact hdeps.1 | exact hdeps.2 | exact hdeps.2.1 | exact hdeps.2.2 | exact hdeps.2.2.1 | exact hdeps.2.2.2
        have y5 : ys 43 = .agg #[.int .i64 (pg : Int), .int .i64 (pgs : Int), .int .i64 (rgs : Int)] := by first | exact hdeps | exact hdeps.1 | exact hdeps.2 | exact hdeps.2.1 | exact hdeps.2.2 | exact hdeps.2.2.1 | exact hdeps.2.2.2
        clear hdeps
        simp only [y4, y5, fill, List.foldl_cons, List.foldl_nil, Act.put, List.setIfInBounds_toArray, List.set_cons_succ, List.set_cons_zero]
        go_wp2_with fail
        exact ⟨_, rfl, rfl, hBx, Below.refl _ _⟩
      case o7 =>
        intro ys wx hBx hdeps
        simp only [Deps, Region.binds, List.getD_cons_zero, List.getD_cons_succ, forall_const, and_true, true_and] at hdeps
        have y3 : ys 41 = .bool true := by first | exact hdeps | exact hdeps.1 | exact hdeps.2 | exact hdeps.2.1 | exact hdeps.2.2 | exact hdeps.2.2.1 | exact hdeps.2.2.2
        have y6 : ys 44 = .bool true := by first | exact hdeps | exact hdeps.1 | exact hdeps.2 | exact hdeps.2.1 | exact hdeps.2.2 | exact hdeps.2.2.1 | exact hdeps.2.2.2
        clear hdeps
        simp only [y3, y6, fill, List.foldl_cons, List.foldl_nil, Act.put, List.setIfInBounds_toArray, List.set_cons_succ, List.set_cons_zero]
        go_wp2_with fail
        exact ⟨_, rfl, rfl, hBx, Below.refl _ _⟩
      case o8 =>
        intro ys wx hBx hdeps
        simp only [Deps, Region.binds, List.getD_cons_zero, List.getD_cons_succ, forall_const, and_true, true_and] at hdeps
        have y7 : ys 45 = .bool true := by first | exact hdeps | exact hdeps.1 | exact hdeps.2 | exact hdeps.2.1 | exact hdeps.2.2 | exact hdeps.2.2.1 | exact hdeps.2.2.2
        clear hdeps
        simp only [y7, fill, List.foldl_cons, List.foldl_nil, Act.put, List.setIfInBounds_toArray, List.set_cons_succ, List.set_cons_zero]
        go_wp2_with fail
        exact ⟨_, rfl, rfl, hBx, Below.refl _ _⟩
      case o9 =>
        intro ys wx hBx hdeps
        simp only [Deps, Region.binds, List.getD_cons_zero, List.getD_cons_succ, forall_const, and_true, true_and] at hdeps
        have y8 : ys 46 = .bool true := by first | exact hdeps | exact hdeps.1 | exact hdeps.2 | exact hdeps.2.1 | exact hdeps.2.2 | exact hdeps.2.2.1 | exact hdeps.2.2.2
        clear hdeps
        simp only [y8, fill, List.foldl_cons, List.foldl_nil, Act.put, List.setIfInBounds_toArray, List.set_cons_succ, List.set_cons_zero]
        go_wp2_with fail
        exact ⟨_, rfl, rfl, hBx, Below.refl _ _⟩
      case o10 =>
        intro ys wx hBx hdeps
        simp only [Deps, Region.binds, List.getD_cons_zero, List.getD_cons_succ, forall_const, and_true, true_and] at hdeps
        have y8 : ys 46 = .bool true := by first | exact hdeps | exact hdeps.1 | exact hdeps.2 | exact hdeps.2.1 | exact hdeps.2.2 | exact hdeps.2.2.1 | exact hdeps.2.2.2
        have y9 : ys 47 = .pointer (some ⟨q, 0, none⟩) := by first | exact hdeps | exact hdeps.1 | exact hdeps.2 | exact hdeps.2.1 | exact hdeps.2.2 | exact hdeps.2.2.1 | exact hdeps.2.2.2
        clear hdeps
        simp only [y8, y9, fill, List.foldl_cons, List.foldl_nil, Act.put, List.setIfInBounds_toArray, List.set_cons_succ, List.set_cons_zero]
        go_wp2_with (go_at_call 25; (with_reducible refine (HN1.out _ _).mono ?_); rintro e w3 ⟨rfl, rfl⟩)
        exact ⟨_, rfl, rfl, hBx, Below.refl _ _⟩
      case o11 =>
        intro ys wx hBx hdeps
        simp only [Deps, Region.binds, List.getD_cons_zero, List.getD_cons_succ, forall_const, and_true, true_and] at hdeps
        have y8 : ys 46 = .bool true := by first | exact hdeps | exact hdeps.1 | exact hdeps.2 | exact hdeps.2.1 | exact hdeps.2.2 | exact hdeps.2.2.1 | exact hdeps.2.2.2
        have y10 : ys 48 = .pointer none := by first | exact hdeps | exact hdeps.1 | exact hdeps.2 | exact hdeps.2.1 | exact hdeps.2.2 | exact hdeps.2.2.1 | exact hdeps.2.2.2
        clear hdeps
        simp only [y8, y10, fill, List.foldl_cons, List.foldl_nil, Act.put, List.setIfInBounds_toArray, List.set_cons_succ, List.set_cons_zero]
        go_wp2_with fail
        exact ⟨_, rfl, rfl, hBx, Below.refl _ _⟩
      case o12 =>
        intro ys wx hBx hdeps
        simp only [Deps, Region.binds, List.getD_cons_zero, List.getD_cons_succ, forall_const, and_true, true_and] at hdeps
        have y8 : ys 46 = .bool true := by first | exact hdeps | exact hdeps.1 | exact hdeps.2 | exact hdeps.2.1 | exact hdeps.2.2 | exact hdeps.2.2.1 | exact hdeps.2.2.2
        have y11 : ys 49 = .bool true := by first | exact hdeps | exact hdeps.1 | exact hdeps.2 | exact hdeps.2.1 | exact hdeps.2.2 | exact hdeps.2.2.1 | exact hdeps.2.2.2
        clear hdeps
        simp only [y8, y11, fill, List.foldl_cons, List.foldl_nil, Act.put, List.setIfInBounds_toArray, List.set_cons_succ, List.set_cons_zero]
        go_wp2_with fail
        exact ⟨_, rfl, rfl, hBx, Below.refl _ _⟩
      case o13 =>
        intro ys wx hBx hdeps
        simp only [Deps, Region.binds, List.getD_cons_zero, List.getD_cons_succ, forall_const, and_true, true_and] at hdeps
        have y12 : ys 50 = .bool true := by first | exact hdeps | exact hdeps.1 | exact hdeps.2 | exact hdeps.2.1 | exact hdeps.2.2 | exact hdeps.2.2.1 | exact hdeps.2.2.2
        clear hdeps
        simp only [y12, fill, List.foldl_cons, List.foldl_nil, Act.put, List.setIfInBounds_toArray, List.set_cons_succ, List.set_cons_zero]
        go_wp2_with fail
        exact ⟨_, rfl, rfl, hBx, Below.refl _ _⟩
      case o14 =>
        intro ys wx hBx hdeps
        simp only [Deps, Region.binds, List.getD_cons_zero, List.getD_cons_succ, forall_const, and_true, true_and] at hdeps
        have y13 : ys 51 = .bool true := by first | exact hdeps | exact hdeps.1 | exact hdeps.2 | exact hdeps.2.1 | exact hdeps.2.2 | exact hdeps.2.2.1 | exact hdeps.2.2.2
        clear hdeps
        simp only [y13, fill, List.foldl_cons, List.foldl_nil, Act.put, List.setIfInBounds_toArray, List.set_cons_succ, List.set_cons_zero]
        go_wp2_with fail
        exact ⟨_, rfl, rfl, hBx, Below.refl _ _⟩
      case o15 =>
        intro ys wx hBx hdeps
        simp only [Deps, Region.binds, List.getD_cons_zero, List.getD_cons_succ, forall_const, and_true, true_and] at hdeps
        have y13 : ys 51 = .bool true := by first | exact hdeps | exact hdeps.1 | exact hdeps.2 | exact hdeps.2.1 | exact hdeps.2.2 | exact hdeps.2.2.1 | exact hdeps.2.2.2
        have y14 : ys 52 = .pointer (some ⟨p, 0, none⟩) := by first | exact hdeps | exact hdeps.1 | exact hdeps.2 | exact hdeps.2.1 | exact hdeps.2.2 | exact hdeps.2.2.1 | exact hdeps.2.2.2
        clear hdeps
        simp only [y13, y14, fill, List.foldl_cons, List.foldl_nil, Act.put, List.setIfInBounds_toArray, List.set_cons_succ, List.set_cons_zero]
        go_wp2_with (go_at_call 25; (with_reducible refine (HN2.out _ _).mono ?_); rintro e w3 ⟨rfl, rfl⟩)
        exact ⟨_, rfl, rfl, hBx, Below.refl _ _⟩
      case o16 =>
        intro ys wx hBx hdeps
        simp only [Deps, Region.binds, List.getD_cons_zero, List.getD_cons_succ, forall_const, and_true, true_and] at hdeps
        have y13 : ys 51 = .bool true := by first | exact hdeps | exact hdeps.1 | exact hdeps.2 | exact hdeps.2.1 | exact hdeps.2.2 | exact hdeps.2.2.1 | exact hdeps.2.2.2
        have y15 : ys 53 = .pointer none := by first | exact hdeps | exact hdeps.1 | exact hdeps.2 | exact hdeps.2.1 | exact hdeps.2.2 | exact hdeps.2.2.1 | exact hdeps.2.2.2
        clear hdeps
        simp only [y13, y15, fill, List.foldl_cons, List.foldl_nil, Act.put, List.setIfInBounds_toArray, List.set_cons_succ, List.set_cons_zero]
        go_wp2_with fail
        exact ⟨_, rfl, rfl, hBx, Below.refl _ _⟩
      case o17 =>
        intro ys wx hBx hdeps
        simp only [Deps, Region.binds, List.getD_cons_zero, List.getD_cons_succ, forall_const, and_true, true_and] at hdeps
        have y13 : ys 51 = .bool true := by first | exact hdeps | exact hdeps.1 | exact hdeps.2 | exact hdeps.2.1 | exact hdeps.2.2 | exact hdeps.2.2.1 | exact hdeps.2.2.2
        have y16 : ys 54 = .bool true := by first | exact hdeps | exact hdeps.1 | exact hdeps.2 | exact hdeps.2.1 | exact hdeps.2.2 | exact hdeps.2.2.1 | exact hdeps.2.2.2
        clear hdeps
        simp only [y13, y16, fill, List.foldl_cons, List.foldl_nil, Act.put, List.setIfInBounds_toArray, List.set_cons_succ, List.set_cons_zero]
        go_wp2_with fail
        exact ⟨_, rfl, rfl, hBx, Below.refl _ _⟩
      case o18 =>
        intro ys wx hBx hdeps
        simp only [Deps, Region.binds, List.getD_cons_zero, List.getD_cons_succ, forall_const, and_true, true_and] at hdeps
        have y17 : ys 55 = .bool true := by first | exact hdeps | exact hdeps.1 | exact hdeps.2 | exact hdeps.2.1 | exact hdeps.2.2 | exact hdeps.2.2.1 | exact hdeps.2.2.2
        clear hdeps
        simp only [y17, fill, List.foldl_cons, List.foldl_nil, Act.put, List.setIfInBounds_toArray, List.set_cons_succ, List.set_cons_zero]
        go_wp2_with fail
        exact ⟨_, rfl, rfl, hBx, Below.refl _ _⟩
      case o19 =>
        intro ys wx hBx hdeps
        simp only [Deps, Region.binds, List.getD_cons_zero, List.getD_cons_succ, forall_const, and_true, true_and] at hdeps
        have y18 : ys 56 = .bool true := by first | exact hdeps | exact hdeps.1 | exact hdeps.2 | exact hdeps.2.1 | exact hdeps.2.2 | exact hdeps.2.2.1 | exact hdeps.2.2.2
        clear hdeps
        simp only [y18, fill, List.foldl_cons, List.foldl_nil, Act.put, List.setIfInBounds_toArray, List.set_cons_succ, List.set_cons_zero]
        go_wp2_with fail
        exact ⟨_, rfl, rfl, hBx, Below.refl _ _⟩
      case o20 =>
        intro ys wx hBx hdeps
        simp only [Deps, Region.binds, List.getD_cons_zero, List.getD_cons_succ, forall_const, and_true, true_and] at hdeps
        have y18 : ys 56 = .bool true := by first | exact hdeps | exact hdeps.1 | exact hdeps.2 | exact hdeps.2.1 | exact hdeps.2.2 | exact hdeps.2.2.1 | exact hdeps.2.2.2
        have y19 : ys 57 = .int .i64 1 := by first | exact hdeps | exact hdeps.1 | exact hdeps.2 | exact hdeps.2.1 | exact hdeps.2.2 | exact hdeps.2.2.1 | exact hdeps.2.2.2
        clear hdeps
        simp only [y18, y19, fill, List.foldl_cons, List.foldl_nil, Act.put, List.setIfInBounds_toArray, List.set_cons_succ, List.set_cons_zero]
        go_wp2_with fail
        exact ⟨_, rfl, rfl, hBx, Below.refl _ _⟩
      case o21 =>
        intro ys wx hBx hdeps
        simp only [Deps, Region.binds, List.getD_cons_zero, List.getD_cons_succ, forall_const, and_true, true_and] at hdeps
        have y18 : ys 56 = .bool true := by first | exact hdeps | exact hdeps.1 | exact hdeps.2 | exact hdeps.2.1 | exact hdeps.2.2 | exact hdeps.2.2.1 | exact hdeps.2.2.2
        have y20 : ys 58 = .bool true := by first | exact hdeps | exact hdeps.1 | exact hdeps.2 | exact hdeps.2.1 | exact hdeps.2.2 | exact hdeps.2.2.1 | exact hdeps.2.2.2
        clear hdeps
        simp only [y18, y20, fill, List.foldl_cons, List.foldl_nil, Act.put, List.setIfInBounds_toArray, List.set_cons_succ, List.set_cons_zero]
        go_wp2_with fail
        exact ⟨_, rfl, rfl, hBx, Below.refl _ _⟩
      case o22 =>
        intro ys wx hBx hdeps
        simp only [Deps, Region.binds, List.getD_cons_zero, List.getD_cons_succ, forall_const, and_true, true_and] at hdeps
        have y21 : ys 59 = .bool true := by first | exact hdeps | exact hdeps.1 | exact hdeps.2 | exact hdeps.2.1 | exact hdeps.2.2 | exact hdeps.2.2.1 | exact hdeps.2.2.2
        clear hdeps
        simp only [y21, fill, List.foldl_cons, List.foldl_nil, Act.put, List.setIfInBounds_toArray, List.set_cons_succ, List.set_cons_zero]
        go_wp2_with fail
        exact ⟨_, rfl, rfl, hBx, Below.refl _ _⟩
      case o23 =>
        intro ys wx hBx hdeps
        simp only [Deps, Region.binds, List.getD_cons_zero, List.getD_cons_succ, forall_const, and_true, true_and] at hdeps
        have y22 : ys 60 = .bool true := by first | exact hdeps | exact hdeps.1 | exact hdeps.2 | exact hdeps.2.1 | exact hdeps.2.2 | exact hdeps.2.2.1 | exact hdeps.2.2.2
        clear hdeps
        simp only [y22, fill, List.foldl_cons, List.foldl_nil, Act.put, List.setIfInBounds_toArray, List.set_cons_succ, List.set_cons_zero]
        go_wp2_with fail
        exact ⟨_, rfl, rfl, hBx, Below.refl _ _⟩
      case o24 =>
        intro ys wx hBx hdeps
        simp only [Deps, Region.binds, List.getD_cons_zero, List.getD_cons_succ, forall_const, and_true, true_and] at hdeps
        have y22 : ys 60 = .bool true := by first | exact hdeps | exact hdeps.1 | exact hdeps.2 | exact hdeps.2.1 | exact hdeps.2.2 | exact hdeps.2.2.1 | exact hdeps.2.2.2
        have y23 : ys 61 = .pointer none := by first | exact hdeps | exact hdeps.1 | exact hdeps.2 | exact hdeps.2.1 | exact hdeps.2.2 | exact hdeps.2.2.1 | exact hdeps.2.2.2
        clear hdeps
        simp only [y22, y23, fill, List.foldl_cons, List.foldl_nil, Act.put, List.setIfInBounds_toArray, List.set_cons_succ, List.set_cons_zero]
        go_wp2_with (go_at_call 16; (with_reducible refine (HFN.out _).mono ?_); rintro e w3 ⟨rfl, rfl⟩)
        exact ⟨_, rfl, rfl, hBx, Below.refl _ _⟩
      case o25 =>
        intro ys wx hBx hdeps
        simp only [Deps, Region.binds, List.getD_cons_zero, List.getD_cons_succ, forall_const, and_true, true_and] at hdeps
        have y22 : ys 60 = .bool true := by first | exact hdeps | exact hdeps.1 | exact hdeps.2 | exact hdeps.2.1 | exact hdeps.2.2 | exact hdeps.2.2.1 | exact hdeps.2.2.2
        have y24 : ys 62 = .int .i64 1 := by first | exact hdeps | exact hdeps.1 | exact hdeps.2 | exact hdeps.2.1 | exact hdeps.2.2 | exact hdeps.2.2.1 | exact hdeps.2.2.2
        clear hdeps
        simp only [y22, y24, fill, List.foldl_cons, List.foldl_nil, Act.put, List.setIfInBounds_toArray, List.set_cons_succ, List.set_cons_zero]
        go_wp2_with fail
        exact ⟨_, rfl, rfl, hBx, Below.refl _ _⟩
      case o26 =>
        intro ys wx hBx hdeps
        simp only [Deps, Region.binds, List.getD_cons_zero, List.getD_cons_succ, forall_const, and_true, true_and] at hdeps
        have y22 : ys 60 = .bool true := by first | exact hdeps | exact hdeps.1 | exact hdeps.2 | exact hdeps.2.1 | exact hdeps.2.2 | exact hdeps.2.2.1 | exact hdeps.2.2.2
        have y25 : ys 63 = .bool true := by first | exact hdeps | exact hdeps.1 | exact hdeps.2 | exact hdeps.2.1 | exact hdeps.2.2 | exact hdeps.2.2.1 | exact hdeps.2.2.2
        clear hdeps
        simp only [y22, y25, fill, List.foldl_cons, List.foldl_nil, Act.put, List.setIfInBounds_toArray, List.set_cons_succ, List.set_cons_zero]
        go_wp2_with fail
        exact ⟨_, rfl, rfl, hBx, Below.refl _ _⟩
      case o27 =>
        intro ys wx hBx hdeps
        simp only [Deps, Region.binds, List.getD_cons_zero, List.getD_cons_succ, forall_const, and_true, true_and] at hdeps
        have y26 : ys 64 = .bool true := by first | exact hdeps | exact hdeps.1 | exact hdeps.2 | exact hdeps.2.1 | exact hdeps.2.2 | exact hdeps.2.2.1 | exact hdeps.2.2.2
        clear hdeps
        simp only [y26, fill, List.foldl_cons, List.foldl_nil, Act.put, List.setIfInBounds_toArray, List.set_cons_succ, List.set_cons_zero]
        go_wp2_with fail
        exact ⟨_, rfl, rfl, hBx, Below.refl _ _⟩
      case o28 =>
        intro ys wx hBx hdeps
        simp only [Deps, Region.binds, List.getD_cons_zero, List.getD_cons_succ, forall_const, and_true, true_and] at hdeps
        have y27 : ys 65 = .bool true := by first | exact hdeps | exact hdeps.1 | exact hdeps.2 | exact hdeps.2.1 | exact hdeps.2.2 | exact hdeps.2.2.1 | exact hdeps.2.2.2
        clear hdeps
        simp only [y27, fill, List.foldl_cons, List.foldl_nil, Act.put, List.setIfInBounds_toArray, List.set_cons_succ, List.set_cons_zero]
        go_wp2_with fail
        exact ⟨_, rfl, rfl, hBx, Below.refl _ _⟩
      case o29 =>
        intro ys wx hBx hdeps
        simp only [Deps, Region.binds, List.getD_cons_zero, List.getD_cons_succ, forall_const, and_true, true_and] at hdeps
        have y27 : ys 65 = .bool true := by first | exact hdeps | exact hdeps.1 | exact hdeps.2 | exact hdeps.2.1 | exact hdeps.2.2 | exact hdeps.2.2.1 | exact hdeps.2.2.2
        have y28 : ys 66 = .pointer none := by first | exact hdeps | exact hdeps.1 | exact hdeps.2 | exact hdeps.2.1 | exact hdeps.2.2 | exact hdeps.2.2.1 | exact hdeps.2.2.2
        clear hdeps
        simp only [y27, y28, fill, List.foldl_cons, List.foldl_nil, Act.put, List.setIfInBounds_toArray, List.set_cons_succ, List.set_cons_zero]
        go_wp2_with (go_at_call 20; (with_reducible refine (HEN.out _).mono ?_); rintro e w3 ⟨rfl, rfl⟩)
        exact ⟨_, rfl, rfl, hBx, Below.refl _ _⟩
      case o30 =>
        intro ys wx hBx hdeps
        simp only [Deps, Region.binds, List.getD_cons_zero, List.getD_cons_succ, forall_const, and_true, true_and] at hdeps
        have y27 : ys 65 = .bool true := by first | exact hdeps | exact hdeps.1 | exact hdeps.2 | exact hdeps.2.1 | exact hdeps.2.2 | exact hdeps.2.2.1 | exact hdeps.2.2.2
        have y29 : ys 67 = .int .i64 1 := by first | exact hdeps | exact hdeps.1 | exact hdeps.2 | exact hdeps.2.1 | exact hdeps.2.2 | exact hdeps.2.2.1 | exact hdeps.2.2.2
        clear hdeps
        simp only [y27, y29, fill, List.foldl_cons, List.foldl_nil, Act.put, List.setIfInBounds_toArray, List.set_cons_succ, List.set_cons_zero]
        go_wp2_with fail
        exact ⟨_, rfl, rfl, hBx, Below.refl _ _⟩
      case o31 =>
        intro ys wx hBx hdeps
        simp only [Deps, Region.binds, List.getD_cons_zero, List.getD_cons_succ, forall_const, and_true, true_and] at hdeps
        have y27 : ys 65 = .bool true := by first | exact hdeps | exact hdeps.1 | exact hdeps.2 | exact hdeps.2.1 | exact hdeps.2.2 | exact hdeps.2.2.1 | exact hdeps.2.2.2
        have y30 : ys 68 = .bool true := by first | exact hdeps | exact hdeps.1 | exact hdeps.2 | exact hdeps.2.1 | exact hdeps.2.2 | exact hdeps.2.2.1 | exact hdeps.2.2.2
        clear hdeps
        simp only [y27, y30, fill, List.foldl_cons, List.foldl_nil, Act.put, List.setIfInBounds_toArray, List.set_cons_succ, List.set_cons_zero]
        go_wp2_with fail
        exact ⟨_, rfl, rfl, hBx, Below.refl _ _⟩
      case o32 =>
        intro ys wx hBx hdeps
        simp only [Deps, Region.binds, List.getD_cons_zero, List.getD_cons_succ, forall_const, and_true, true_and] at hdeps
        have y31 : ys 69 = .bool true := by first | exact hdeps | exact hdeps.1 | exact hdeps.2 | exact hdeps.2.1 | exact hdeps.2.2 | exact hdeps.2.2.1 | exact hdeps.2.2.2
        clear hdeps
        simp only [y31, fill, List.foldl_cons, List.foldl_nil, Act.put, List.setIfInBounds_toArray, List.set_cons_succ, List.set_cons_zero]
        go_wp2_with fail
        exact ⟨_, rfl, rfl, hBx, Below.refl _ _⟩
    case done2 =>
      intro ys wx hBx hV
      have h4 : ys 4 = .bool true := hV 32 (by decide)
      have BF := Lib.hid (bw7.out.trans (hBx.mono bw7.out.size))
      clear hBx hV
      simp only [h4, fill, List.drop_succ_cons, List.drop_zero, List.foldl_cons, List.foldl_nil, Act.put, List.setIfInBounds_toArray, List.set_cons_succ, List.set_cons_zero]
      go_wp2
      go_ret
      exact ⟨rfl, BF.out⟩
set_option maxRecDepth 100000 in
set_option maxHeartbeats 8000000 in
theorem apart_n0 (gp gs gr hp hq hr : Int) (e0 : ¬ 32 + gp % 33 = 32 + hp % 33) (w : World) :
    Calls Try.prog 6 #[Geom.gV ⟨gp, gs, gr⟩, Geom.gV ⟨hp, hq, hr⟩] w fun e w' => e = .returned (.bool true) ∧ Below w.heap.size w w' := by
  unfold Geom.gV
  obtain ⟨pg, hpg⟩ : ∃ n : Nat, (n : Int) = 32 + gp % 33 := ⟨(32 + gp % 33).toNat, by omega⟩
  obtain ⟨pgs, hpgs⟩ : ∃ n : Nat, (n : Int) = 3 + gs % 4 := ⟨(3 + gs % 4).toNat, by omega⟩
  obtain ⟨rgs, hrgs⟩ : ∃ n : Nat, (n : Int) = 4 + gr % 4 := ⟨(4 + gr % 4).toNat, by omega⟩
  have p0 : 32 ≤ pg := by omega
  have p1 : pg ≤ 64 := by omega
  have s0 : 3 ≤ pgs := by omega
  have s1 : pgs ≤ 6 := by omega
  have r0 : 4 ≤ rgs := by omega
  have r1 : rgs ≤ 7 := by omega
  have HG : Hid (∀ w, Calls Try.prog 8 #[.agg #[.int .i64 gp, .int .i64 gs, .int .i64 gr]] w fun e w' => e = .returned (.agg #[.int .i64 (pg : Int), .int .i64 (pgs : Int), .int .i64 (rgs : Int)]) ∧ Below w.heap.size w w') := fun w => by
    rw [hpg, hpgs, hrgs]; exact Geom.geom_any ⟨gp, gs, gr⟩ w
  have HAL := Lib.hid (fun w => alive_any w)
  have SZ := Lib.hid (show Sz pg pgs rgs from ⟨p0, by omega, s0, by omega, r0, by omega⟩)
  obtain ⟨qg, hqg⟩ : ∃ n : Nat, (n : Int) = 32 + hp % 33 := ⟨(32 + hp % 33).toNat, by omega⟩
  obtain ⟨qgs, hqgs⟩ : ∃ n : Nat, (n : Int) = 3 + hq % 4 := ⟨(3 + hq % 4).toNat, by omega⟩
  obtain ⟨qrs, hqrs⟩ : ∃ n : Nat, (n : Int) = 4 + hr % 4 := ⟨(4 + hr % 4).toNat, by omega⟩
  have HG2 : Hid (∀ w, Calls Try.prog 8 #[.agg #[.int .i64 hp, .int .i64 hq, .int .i64 hr]] w fun e w' => e = .returned (.agg #[.int .i64 (qg : Int), .int .i64 (qgs : Int), .int .i64 (qrs : Int)]) ∧ Below w.heap.size w w') := fun w => by
    rw [hqg, hqgs, hqrs]; exact Geom.geom_any ⟨hp, hq, hr⟩ w
  have SZ2 := Lib.hid (show Sz qg qgs qrs from ⟨by omega, by omega, by omega, by omega, by omega, by omega⟩)
  have q0 : ((pg : Int) == (qg : Int)) = false := by simp; omega
  have HNF := Lib.hid (fun w => flash_new SZ.out w)
  have OKD := Lib.hid (Flash.new_ok (pg := pg) (pgs := pgs) (rgs := rgs) (image := []) (Nat.zero_le _) SZ.out.p0 SZ.out.p1 SZ.out.s0 SZ.out.s1 SZ.out.r0 SZ.out.r1)
  have HNC := Lib.hid (fun w => Chart.new_good qg qgs qrs SZ2.out.p0 SZ2.out.p1 SZ2.out.s0 SZ2.out.s1 SZ2.out.r0 SZ2.out.r1 w)
  unfold Chart.ptr at HNC
  have HAN := Lib.hid (fun w => append_nil _ rfl w)
  have HN1 := Lib.hid (fun q w => new_nil1 (some q) w)
  have HN2 := Lib.hid (fun p w => new_nil2 p w)
  have HFN := Lib.hid (fun w => flush_nil w)
  have HEN := Lib.hid (fun w => erase_nil 0 w)
  have hne : ¬ ((newD pg pgs rgs []).pg = (newC qg qgs qrs).pg ∧ (newD pg pgs rgs []).pgs = (newC qg qgs qrs).pgs ∧ (newD pg pgs rgs []).rgs = (newC qg qgs qrs).rgs) := fun x => absurd (show (pg : Int) = (qg : Int) by exact_mod_cast x.1) (by omega)
  have HNT : Hid (∀ w p q S R, FH w p (newD pg pgs rgs []) S → CHas w q (newC qg qgs qrs) R → Calls Try.prog 25 #[.pointer (some ⟨p, 0, none⟩), .pointer (some ⟨q, 0, none⟩)] w fun e w' => e = .returned (.pointer none) ∧ Below w.heap.size w w') := fun w p q S R hf hc => new_unlike hf.h OKD.out hc hne
  clear hne
  clear hpg hpgs hrgs hqg hqgs hqrs e0
  go_enter Try.func6, Try.ntmps6
  go_wp2
  obtain ⟨w1, hw1⟩ : ∃ wx, wx = ((w.alloc (.cells #[.int .i64 gp, .int .i64 gs, .int .i64 gr] 23)).alloc (.cells #[.int .i64 hp, .int .i64 hq, .int .i64 hr] 23)) := ⟨_, rfl⟩
  have bw1 := Lib.hid (show Below w.heap.size w w1 by rw [hw1]; exact (bel2 (Geom.bel_alloc _ _) (Geom.bel_alloc _ _)))
  have zw1 := Lib.hid (show w.heap.size + 2 ≤ w1.heap.size by rw [hw1]; simp)
  have vw1g := Lib.hid (show Var w1 (w.heap.size) 23 [.int .i64 gp, .int .i64 gs, .int .i64 gr] by rw [hw1]; exact ((Var.new w 23 [.int .i64 gp, .int .i64 gs, .int .i64 gr]).alloc _))
  have vw1h := Lib.hid (show Var w1 (w.heap.size + 1) 23 [.int .i64 hp, .int .i64 hq, .int .i64 hr] by rw [hw1]; exact (show Var ((w.alloc (.cells #[.int .i64 gp, .int .i64 gs, .int .i64 gr] 23)).alloc (.cells #[.int .i64 hp, .int .i64 hq, .int .i64 hr] 23)) (w.heap.size + 1) 23 [.int .i64 hp, .int .i64 hq, .int .i64 hr] from by have h := Var.new (w.alloc (.cells #[.int .i64 gp, .int .i64 gs, .int .i64 gr] 23)) 23 [.int .i64 hp, .int .i64 hq, .int .i64 hr]; rw [show (w.alloc (.cells #[.int .i64 gp, .int .i64 gs, .int .i64 gr] 23)).heap.size = w.heap.size + 1 by simp] at h; exact h))
  rw [← hw1]
  refine wp_region_is_tail 4 [11, 12, 13, 14] (fun w' => Below w1.heap.size w1 w')
    [.agg #[.int .i64 gp, .int .i64 gs, .int .i64 gr], .agg #[.int .i64 (pg : Int), .int .i64 (pgs : Int), .int .i64 (rgs : Int)], .agg #[.int .i64 hp, .int .i64 hq, .int .i64 hr], .agg #[.int .i64 (qg : Int), .int .i64 (qgs : Int), .int .i64 (qrs : Int)]] (by kernel_rfl) (by kernel_rfl) (by kernel_rfl) (by decide) rfl (by decide) (by simp) (Below.refl _ _).drew ?each ?done
  case each =>
    simp only [List.take_succ_cons, List.take_zero, Each]
    repeat' (first | exact trivial | refine And.intro ?_ ?_)
    all_goals
      intro ys wx hBx hdeps
      simp only [Deps, Region.binds, List.getD_cons_zero, List.getD_cons_succ, forall_const, and_true] at hdeps
      have q1 := (vw1g.out.below hBx vw1g.out.lt).cell (j := 0) rfl
      have q2 := (vw1g.out.below hBx vw1g.out.lt).cell (j := 1) rfl
      have q3 := (vw1g.out.below hBx vw1g.out.lt).cell (j := 2) rfl
      have q4 := (vw1h.out.below hBx vw1h.out.lt).cell (j := 0) rfl
      have q5 := (vw1h.out.below hBx vw1h.out.lt).cell (j := 1) rfl
      have q6 := (vw1h.out.below hBx vw1h.out.lt).cell (j := 2) rfl
      simp only [hdeps, fill, List.foldl_cons, List.foldl_nil, Act.put, List.setIfInBounds_toArray, List.set_cons_succ, List.set_cons_zero]
      first
        | (go_wp2_with fail; exact ⟨_, rfl, rfl, hBx, Below.refl _ _⟩)
        | (go_wp2_with (go_at_call 8; (with_reducible refine (HG.out _).mono ?_); rintro e w3 ⟨rfl, hm⟩); exact ⟨_, rfl, rfl, hBx.trans (hm.mono hBx.size), hm⟩)
        | (go_wp2_with (go_at_call 8; (with_reducible refine (HG2.out _).mono ?_); rintro e w3 ⟨rfl, hm⟩); exact ⟨_, rfl, rfl, hBx.trans (hm.mono hBx.size), hm⟩)
  case done =>
    intro ys wx hBx hV
    obtain ⟨w2, hw2⟩ : ∃ wy, wy = wx := ⟨_, rfl⟩
    rw [← hw2] at hBx ⊢
    have bw2 := Lib.hid (bel2 bw1.out hBx)
    have zw2 := Lib.hid hBx.size
    have vw2g := Lib.hid (vw1g.out.below hBx vw1g.out.lt)
    have vw2h := Lib.hid (vw1h.out.below hBx vw1h.out.lt)
    have h12 : ys 12 = .agg #[.int .i64 (pg : Int), .int .i64 (pgs : Int), .int .i64 (rgs : Int)] := hV 1 (by decide)
    have h14 : ys 14 = .agg #[.int .i64 (qg : Int), .int .i64 (qgs : Int), .int .i64 (qrs : Int)] := hV 3 (by decide)
    clear hBx hV hw2
    simp only [h12, h14, fill, List.drop_succ_cons, List.drop_zero, List.foldl_cons, List.foldl_nil, Act.put, List.setIfInBounds_toArray, List.set_cons_succ, List.set_cons_zero]
    have vf7 := (show Var w2 (w.heap.size) 23 [.int .i64 gp, .int .i64 gs, .int .i64 gr] from vw2g.out)
    have c8 := vf7.cell (j := 0) rfl
    have c9 := vf7.cell (j := 1) rfl
    have c10 := vf7.cell (j := 2) rfl
    clear vf7
    have vf11 := (show Var w2 (w.heap.size + 1) 23 [.int .i64 hp, .int .i64 hq, .int .i64 hr] from vw2h.out)
    have c12 := vf11.cell (j := 0) rfl
    have c13 := vf11.cell (j := 1) rfl
    have c14 := vf11.cell (j := 2) rfl
    clear vf11
    have vf15 := (show Var w2 (w.heap.size) 23 [.int .i64 gp, .int .i64 gs, .int .i64 gr] from vw2g.out)
    have f16 := vf15.frozen 0
    have f17 := vf15.frozen 1
    have f18 := vf15.frozen 2
    clear vf15
    have vf19 := (show Var w2 (w.heap.size + 1) 23 [.int .i64 hp, .int .i64 hq, .int .i64 hr] from vw2h.out)
    have f20 := vf19.frozen 0
    have f21 := vf19.frozen 1
    have f22 := vf19.frozen 2
    clear vf19
    have vf23 := (show Var ((((((w2.setCell ⟨w.heap.size, 0, none⟩ (.int .i64 (pg : Int))).setCell ⟨w.heap.size, 1, none⟩ (.int .i64 (pgs : Int))).setCell ⟨w.heap.size, 2, none⟩ (.int .i64 (rgs : Int))).setCell ⟨w.heap.size + 1, 0, none⟩ (.int .i64 (qg : Int))).setCell ⟨w.heap.size + 1, 1, none⟩ (.int .i64 (qgs : Int))).setCell ⟨w.heap.size + 1, 2, none⟩ (.int .i64 (qrs : Int))) (w.heap.size) 23 [.int .i64 (pg : Int), .int .i64 (pgs : Int), .int .i64 (rgs : Int)] from (Piece.Var.othr2 (Piece.Var.othr2 (Piece.Var.othr2 (((vw2g.out.set 0 (.int .i64 (pg : Int))).set 1 (.int .i64 (pgs : Int))).set 2 (.int .i64 (rgs : Int))) ⟨w.heap.size + 1, 0, none⟩ (.int .i64 (qg : Int)) (by have := zw1.out; have := zw2.out; have := vw2g.out.lt; simp only; omega)) ⟨w.heap.size + 1, 1, none⟩ (.int .i64 (qgs : Int)) (by have := zw1.out; have := zw2.out; have := vw2g.out.lt; simp only; omega)) ⟨w.heap.size + 1, 2, none⟩ (.int .i64 (qrs : Int)) (by have := zw1.out; have := zw2.out; have := vw2g.out.lt; simp only; omega)))
    have c24 := vf23.cell (j := 0) rfl
    have c25 := vf23.cell (j := 1) rfl
    have c26 := vf23.cell (j := 2) rfl
    clear vf23
    have vf27 := (show Var ((((((w2.setCell ⟨w.heap.size, 0, none⟩ (.int .i64 (pg : Int))).setCell ⟨w.heap.size, 1, none⟩ (.int .i64 (pgs : Int))).setCell ⟨w.heap.size, 2, none⟩ (.int .i64 (rgs : Int))).setCell ⟨w.heap.size + 1, 0, none⟩ (.int .i64 (qg : Int))).setCell ⟨w.heap.size + 1, 1, none⟩ (.int .i64 (qgs : Int))).setCell ⟨w.heap.size + 1, 2, none⟩ (.int .i64 (qrs : Int))) (w.heap.size + 1) 23 [.int .i64 (qg : Int), .int .i64 (qgs : Int), .int .i64 (qrs : Int)] from ((((Piece.Var.othr2 (Piece.Var.othr2 (Piece.Var.othr2 vw2h.out ⟨w.heap.size, 0, none⟩ (.int .i64 (pg : Int)) (by have := zw1.out; have := zw2.out; have := vw2h.out.lt; simp only; omega)) ⟨w.heap.size, 1, none⟩ (.int .i64 (pgs : Int)) (by have := zw1.out; have := zw2.out; have := vw2h.out.lt; simp only; omega)) ⟨w.heap.size, 2, none⟩ (.int .i64 (rgs : Int)) (by have := zw1.out; have := zw2.out; have := vw2h.out.lt; simp only; omega)).set 0 (.int .i64 (qg : Int))).set 1 (.int .i64 (qgs : Int))).set 2 (.int .i64 (qrs : Int))))
    have c28 := vf27.cell (j := 0) rfl
    have c29 := vf27.cell (j := 1) rfl
    have c30 := vf27.cell (j := 2) rfl
    clear vf27
    go_wp2_with (first
      | (go_at_call 23; ((with_reducible refine (HNF.out _).mono ?_); rintro e w4 ⟨p, S, rfl, hf, bz⟩; obtain ⟨w3, hw3⟩ : ∃ wx, wx = ((((((w2.setCell ⟨w.heap.size, 0, none⟩ (.int .i64 (pg : Int))).setCell ⟨w.heap.size, 1, none⟩ (.int .i64 (pgs : Int))).setCell ⟨w.heap.size, 2, none⟩ (.int .i64 (rgs : Int))).setCell ⟨w.heap.size + 1, 0, none⟩ (.int .i64 (qg : Int))).setCell ⟨w.heap.size + 1, 1, none⟩ (.int .i64 (qgs : Int))).setCell ⟨w.heap.size + 1, 2, none⟩ (.int .i64 (qrs : Int))) := ⟨_, rfl⟩; have bw3 := Lib.hid (show Below w.heap.size w w3 by rw [hw3]; exact ((((((bw2.out.setCell (p := ⟨w.heap.size, 0, none⟩) (by have := zw1.out; have := zw2.out; simp only; omega) _).setCell (p := ⟨w.heap.size, 1, none⟩) (by have := zw1.out; have := zw2.out; simp only; omega) _).setCell (p := ⟨w.heap.size, 2, none⟩) (by have := zw1.out; have := zw2.out; simp only; omega) _).setCell (p := ⟨w.heap.size + 1, 0, none⟩) (by have := zw1.out; have := zw2.out; simp only; omega) _).setCell (p := ⟨w.heap.size + 1, 1, none⟩) (by have := zw1.out; have := zw2.out; simp only; omega) _).setCell (p := ⟨w.heap.size + 1, 2, none⟩) (by have := zw1.out; have := zw2.out; simp only; omega) _)); have zw3 := Lib.hid (show w2.heap.size + 0 ≤ w3.heap.size by rw [hw3]; simp); have vw3g := Lib.hid (show Var w3 (w.heap.size) 23 [.int .i64 (pg : Int), .int .i64 (pgs : Int), .int .i64 (rgs : Int)] by rw [hw3]; exact (Piece.Var.othr2 (Piece.Var.othr2 (Piece.Var.othr2 (((vw2g.out.set 0 (.int .i64 (pg : Int))).set 1 (.int .i64 (pgs : Int))).set 2 (.int .i64 (rgs : Int))) ⟨w.heap.size + 1, 0, none⟩ (.int .i64 (qg : Int)) (by have := zw1.out; have := zw2.out; have := vw2g.out.lt; simp only; omega)) ⟨w.heap.size + 1, 1, none⟩ (.int .i64 (qgs : Int)) (by have := zw1.out; have := zw2.out; have := vw2g.out.lt; simp only; omega)) ⟨w.heap.size + 1, 2, none⟩ (.int .i64 (qrs : Int)) (by have := zw1.out; have := zw2.out; have := vw2g.out.lt; simp only; omega))); have vw3h := Lib.hid (show Var w3 (w.heap.size + 1) 23 [.int .i64 (qg : Int), .int .i64 (qgs : Int), .int .i64 (qrs : Int)] by rw [hw3]; exact ((((Piece.Var.othr2 (Piece.Var.othr2 (Piece.Var.othr2 vw2h.out ⟨w.heap.size, 0, none⟩ (.int .i64 (pg : Int)) (by have := zw1.out; have := zw2.out; have := vw2h.out.lt; simp only; omega)) ⟨w.heap.size, 1, none⟩ (.int .i64 (pgs : Int)) (by have := zw1.out; have := zw2.out; have := vw2h.out.lt; simp only; omega)) ⟨w.heap.size, 2, none⟩ (.int .i64 (rgs : Int)) (by have := zw1.out; have := zw2.out; have := vw2h.out.lt; simp only; omega)).set 0 (.int .i64 (qg : Int))).set 1 (.int .i64 (qgs : Int))).set 2 (.int .i64 (qrs : Int)))); have hbel : Below w3.heap.size w3 w4 := (by rw [hw3]; exact bz); clear bz; have bw4 := Lib.hid (bel2 bw3.out hbel); have zw4 := Lib.hid hbel.size; have vw4g := Lib.hid (vw3g.out.below hbel vw3g.out.lt); have vw4h := Lib.hid (vw3h.out.below hbel vw3h.out.lt); clear hbel; clear c8 c9 c10 c12 c13 c14 f16 f17 f18 f20 f21 f22 c24 c25 c26 c28 c29 c30; have kF := Lib.hid hf; clear hf; have vf31 := (show Var w4 (w.heap.size) 23 [.int .i64 (pg : Int), .int .i64 (pgs : Int), .int .i64 (rgs : Int)] from vw4g.out); have c32 := vf31.cell (j := 0) rfl; have c33 := vf31.cell (j := 1) rfl; have c34 := vf31.cell (j := 2) rfl; clear vf31; have vf35 := (show Var w4 (w.heap.size + 1) 23 [.int .i64 (qg : Int), .int .i64 (qgs : Int), .int .i64 (qrs : Int)] from vw4h.out); have c36 := vf35.cell (j := 0) rfl; have c37 := vf35.cell (j := 1) rfl; have c38 := vf35.cell (j := 2) rfl; clear vf35))
      | (go_at_call 24; ((with_reducible refine (HNC.out _).mono ?_); rintro e w5 ⟨q, R, rfl, hc, bz, hs⟩; have hbel : Below w4.heap.size w4 w5 := (by exact bz); clear bz; have bw5 := Lib.hid (bel2 bw4.out hbel); have zw5 := Lib.hid hbel.size; have vw5g := Lib.hid (vw4g.out.below hbel vw4g.out.lt); have vw5h := Lib.hid (vw4h.out.below hbel vw4h.out.lt); have kw5F := Lib.hid (kF.out.below hbel); clear hbel; clear c32 c33 c34 c36 c37 c38; have kC := Lib.hid hc; clear hc hs))
      | (go_at_call 10; ((with_reducible refine (HAL.out _).mono ?_); rintro e w6 ⟨rfl, bz⟩; have hbel : Below w5.heap.size w5 w6 := (by exact bz); clear bz; have bw6 := Lib.hid (bel2 bw5.out hbel); have zw6 := Lib.hid hbel.size; have vw6g := Lib.hid (vw5g.out.below hbel vw5g.out.lt); have vw6h := Lib.hid (vw5h.out.below hbel vw5h.out.lt); have kw6F := Lib.hid (kw5F.out.below hbel); have kw6C := Lib.hid (kC.out.below hbel); clear hbel))
      | (go_at_call 13; ((with_reducible refine (HAN.out _).mono ?_); rintro e w7 ⟨rfl, bz⟩; have hbel : Below w6.heap.size w6 w7 := (by exact bz); clear bz; have bw7 := Lib.hid (bel2 bw6.out hbel); have zw7 := Lib.hid hbel.size; have vw7g := Lib.hid (vw6g.out.below hbel vw6g.out.lt); have vw7h := Lib.hid (vw6h.out.below hbel vw6h.out.lt); have kw7F := Lib.hid (kw6F.out.below hbel); have kw7C := Lib.hid (kw6C.out.below hbel); clear hbel)))
    refine wp_region_is [38, 39, 40, 41, 42, 43, 44, 45, 46, 47, 48, 49, 50, 51, 52, 53, 54, 55, 56, 57, 58, 59, 60, 61, 62, 63, 64, 65, 66, 67, 68, 69, 4] (fun w' => Below w7.heap.size w7 w')
      [.pointer (some ⟨p, 0, none⟩), .pointer (some ⟨q, 0, none⟩), .pointer none, .bool false, .agg #[.int .i64 (pg : Int), .int .i64 (pgs : Int), .int .i64 (rgs : Int)], .agg #[.int .i64 (qg : Int), .int .i64 (qgs : Int), .int .i64 (qrs : Int)], .bool false, .bool true, .bool true, .pointer (some ⟨q, 0, none⟩), .pointer none, .bool true, .bool true, .bool true, .pointer (some ⟨p, 0, none⟩), .pointer none, .bool true, .bool true, .bool true, .int .i64 1, .bool true, .bool true, .bool true, .pointer none, .int .i64 1, .bool true, .bool true, .bool true, .pointer none, .int .i64 1, .bool true, .bool true, .bool true] (by kernel_rfl) (by kernel_rfl) rfl (by decide) (by simp) (Below.refl _ _).drew ?each2 ?done2
    case each2 =>
      simp only [Each]
      repeat' (first | exact trivial | refine And.intro ?_ ?_)
      all_goals
        intro ys wx hBx hdeps
        simp only [Deps, Region.binds, List.getD_cons_zero, List.getD_cons_succ, forall_const, and_true] at hdeps
        have g0 := (vw7g.out.below hBx vw7g.out.lt).cell (j := 0) rfl
        have g1 := (vw7g.out.below hBx vw7g.out.lt).cell (j := 1) rfl
        have g2 := (vw7g.out.below hBx vw7g.out.lt).cell (j := 2) rfl
        have h0 := (vw7h.out.below hBx vw7h.out.lt).cell (j := 0) rfl
        have h1 := (vw7h.out.below hBx vw7h.out.lt).cell (j := 1) rfl
        have h2 := (vw7h.out.below hBx vw7h.out.lt).cell (j := 2) rfl
        simp only [hdeps, fill, List.foldl_cons, List.foldl_nil, Act.put, List.setIfInBounds_toArray, List.set_cons_succ, List.set_cons_zero]
        first
          | (go_wp2_with fail; exact ⟨_, rfl, rfl, hBx, Below.refl _ _⟩)
          | (go_wp2_with (go_at_call 25; (with_reducible refine (HNT.out _ _ _ _ _ (kw7F.out.below hBx) (kw7C.out.below hBx)).mono ?_); rintro e w3 ⟨rfl, hm⟩); exact ⟨_, rfl, rfl, hBx.trans (hm.mono hBx.size), hm⟩)
          | (go_wp2_with (go_at_call 25; (with_reducible refine (HN1.out _ _).mono ?_); rintro e w3 ⟨rfl, rfl⟩); exact ⟨_, rfl, rfl, hBx, Below.refl _ _⟩)
          | (go_wp2_with (go_at_call 25; (with_reducible refine (HN2.out _ _).mono ?_); rintro e w3 ⟨rfl, rfl⟩); exact ⟨_, rfl, rfl, hBx, Below.refl _ _⟩)
          | (go_wp2_with (go_at_call 16; (with_reducible refine (HFN.out _).mono ?_); rintro e w3 ⟨rfl, rfl⟩); exact ⟨_, rfl, rfl, hBx, Below.refl _ _⟩)
          | (go_wp2_with (go_at_call 20; (with_reducible refine (HEN.out _).mono ?_); rintro e w3 ⟨rfl, rfl⟩); exact ⟨_, rfl, rfl, hBx, Below.refl _ _⟩)
    case done2 =>
      intro ys wx hBx hV
      have h4 : ys 4 = .bool true := hV 32 (by decide)
      have BF := Lib.hid (bw7.out.trans (hBx.mono bw7.out.size))
      clear hBx hV
      simp only [h4, fill, List.drop_succ_cons, List.drop_zero, List.foldl_cons, List.foldl_nil, Act.put, List.setIfInBounds_toArray, List.set_cons_succ, List.set_cons_zero]
      go_wp2
      go_ret
      exact ⟨rfl, BF.out⟩
set_option maxRecDepth 100000 in
set_option maxHeartbeats 8000000 in
theorem apart_n1 (gp gs gr hp hq hr : Int) (e0 : 32 + gp % 33 = 32 + hp % 33) (e1 : ¬ 3 + gs % 4 = 3 + hq % 4) (w : World) :
    Calls Try.prog 6 #[Geom.gV ⟨gp, gs, gr⟩, Geom.gV ⟨hp, hq, hr⟩] w fun e w' => e = .returned (.bool true) ∧ Below w.heap.size w w' := by
  unfold Geom.gV
  obtain ⟨pg, hpg⟩ : ∃ n : Nat, (n : Int) = 32 + gp % 33 := ⟨(32 + gp % 33).toNat, by omega⟩
  obtain ⟨pgs, hpgs⟩ : ∃ n : Nat, (n : Int) = 3 + gs % 4 := ⟨(3 + gs % 4).toNat, by omega⟩
  obtain ⟨rgs, hrgs⟩ : ∃ n : Nat, (n : Int) = 4 + gr % 4 := ⟨(4 + gr % 4).toNat, by omega⟩
  have p0 : 32 ≤ pg := by omega
  have p1 : pg ≤ 64 := by omega
  have s0 : 3 ≤ pgs := by omega
  have s1 : pgs ≤ 6 := by omega
  have r0 : 4 ≤ rgs := by omega
  have r1 : rgs ≤ 7 := by omega
  have HG : Hid (∀ w, Calls Try.prog 8 #[.agg #[.int .i64 gp, .int .i64 gs, .int .i64 gr]] w fun e w' => e = .returned (.agg #[.int .i64 (pg : Int), .int .i64 (pgs : Int), .int .i64 (rgs : Int)]) ∧ Below w.heap.size w w') := fun w => by
    rw [hpg, hpgs, hrgs]; exact Geom.geom_any ⟨gp, gs, gr⟩ w
  have HAL := Lib.hid (fun w => alive_any w)
  have SZ := Lib.hid (show Sz pg pgs rgs from ⟨p0, by omega, s0, by omega, r0, by omega⟩)
  obtain ⟨qg, hqg⟩ : ∃ n : Nat, (n : Int) = 32 + hp % 33 := ⟨(32 + hp % 33).toNat, by omega⟩
  obtain ⟨qgs, hqgs⟩ : ∃ n : Nat, (n : Int) = 3 + hq % 4 := ⟨(3 + hq % 4).toNat, by omega⟩
  obtain ⟨qrs, hqrs⟩ : ∃ n : Nat, (n : Int) = 4 + hr % 4 := ⟨(4 + hr % 4).toNat, by omega⟩
  have HG2 : Hid (∀ w, Calls Try.prog 8 #[.agg #[.int .i64 hp, .int .i64 hq, .int .i64 hr]] w fun e w' => e = .returned (.agg #[.int .i64 (qg : Int), .int .i64 (qgs : Int), .int .i64 (qrs : Int)]) ∧ Below w.heap.size w w') := fun w => by
    rw [hqg, hqgs, hqrs]; exact Geom.geom_any ⟨hp, hq, hr⟩ w
  have SZ2 := Lib.hid (show Sz qg qgs qrs from ⟨by omega, by omega, by omega, by omega, by omega, by omega⟩)
  obtain rfl : pg = qg := by omega
  have q0 : ((pg : Int) == (pg : Int)) = true := by simp
  have q1 : ((pgs : Int) == (qgs : Int)) = false := by simp; omega
  have HNF := Lib.hid (fun w => flash_new SZ.out w)
  have OKD := Lib.hid (Flash.new_ok (pg := pg) (pgs := pgs) (rgs := rgs) (image := []) (Nat.zero_le _) SZ.out.p0 SZ.out.p1 SZ.out.s0 SZ.out.s1 SZ.out.r0 SZ.out.r1)
  have HNC := Lib.hid (fun w => Chart.new_good pg qgs qrs SZ2.out.p0 SZ2.out.p1 SZ2.out.s0 SZ2.out.s1 SZ2.out.r0 SZ2.out.r1 w)
  unfold Chart.ptr at HNC
  have HAN := Lib.hid (fun w => append_nil _ rfl w)
  have HN1 := Lib.hid (fun q w => new_nil1 (some q) w)
  have HN2 := Lib.hid (fun p w => new_nil2 p w)
  have HFN := Lib.hid (fun w => flush_nil w)
  have HEN := Lib.hid (fun w => erase_nil 0 w)
  have hne : ¬ ((newD pg pgs rgs []).pg = (newC pg qgs qrs).pg ∧ (newD pg pgs rgs []).pgs = (newC pg qgs qrs).pgs ∧ (newD pg pgs rgs []).rgs = (newC pg qgs qrs).rgs) := fun x => absurd (show (pgs : Int) = (qgs : Int) by exact_mod_cast x.2.1) (by omega)
  have HNT : Hid (∀ w p q S R, FH w p (newD pg pgs rgs []) S → CHas w q (newC pg qgs qrs) R → Calls Try.prog 25 #[.pointer (some ⟨p, 0, none⟩), .pointer (some ⟨q, 0, none⟩)] w fun e w' => e = .returned (.pointer none) ∧ Below w.heap.size w w') := fun w p q S R hf hc => new_unlike hf.h OKD.out hc hne
  clear hne
  clear hpg hpgs hrgs hqg hqgs hqrs e0 e1
  go_enter Try.func6, Try.ntmps6
  go_wp2
  obtain ⟨w1, hw1⟩ : ∃ wx, wx = ((w.alloc (.cells #[.int .i64 gp, .int .i64 gs, .int .i64 gr] 23)).alloc (.cells #[.int .i64 hp, .int .i64 hq, .int .i64 hr] 23)) := ⟨_, rfl⟩
  have bw1 := Lib.hid (show Below w.heap.size w w1 by rw [hw1]; exact (bel2 (Geom.bel_alloc _ _) (Geom.bel_alloc _ _)))
  have zw1 := Lib.hid (show w.heap.size + 2 ≤ w1.heap.size by rw [hw1]; simp)
  have vw1g := Lib.hid (show Var w1 (w.heap.size) 23 [.int .i64 gp, .int .i64 gs, .int .i64 gr] by rw [hw1]; exact ((Var.new w 23 [.int .i64 gp, .int .i64 gs, .int .i64 gr]).alloc _))
  have vw1h := Lib.hid (show Var w1 (w.heap.size + 1) 23 [.int .i64 hp, .int .i64 hq, .int .i64 hr] by rw [hw1]; exact (show Var ((w.alloc (.cells #[.int .i64 gp, .int .i64 gs, .int .i64 gr] 23)).alloc (.cells #[.int .i64 hp, .int .i64 hq, .int .i64 hr] 23)) (w.heap.size + 1) 23 [.int .i64 hp, .int .i64 hq, .int .i64 hr] from by have h := Var.new (w.alloc (.cells #[.int .i64 gp, .int .i64 gs, .int .i64 gr] 23)) 23 [.int .i64 hp, .int .i64 hq, .int .i64 hr]; rw [show (w.alloc (.cells #[.int .i64 gp, .int .i64 gs, .int .i64 gr] 23)).heap.size = w.heap.size + 1 by simp] at h; exact h))
  rw [← hw1]
  refine wp_region_is_tail 4 [11, 12, 13, 14] (fun w' => Below w1.heap.size w1 w')
    [.agg #[.int .i64 gp, .int .i64 gs, .int .i64 gr], .agg #[.int .i64 (pg : Int), .int .i64 (pgs : Int), .int .i64 (rgs : Int)], .agg #[.int .i64 hp, .int .i64 hq, .int .i64 hr], .agg #[.int .i64 (pg : Int), .int .i64 (qgs : Int), .int .i64 (qrs : Int)]] (by kernel_rfl) (by kernel_rfl) (by kernel_rfl) (by decide) rfl (by decide) (by simp) (Below.refl _ _).drew ?each ?done
  case each =>
    simp only [List.take_succ_cons, List.take_zero, Each]
    repeat' (first | exact trivial | refine And.intro ?_ ?_)
    all_goals
      intro ys wx hBx hdeps
      simp only [Deps, Region.binds, List.getD_cons_zero, List.getD_cons_succ, forall_const, and_true] at hdeps
      have q1 := (vw1g.out.below hBx vw1g.out.lt).cell (j := 0) rfl
      have q2 := (vw1g.out.below hBx vw1g.out.lt).cell (j := 1) rfl
      have q3 := (vw1g.out.below hBx vw1g.out.lt).cell (j := 2) rfl
      have q4 := (vw1h.out.below hBx vw1h.out.lt).cell (j := 0) rfl
      have q5 := (vw1h.out.below hBx vw1h.out.lt).cell (j := 1) rfl
      have q6 := (vw1h.out.below hBx vw1h.out.lt).cell (j := 2) rfl
      simp only [hdeps, fill, List.foldl_cons, List.foldl_nil, Act.put, List.setIfInBounds_toArray, List.set_cons_succ, List.set_cons_zero]
      first
        | (go_wp2_with fail; exact ⟨_, rfl, rfl, hBx, Below.refl _ _⟩)
        | (go_wp2_with (go_at_call 8; (with_reducible refine (HG.out _).mono ?_); rintro e w3 ⟨rfl, hm⟩); exact ⟨_, rfl, rfl, hBx.trans (hm.mono hBx.size), hm⟩)
        | (go_wp2_with (go_at_call 8; (with_reducible refine (HG2.out _).mono ?_); rintro e w3 ⟨rfl, hm⟩); exact ⟨_, rfl, rfl, hBx.trans (hm.mono hBx.size), hm⟩)
  case done =>
    intro ys wx hBx hV
    obtain ⟨w2, hw2⟩ : ∃ wy, wy = wx := ⟨_, rfl⟩
    rw [← hw2] at hBx ⊢
    have bw2 := Lib.hid (bel2 bw1.out hBx)
    have zw2 := Lib.hid hBx.size
    have vw2g := Lib.hid (vw1g.out.below hBx vw1g.out.lt)
    have vw2h := Lib.hid (vw1h.out.below hBx vw1h.out.lt)
    have h12 : ys 12 = .agg #[.int .i64 (pg : Int), .int .i64 (pgs : Int), .int .i64 (rgs : Int)] := hV 1 (by decide)
    have h14 : ys 14 = .agg #[.int .i64 (pg : Int), .int .i64 (qgs : Int), .int .i64 (qrs : Int)] := hV 3 (by decide)
    clear hBx hV hw2
    simp only [h12, h14, fill, List.drop_succ_cons, List.drop_zero, List.foldl_cons, List.foldl_nil, Act.put, List.setIfInBounds_toArray, List.set_cons_succ, List.set_cons_zero]
    have vf7 := (show Var w2 (w.heap.size) 23 [.int .i64 gp, .int .i64 gs, .int .i64 gr] from vw2g.out)
    have c8 := vf7.cell (j := 0) rfl
    have c9 := vf7.cell (j := 1) rfl
    have c10 := vf7.cell (j := 2) rfl
    clear vf7
    have vf11 := (show Var w2 (w.heap.size + 1) 23 [.int .i64 hp, .int .i64 hq, .int .i64 hr] from vw2h.out)
    have c12 := vf11.cell (j := 0) rfl
    have c13 := vf11.cell (j := 1) rfl
    have c14 := vf11.cell (j := 2) rfl
    clear vf11
    have vf15 := (show Var w2 (w.heap.size) 23 [.int .i64 gp, .int .i64 gs, .int .i64 gr] from vw2g.out)
    have f16 := vf15.frozen 0
    have f17 := vf15.frozen 1
    have f18 := vf15.frozen 2
    clear vf15
    have vf19 := (show Var w2 (w.heap.size + 1) 23 [.int .i64 hp, .int .i64 hq, .int .i64 hr] from vw2h.out)
    have f20 := vf19.frozen 0
    have f21 := vf19.frozen 1
    have f22 := vf19.frozen 2
    clear vf19
    have vf23 := (show Var ((((((w2.setCell ⟨w.heap.size, 0, none⟩ (.int .i64 (pg : Int))).setCell ⟨w.heap.size, 1, none⟩ (.int .i64 (pgs : Int))).setCell ⟨w.heap.size, 2, none⟩ (.int .i64 (rgs : Int))).setCell ⟨w.heap.size + 1, 0, none⟩ (.int .i64 (pg : Int))).setCell ⟨w.heap.size + 1, 1, none⟩ (.int .i64 (qgs : Int))).setCell ⟨w.heap.size + 1, 2, none⟩ (.int .i64 (qrs : Int))) (w.heap.size) 23 [.int .i64 (pg : Int), .int .i64 (pgs : Int), .int .i64 (rgs : Int)] from (Piece.Var.othr2 (Piece.Var.othr2 (Piece.Var.othr2 (((vw2g.out.set 0 (.int .i64 (pg : Int))).set 1 (.int .i64 (pgs : Int))).set 2 (.int .i64 (rgs : Int))) ⟨w.heap.size + 1, 0, none⟩ (.int .i64 (pg : Int)) (by have := zw1.out; have := zw2.out; have := vw2g.out.lt; simp only; omega)) ⟨w.heap.size + 1, 1, none⟩ (.int .i64 (qgs : Int)) (by have := zw1.out; have := zw2.out; have := vw2g.out.lt; simp only; omega)) ⟨w.heap.size + 1, 2, none⟩ (.int .i64 (qrs : Int)) (by have := zw1.out; have := zw2.out; have := vw2g.out.lt; simp only; omega)))
    have c24 := vf23.cell (j := 0) rfl
    have c25 := vf23.cell (j := 1) rfl
    have c26 := vf23.cell (j := 2) rfl
    clear vf23
    have vf27 := (show Var ((((((w2.setCell ⟨w.heap.size, 0, none⟩ (.int .i64 (pg : Int))).setCell ⟨w.heap.size, 1, none⟩ (.int .i64 (pgs : Int))).setCell ⟨w.heap.size, 2, none⟩ (.int .i64 (rgs : Int))).setCell ⟨w.heap.size + 1, 0, none⟩ (.int .i64 (pg : Int))).setCell ⟨w.heap.size + 1, 1, none⟩ (.int .i64 (qgs : Int))).setCell ⟨w.heap.size + 1, 2, none⟩ (.int .i64 (qrs : Int))) (w.heap.size + 1) 23 [.int .i64 (pg : Int), .int .i64 (qgs : Int), .int .i64 (qrs : Int)] from ((((Piece.Var.othr2 (Piece.Var.othr2 (Piece.Var.othr2 vw2h.out ⟨w.heap.size, 0, none⟩ (.int .i64 (pg : Int)) (by have := zw1.out; have := zw2.out; have := vw2h.out.lt; simp only; omega)) ⟨w.heap.size, 1, none⟩ (.int .i64 (pgs : Int)) (by have := zw1.out; have := zw2.out; have := vw2h.out.lt; simp only; omega)) ⟨w.heap.size, 2, none⟩ (.int .i64 (rgs : Int)) (by have := zw1.out; have := zw2.out; have := vw2h.out.lt; simp only; omega)).set 0 (.int .i64 (pg : Int))).set 1 (.int .i64 (qgs : Int))).set 2 (.int .i64 (qrs : Int))))
    have c28 := vf27.cell (j := 0) rfl
    have c29 := vf27.cell (j := 1) rfl
    have c30 := vf27.cell (j := 2) rfl
    clear vf27
    go_wp2_with (first
      | (go_at_call 23; ((with_reducible refine (HNF.out _).mono ?_); rintro e w4 ⟨p, S, rfl, hf, bz⟩; obtain ⟨w3, hw3⟩ : ∃ wx, wx = ((((((w2.setCell ⟨w.heap.size, 0, none⟩ (.int .i64 (pg : Int))).setCell ⟨w.heap.size, 1, none⟩ (.int .i64 (pgs : Int))).setCell ⟨w.heap.size, 2, none⟩ (.int .i64 (rgs : Int))).setCell ⟨w.heap.size + 1, 0, none⟩ (.int .i64 (pg : Int))).setCell ⟨w.heap.size + 1, 1, none⟩ (.int .i64 (qgs : Int))).setCell ⟨w.heap.size + 1, 2, none⟩ (.int .i64 (qrs : Int))) := ⟨_, rfl⟩; have bw3 := Lib.hid (show Below w.heap.size w w3 by rw [hw3]; exact ((((((bw2.out.setCell (p := ⟨w.heap.size, 0, none⟩) (by have := zw1.out; have := zw2.out; simp only; omega) _).setCell (p := ⟨w.heap.size, 1, none⟩) (by have := zw1.out; have := zw2.out; simp only; omega) _).setCell (p := ⟨w.heap.size, 2, none⟩) (by have := zw1.out; have := zw2.out; simp only; omega) _).setCell (p := ⟨w.heap.size + 1, 0, none⟩) (by have := zw1.out; have := zw2.out; simp only; omega) _).setCell (p := ⟨w.heap.size + 1, 1, none⟩) (by have := zw1.out; have := zw2.out; simp only; omega) _).setCell (p := ⟨w.heap.size + 1, 2, none⟩) (by have := zw1.out; have := zw2.out; simp only; omega) _)); have zw3 := Lib.hid (show w2.heap.size + 0 ≤ w3.heap.size by rw [hw3]; simp); have vw3g := Lib.hid (show Var w3 (w.heap.size) 23 [.int .i64 (pg : Int), .int .i64 (pgs : Int), .int .i64 (rgs : Int)] by rw [hw3]; exact (Piece.Var.othr2 (Piece.Var.othr2 (Piece.Var.othr2 (((vw2g.out.set 0 (.int .i64 (pg : Int))).set 1 (.int .i64 (pgs : Int))).set 2 (.int .i64 (rgs : Int))) ⟨w.heap.size + 1, 0, none⟩ (.int .i64 (pg : Int)) (by have := zw1.out; have := zw2.out; have := vw2g.out.lt; simp only; omega)) ⟨w.heap.size + 1, 1, none⟩ (.int .i64 (qgs : Int)) (by have := zw1.out; have := zw2.out; have := vw2g.out.lt; simp only; omega)) ⟨w.heap.size + 1, 2, none⟩ (.int .i64 (qrs : Int)) (by have := zw1.out; have := zw2.out; have := vw2g.out.lt; simp only; omega))); have vw3h := Lib.hid (show Var w3 (w.heap.size + 1) 23 [.int .i64 (pg : Int), .int .i64 (qgs : Int), .int .i64 (qrs : Int)] by rw [hw3]; exact ((((Piece.Var.othr2 (Piece.Var.othr2 (Piece.Var.othr2 vw2h.out ⟨w.heap.size, 0, none⟩ (.int .i64 (pg : Int)) (by have := zw1.out; have := zw2.out; have := vw2h.out.lt; simp only; omega)) ⟨w.heap.size, 1, none⟩ (.int .i64 (pgs : Int)) (by have := zw1.out; have := zw2.out; have := vw2h.out.lt; simp only; omega)) ⟨w.heap.size, 2, none⟩ (.int .i64 (rgs : Int)) (by have := zw1.out; have := zw2.out; have := vw2h.out.lt; simp only; omega)).set 0 (.int .i64 (pg : Int))).set 1 (.int .i64 (qgs : Int))).set 2 (.int .i64 (qrs : Int)))); have hbel : Below w3.heap.size w3 w4 := (by rw [hw3]; exact bz); clear bz; have bw4 := Lib.hid (bel2 bw3.out hbel); have zw4 := Lib.hid hbel.size; have vw4g := Lib.hid (vw3g.out.below hbel vw3g.out.lt); have vw4h := Lib.hid (vw3h.out.below hbel vw3h.out.lt); clear hbel; clear c8 c9 c10 c12 c13 c14 f16 f17 f18 f20 f21 f22 c24 c25 c26 c28 c29 c30; have kF := Lib.hid hf; clear hf; have vf31 := (show Var w4 (w.heap.size) 23 [.int .i64 (pg : Int), .int .i64 (pgs : Int), .int .i64 (rgs : Int)] from vw4g.out); have c32 := vf31.cell (j := 0) rfl; have c33 := vf31.cell (j := 1) rfl; have c34 := vf31.cell (j := 2) rfl; clear vf31; have vf35 := (show Var w4 (w.heap.size + 1) 23 [.int .i64 (pg : Int), .int .i64 (qgs : Int), .int .i64 (qrs : Int)] from vw4h.out); have c36 := vf35.cell (j := 0) rfl; have c37 := vf35.cell (j := 1) rfl; have c38 := vf35.cell (j := 2) rfl; clear vf35))
      | (go_at_call 24; ((with_reducible refine (HNC.out _).mono ?_); rintro e w5 ⟨q, R, rfl, hc, bz, hs⟩; have hbel : Below w4.heap.size w4 w5 := (by exact bz); clear bz; have bw5 := Lib.hid (bel2 bw4.out hbel); have zw5 := Lib.hid hbel.size; have vw5g := Lib.hid (vw4g.out.below hbel vw4g.out.lt); have vw5h := Lib.hid (vw4h.out.below hbel vw4h.out.lt); have kw5F := Lib.hid (kF.out.below hbel); clear hbel; clear c32 c33 c34 c36 c37 c38; have kC := Lib.hid hc; clear hc hs))
      | (go_at_call 10; ((with_reducible refine (HAL.out _).mono ?_); rintro e w6 ⟨rfl, bz⟩; have hbel : Below w5.heap.size w5 w6 := (by exact bz); clear bz; have bw6 := Lib.hid (bel2 bw5.out hbel); have zw6 := Lib.hid hbel.size; have vw6g := Lib.hid (vw5g.out.below hbel vw5g.out.lt); have vw6h := Lib.hid (vw5h.out.below hbel vw5h.out.lt); have kw6F := Lib.hid (kw5F.out.below hbel); have kw6C := Lib.hid (kC.out.below hbel); clear hbel))
      | (go_at_call 13; ((with_reducible refine (HAN.out _).mono ?_); rintro e w7 ⟨rfl, bz⟩; have hbel : Below w6.heap.size w6 w7 := (by exact bz); clear bz; have bw7 := Lib.hid (bel2 bw6.out hbel); have zw7 := Lib.hid hbel.size; have vw7g := Lib.hid (vw6g.out.below hbel vw6g.out.lt); have vw7h := Lib.hid (vw6h.out.below hbel vw6h.out.lt); have kw7F := Lib.hid (kw6F.out.below hbel); have kw7C := Lib.hid (kw6C.out.below hbel); clear hbel)))
    refine wp_region_is [38, 39, 40, 41, 42, 43, 44, 45, 46, 47, 48, 49, 50, 51, 52, 53, 54, 55, 56, 57, 58, 59, 60, 61, 62, 63, 64, 65, 66, 67, 68, 69, 4] (fun w' => Below w7.heap.size w7 w')
      [.pointer (some ⟨p, 0, none⟩), .pointer (some ⟨q, 0, none⟩), .pointer none, .bool false, .agg #[.int .i64 (pg : Int), .int .i64 (pgs : Int), .int .i64 (rgs : Int)], .agg #[.int .i64 (pg : Int), .int .i64 (qgs : Int), .int .i64 (qrs : Int)], .bool false, .bool true, .bool true, .pointer (some ⟨q, 0, none⟩), .pointer none, .bool true, .bool true, .bool true, .pointer (some ⟨p, 0, none⟩), .pointer none, .bool true, .bool true, .bool true, .int .i64 1, .bool true, .bool true, .bool true, .pointer none, .int .i64 1, .bool true, .bool true, .bool true, .pointer none, .int .i64 1, .bool true, .bool true, .bool true] (by kernel_rfl) (by kernel_rfl) rfl (by decide) (by simp) (Below.refl _ _).drew ?each2 ?done2
    case each2 =>
      simp only [Each]
      repeat' (first | exact trivial | refine And.intro ?_ ?_)
      all_goals
        intro ys wx hBx hdeps
        simp only [Deps, Region.binds, List.getD_cons_zero, List.getD_cons_succ, forall_const, and_true] at hdeps
        have g0 := (vw7g.out.below hBx vw7g.out.lt).cell (j := 0) rfl
        have g1 := (vw7g.out.below hBx vw7g.out.lt).cell (j := 1) rfl
        have g2 := (vw7g.out.below hBx vw7g.out.lt).cell (j := 2) rfl
        have h0 := (vw7h.out.below hBx vw7h.out.lt).cell (j := 0) rfl
        have h1 := (vw7h.out.below hBx vw7h.out.lt).cell (j := 1) rfl
        have h2 := (vw7h.out.below hBx vw7h.out.lt).cell (j := 2) rfl
        simp only [hdeps, fill, List.foldl_cons, List.foldl_nil, Act.put, List.setIfInBounds_toArray, List.set_cons_succ, List.set_cons_zero]
        first
          | (go_wp2_with fail; exact ⟨_, rfl, rfl, hBx, Below.refl _ _⟩)
          | (go_wp2_with (go_at_call 25; (with_reducible refine (HNT.out _ _ _ _ _ (kw7F.out.below hBx) (kw7C.out.below hBx)).mono ?_); rintro e w3 ⟨rfl, hm⟩); exact ⟨_, rfl, rfl, hBx.trans (hm.mono hBx.size), hm⟩)
          | (go_wp2_with (go_at_call 25; (with_reducible refine (HN1.out _ _).mono ?_); rintro e w3 ⟨rfl, rfl⟩); exact ⟨_, rfl, rfl, hBx, Below.refl _ _⟩)
          | (go_wp2_with (go_at_call 25; (with_reducible refine (HN2.out _ _).mono ?_); rintro e w3 ⟨rfl, rfl⟩); exact ⟨_, rfl, rfl, hBx, Below.refl _ _⟩)
          | (go_wp2_with (go_at_call 16; (with_reducible refine (HFN.out _).mono ?_); rintro e w3 ⟨rfl, rfl⟩); exact ⟨_, rfl, rfl, hBx, Below.refl _ _⟩)
          | (go_wp2_with (go_at_call 20; (with_reducible refine (HEN.out _).mono ?_); rintro e w3 ⟨rfl, rfl⟩); exact ⟨_, rfl, rfl, hBx, Below.refl _ _⟩)
    case done2 =>
      intro ys wx hBx hV
      have h4 : ys 4 = .bool true := hV 32 (by decide)
      have BF := Lib.hid (bw7.out.trans (hBx.mono bw7.out.size))
      clear hBx hV
      simp only [h4, fill, List.drop_succ_cons, List.drop_zero, List.foldl_cons, List.foldl_nil, Act.put, List.setIfInBounds_toArray, List.set_cons_succ, List.set_cons_zero]
      go_wp2
      go_ret
      exact ⟨rfl, BF.out⟩
set_option maxRecDepth 100000 in
set_option maxHeartbeats 8000000 in
theorem apart_n2 (gp gs gr hp hq hr : Int) (e0 : 32 + gp % 33 = 32 + hp % 33) (e1 : 3 + gs % 4 = 3 + hq % 4) (e2 : ¬ 4 + gr % 4 = 4 + hr % 4) (w : World) :
    Calls Try.prog 6 #[Geom.gV ⟨gp, gs, gr⟩, Geom.gV ⟨hp, hq, hr⟩] w fun e w' => e = .returned (.bool true) ∧ Below w.heap.size w w' := by
  unfold Geom.gV
  obtain ⟨pg, hpg⟩ : ∃ n : Nat, (n : Int) = 32 + gp % 33 := ⟨(32 + gp % 33).toNat, by omega⟩
  obtain ⟨pgs, hpgs⟩ : ∃ n : Nat, (n : Int) = 3 + gs % 4 := ⟨(3 + gs % 4).toNat, by omega⟩
  obtain ⟨rgs, hrgs⟩ : ∃ n : Nat, (n : Int) = 4 + gr % 4 := ⟨(4 + gr % 4).toNat, by omega⟩
  have p0 : 32 ≤ pg := by omega
  have p1 : pg ≤ 64 := by omega
  have s0 : 3 ≤ pgs := by omega
  have s1 : pgs ≤ 6 := by omega
  have r0 : 4 ≤ rgs := by omega
  have r1 : rgs ≤ 7 := by omega
  have HG : Hid (∀ w, Calls Try.prog 8 #[.agg #[.int .i64 gp, .int .i64 gs, .int .i64 gr]] w fun e w' => e = .returned (.agg #[.int .i64 (pg : Int), .int .i64 (pgs : Int), .int .i64 (rgs : Int)]) ∧ Below w.heap.size w w') := fun w => by
    rw [hpg, hpgs, hrgs]; exact Geom.geom_any ⟨gp, gs, gr⟩ w
  have HAL := Lib.hid (fun w => alive_any w)
  have SZ := Lib.hid (show Sz pg pgs rgs from ⟨p0, by omega, s0, by omega, r0, by omega⟩)
  obtain ⟨qg, hqg⟩ : ∃ n : Nat, (n : Int) = 32 + hp % 33 := ⟨(32 + hp % 33).toNat, by omega⟩
  obtain ⟨qgs, hqgs⟩ : ∃ n : Nat, (n : Int) = 3 + hq % 4 := ⟨(3 + hq % 4).toNat, by omega⟩
  obtain ⟨qrs, hqrs⟩ : ∃ n : Nat, (n : Int) = 4 + hr % 4 := ⟨(4 + hr % 4).toNat, by omega⟩
  have HG2 : Hid (∀ w, Calls Try.prog 8 #[.agg #[.int .i64 hp, .int .i64 hq, .int .i64 hr]] w fun e w' => e = .returned (.agg #[.int .i64 (qg : Int), .int .i64 (qgs : Int), .int .i64 (qrs : Int)]) ∧ Below w.heap.size w w') := fun w => by
    rw [hqg, hqgs, hqrs]; exact Geom.geom_any ⟨hp, hq, hr⟩ w
  have SZ2 := Lib.hid (show Sz qg qgs qrs from ⟨by omega, by omega, by omega, by omega, by omega, by omega⟩)
  obtain rfl : pg = qg := by omega
  have q0 : ((pg : Int) == (pg : Int)) = true := by simp
  obtain rfl : pgs = qgs := by omega
  have q1 : ((pgs : Int) == (pgs : Int)) = true := by simp
  have q2 : ((rgs : Int) == (qrs : Int)) = false := by simp; omega
  have HNF := Lib.hid (fun w => flash_new SZ.out w)
  have OKD := Lib.hid (Flash.new_ok (pg := pg) (pgs := pgs) (rgs := rgs) (image := []) (Nat.zero_le _) SZ.out.p0 SZ.out.p1 SZ.out.s0 SZ.out.s1 SZ.out.r0 SZ.out.r1)
  have HNC := Lib.hid (fun w => Chart.new_good pg pgs qrs SZ2.out.p0 SZ2.out.p1 SZ2.out.s0 SZ2.out.s1 SZ2.out.r0 SZ2.out.r1 w)
  unfold Chart.ptr at HNC
  have HAN := Lib.hid (fun w => append_nil _ rfl w)
  have HN1 := Lib.hid (fun q w => new_nil1 (some q) w)
  have HN2 := Lib.hid (fun p w => new_nil2 p w)
  have HFN := Lib.hid (fun w => flush_nil w)
  have HEN := Lib.hid (fun w => erase_nil 0 w)
  have hne : ¬ ((newD pg pgs rgs []).pg = (newC pg pgs qrs).pg ∧ (newD pg pgs rgs []).pgs = (newC pg pgs qrs).pgs ∧ (newD pg pgs rgs []).rgs = (newC pg pgs qrs).rgs) := fun x => absurd (show (rgs : Int) = (qrs : Int) by exact_mod_cast x.2.2) (by omega)
  have HNT : Hid (∀ w p q S R, FH w p (newD pg pgs rgs []) S → CHas w q (newC pg pgs qrs) R → Calls Try.prog 25 #[.pointer (some ⟨p, 0, none⟩), .pointer (some ⟨q, 0, none⟩)] w fun e w' => e = .returned (.pointer none) ∧ Below w.heap.size w w') := fun w p q S R hf hc => new_unlike hf.h OKD.out hc hne
  clear hne
  clear hpg hpgs hrgs hqg hqgs hqrs e0 e1 e2
  go_enter Try.func6, Try.ntmps6
  go_wp2
  obtain ⟨w1, hw1⟩ : ∃ wx, wx = ((w.alloc (.cells #[.int .i64 gp, .int .i64 gs, .int .i64 gr] 23)).alloc (.cells #[.int .i64 hp, .int .i64 hq, .int .i64 hr] 23)) := ⟨_, rfl⟩
  have bw1 := Lib.hid (show Below w.heap.size w w1 by rw [hw1]; exact (bel2 (Geom.bel_alloc _ _) (Geom.bel_alloc _ _)))
  have zw1 := Lib.hid (show w.heap.size + 2 ≤ w1.heap.size by rw [hw1]; simp)
  have vw1g := Lib.hid (show Var w1 (w.heap.size) 23 [.int .i64 gp, .int .i64 gs, .int .i64 gr] by rw [hw1]; exact ((Var.new w 23 [.int .i64 gp, .int .i64 gs, .int .i64 gr]).alloc _))
  have vw1h := Lib.hid (show Var w1 (w.heap.size + 1) 23 [.int .i64 hp, .int .i64 hq, .int .i64 hr] by rw [hw1]; exact (show Var ((w.alloc (.cells #[.int .i64 gp, .int .i64 gs, .int .i64 gr] 23)).alloc (.cells #[.int .i64 hp, .int .i64 hq, .int .i64 hr] 23)) (w.heap.size + 1) 23 [.int .i64 hp, .int .i64 hq, .int .i64 hr] from by have h := Var.new (w.alloc (.cells #[.int .i64 gp, .int .i64 gs, .int .i64 gr] 23)) 23 [.int .i64 hp, .int .i64 hq, .int .i64 hr]; rw [show (w.alloc (.cells #[.int .i64 gp, .int .i64 gs, .int .i64 gr] 23)).heap.size = w.heap.size + 1 by simp] at h; exact h))
  rw [← hw1]
  refine wp_region_is_tail 4 [11, 12, 13, 14] (fun w' => Below w1.heap.size w1 w')
    [.agg #[.int .i64 gp, .int .i64 gs, .int .i64 gr], .agg #[.int .i64 (pg : Int), .int .i64 (pgs : Int), .int .i64 (rgs : Int)], .agg #[.int .i64 hp, .int .i64 hq, .int .i64 hr], .agg #[.int .i64 (pg : Int), .int .i64 (pgs : Int), .int .i64 (qrs : Int)]] (by kernel_rfl) (by kernel_rfl) (by kernel_rfl) (by decide) rfl (by decide) (by simp) (Below.refl _ _).drew ?each ?done
  case each =>
    simp only [List.take_succ_cons, List.take_zero, Each]
    repeat' (first | exact trivial | refine And.intro ?_ ?_)
    all_goals
      intro ys wx hBx hdeps
      simp only [Deps, Region.binds, List.getD_cons_zero, List.getD_cons_succ, forall_const, and_true] at hdeps
      have q1 := (vw1g.out.below hBx vw1g.out.lt).cell (j := 0) rfl
      have q2 := (vw1g.out.below hBx vw1g.out.lt).cell (j := 1) rfl
      have q3 := (vw1g.out.below hBx vw1g.out.lt).cell (j := 2) rfl
      have q4 := (vw1h.out.below hBx vw1h.out.lt).cell (j := 0) rfl
      have q5 := (vw1h.out.below hBx vw1h.out.lt).cell (j := 1) rfl
      have q6 := (vw1h.out.below hBx vw1h.out.lt).cell (j := 2) rfl
      simp only [hdeps, fill, List.foldl_cons, List.foldl_nil, Act.put, List.setIfInBounds_toArray, List.set_cons_succ, List.set_cons_zero]
      first
        | (go_wp2_with fail; exact ⟨_, rfl, rfl, hBx, Below.refl _ _⟩)
        | (go_wp2_with (go_at_call 8; (with_reducible refine (HG.out _).mono ?_); rintro e w3 ⟨rfl, hm⟩); exact ⟨_, rfl, rfl, hBx.trans (hm.mono hBx.size), hm⟩)
        | (go_wp2_with (go_at_call 8; (with_reducible refine (HG2.out _).mono ?_); rintro e w3 ⟨rfl, hm⟩); exact ⟨_, rfl, rfl, hBx.trans (hm.mono hBx.size), hm⟩)
  case done =>
    intro ys wx hBx hV
    obtain ⟨w2, hw2⟩ : ∃ wy, wy = wx := ⟨_, rfl⟩
    rw [← hw2] at hBx ⊢
    have bw2 := Lib.hid (bel2 bw1.out hBx)
    have zw2 := Lib.hid hBx.size
    have vw2g := Lib.hid (vw1g.out.below hBx vw1g.out.lt)
    have vw2h := Lib.hid (vw1h.out.below hBx vw1h.out.lt)
    have h12 : ys 12 = .agg #[.int .i64 (pg : Int), .int .i64 (pgs : Int), .int .i64 (rgs : Int)] := hV 1 (by decide)
    have h14 : ys 14 = .agg #[.int .i64 (pg : Int), .int .i64 (pgs : Int), .int .i64 (qrs : Int)] := hV 3 (by decide)
    clear hBx hV hw2
    simp only [h12, h14, fill, List.drop_succ_cons, List.drop_zero, List.foldl_cons, List.foldl_nil, Act.put, List.setIfInBounds_toArray, List.set_cons_succ, List.set_cons_zero]
    have vf7 := (show Var w2 (w.heap.size) 23 [.int .i64 gp, .int .i64 gs, .int .i64 gr] from vw2g.out)
    have c8 := vf7.cell (j := 0) rfl
    have c9 := vf7.cell (j := 1) rfl
    have c10 := vf7.cell (j := 2) rfl
    clear vf7
    have vf11 := (show Var w2 (w.heap.size + 1) 23 [.int .i64 hp, .int .i64 hq, .int .i64 hr] from vw2h.out)
    have c12 := vf11.cell (j := 0) rfl
    have c13 := vf11.cell (j := 1) rfl
    have c14 := vf11.cell (j := 2) rfl
    clear vf11
    have vf15 := (show Var w2 (w.heap.size) 23 [.int .i64 gp, .int .i64 gs, .int .i64 gr] from vw2g.out)
    have f16 := vf15.frozen 0
    have f17 := vf15.frozen 1
    have f18 := vf15.frozen 2
    clear vf15
    have vf19 := (show Var w2 (w.heap.size + 1) 23 [.int .i64 hp, .int .i64 hq, .int .i64 hr] from vw2h.out)
    have f20 := vf19.frozen 0
    have f21 := vf19.frozen 1
    have f22 := vf19.frozen 2
    clear vf19
    have vf23 := (show Var ((((((w2.setCell ⟨w.heap.size, 0, none⟩ (.int .i64 (pg : Int))).setCell ⟨w.heap.size, 1, none⟩ (.int .i64 (pgs : Int))).setCell ⟨w.heap.size, 2, none⟩ (.int .i64 (rgs : Int))).setCell ⟨w.heap.size + 1, 0, none⟩ (.int .i64 (pg : Int))).setCell ⟨w.heap.size + 1, 1, none⟩ (.int .i64 (pgs : Int))).setCell ⟨w.heap.size + 1, 2, none⟩ (.int .i64 (qrs : Int))) (w.heap.size) 23 [.int .i64 (pg : Int), .int .i64 (pgs : Int), .int .i64 (rgs : Int)] from (Piece.Var.othr2 (Piece.Var.othr2 (Piece.Var.othr2 (((vw2g.out.set 0 (.int .i64 (pg : Int))).set 1 (.int .i64 (pgs : Int))).set 2 (.int .i64 (rgs : Int))) ⟨w.heap.size + 1, 0, none⟩ (.int .i64 (pg : Int)) (by have := zw1.out; have := zw2.out; have := vw2g.out.lt; simp only; omega)) ⟨w.heap.size + 1, 1, none⟩ (.int .i64 (pgs : Int)) (by have := zw1.out; have := zw2.out; have := vw2g.out.lt; simp only; omega)) ⟨w.heap.size + 1, 2, none⟩ (.int .i64 (qrs : Int)) (by have := zw1.out; have := zw2.out; have := vw2g.out.lt; simp only; omega)))
    have c24 := vf23.cell (j := 0) rfl
    have c25 := vf23.cell (j := 1) rfl
    have c26 := vf23.cell (j := 2) rfl
    clear vf23
    have vf27 := (show Var ((((((w2.setCell ⟨w.heap.size, 0, none⟩ (.int .i64 (pg : Int))).setCell ⟨w.heap.size, 1, none⟩ (.int .i64 (pgs : Int))).setCell ⟨w.heap.size, 2, none⟩ (.int .i64 (rgs : Int))).setCell ⟨w.heap.size + 1, 0, none⟩ (.int .i64 (pg : Int))).setCell ⟨w.heap.size + 1, 1, none⟩ (.int .i64 (pgs : Int))).setCell ⟨w.heap.size + 1, 2, none⟩ (.int .i64 (qrs : Int))) (w.heap.size + 1) 23 [.int .i64 (pg : Int), .int .i64 (pgs : Int), .int .i64 (qrs : Int)] from ((((Piece.Var.othr2 (Piece.Var.othr2 (Piece.Var.othr2 vw2h.out ⟨w.heap.size, 0, none⟩ (.int .i64 (pg : Int)) (by have := zw1.out; have := zw2.out; have := vw2h.out.lt; simp only; omega)) ⟨w.heap.size, 1, none⟩ (.int .i64 (pgs : Int)) (by have := zw1.out; have := zw2.out; have := vw2h.out.lt; simp only; omega)) ⟨w.heap.size, 2, none⟩ (.int .i64 (rgs : Int)) (by have := zw1.out; have := zw2.out; have := vw2h.out.lt; simp only; omega)).set 0 (.int .i64 (pg : Int))).set 1 (.int .i64 (pgs : Int))).set 2 (.int .i64 (qrs : Int))))
    have c28 := vf27.cell (j := 0) rfl
    have c29 := vf27.cell (j := 1) rfl
    have c30 := vf27.cell (j := 2) rfl
    clear vf27
    go_wp2_with (first
      | (go_at_call 23; ((with_reducible refine (HNF.out _).mono ?_); rintro e w4 ⟨p, S, rfl, hf, bz⟩; obtain ⟨w3, hw3⟩ : ∃ wx, wx = ((((((w2.setCell ⟨w.heap.size, 0, none⟩ (.int .i64 (pg : Int))).setCell ⟨w.heap.size, 1, none⟩ (.int .i64 (pgs : Int))).setCell ⟨w.heap.size, 2, none⟩ (.int .i64 (rgs : Int))).setCell ⟨w.heap.size + 1, 0, none⟩ (.int .i64 (pg : Int))).setCell ⟨w.heap.size + 1, 1, none⟩ (.int .i64 (pgs : Int))).setCell ⟨w.heap.size + 1, 2, none⟩ (.int .i64 (qrs : Int))) := ⟨_, rfl⟩; have bw3 := Lib.hid (show Below w.heap.size w w3 by rw [hw3]; exact ((((((bw2.out.setCell (p := ⟨w.heap.size, 0, none⟩) (by have := zw1.out; have := zw2.out; simp only; omega) _).setCell (p := ⟨w.heap.size, 1, none⟩) (by have := zw1.out; have := zw2.out; simp only; omega) _).setCell (p := ⟨w.heap.size, 2, none⟩) (by have := zw1.out; have := zw2.out; simp only; omega) _).setCell (p := ⟨w.heap.size + 1, 0, none⟩) (by have := zw1.out; have := zw2.out; simp only; omega) _).setCell (p := ⟨w.heap.size + 1, 1, none⟩) (by have := zw1.out; have := zw2.out; simp only; omega) _).setCell (p := ⟨w.heap.size + 1, 2, none⟩) (by have := zw1.out; have := zw2.out; simp only; omega) _)); have zw3 := Lib.hid (show w2.heap.size + 0 ≤ w3.heap.size by rw [hw3]; simp); have vw3g := Lib.hid (show Var w3 (w.heap.size) 23 [.int .i64 (pg : Int), .int .i64 (pgs : Int), .int .i64 (rgs : Int)] by rw [hw3]; exact (Piece.Var.othr2 (Piece.Var.othr2 (Piece.Var.othr2 (((vw2g.out.set 0 (.int .i64 (pg : Int))).set 1 (.int .i64 (pgs : Int))).set 2 (.int .i64 (rgs : Int))) ⟨w.heap.size + 1, 0, none⟩ (.int .i64 (pg : Int)) (by have := zw1.out; have := zw2.out; have := vw2g.out.lt; simp only; omega)) ⟨w.heap.size + 1, 1, none⟩ (.int .i64 (pgs : Int)) (by have := zw1.out; have := zw2.out; have := vw2g.out.lt; simp only; omega)) ⟨w.heap.size + 1, 2, none⟩ (.int .i64 (qrs : Int)) (by have := zw1.out; have := zw2.out; have := vw2g.out.lt; simp only; omega))); have vw3h := Lib.hid (show Var w3 (w.heap.size + 1) 23 [.int .i64 (pg : Int), .int .i64 (pgs : Int), .int .i64 (qrs : Int)] by rw [hw3]; exact ((((Piece.Var.othr2 (Piece.Var.othr2 (Piece.Var.othr2 vw2h.out ⟨w.heap.size, 0, none⟩ (.int .i64 (pg : Int)) (by have := zw1.out; have := zw2.out; have := vw2h.out.lt; simp only; omega)) ⟨w.heap.size, 1, none⟩ (.int .i64 (pgs : Int)) (by have := zw1.out; have := zw2.out; have := vw2h.out.lt; simp only; omega)) ⟨w.heap.size, 2, none⟩ (.int .i64 (rgs : Int)) (by have := zw1.out; have := zw2.out; have := vw2h.out.lt; simp only; omega)).set 0 (.int .i64 (pg : Int))).set 1 (.int .i64 (pgs : Int))).set 2 (.int .i64 (qrs : Int)))); have hbel : Below w3.heap.size w3 w4 := (by rw [hw3]; exact bz); clear bz; have bw4 := Lib.hid (bel2 bw3.out hbel); have zw4 := Lib.hid hbel.size; have vw4g := Lib.hid (vw3g.out.below hbel vw3g.out.lt); have vw4h := Lib.hid (vw3h.out.below hbel vw3h.out.lt); clear hbel; clear c8 c9 c10 c12 c13 c14 f16 f17 f18 f20 f21 f22 c24 c25 c26 c28 c29 c30; have kF := Lib.hid hf; clear hf; have vf31 := (show Var w4 (w.heap.size) 23 [.int .i64 (pg : Int), .int .i64 (pgs : Int), .int .i64 (rgs : Int)] from vw4g.out); have c32 := vf31.cell (j := 0) rfl; have c33 := vf31.cell (j := 1) rfl; have c34 := vf31.cell (j := 2) rfl; clear vf31; have vf35 := (show Var w4 (w.heap.size + 1) 23 [.int .i64 (pg : Int), .int .i64 (pgs : Int), .int .i64 (qrs : Int)] from vw4h.out); have c36 := vf35.cell (j := 0) rfl; have c37 := vf35.cell (j := 1) rfl; have c38 := vf35.cell (j := 2) rfl; clear vf35))
      | (go_at_call 24; ((with_reducible refine (HNC.out _).mono ?_); rintro e w5 ⟨q, R, rfl, hc, bz, hs⟩; have hbel : Below w4.heap.size w4 w5 := (by exact bz); clear bz; have bw5 := Lib.hid (bel2 bw4.out hbel); have zw5 := Lib.hid hbel.size; have vw5g := Lib.hid (vw4g.out.below hbel vw4g.out.lt); have vw5h := Lib.hid (vw4h.out.below hbel vw4h.out.lt); have kw5F := Lib.hid (kF.out.below hbel); clear hbel; clear c32 c33 c34 c36 c37 c38; have kC := Lib.hid hc; clear hc hs))
      | (go_at_call 10; ((with_reducible refine (HAL.out _).mono ?_); rintro e w6 ⟨rfl, bz⟩; have hbel : Below w5.heap.size w5 w6 := (by exact bz); clear bz; have bw6 := Lib.hid (bel2 bw5.out hbel); have zw6 := Lib.hid hbel.size; have vw6g := Lib.hid (vw5g.out.below hbel vw5g.out.lt); have vw6h := Lib.hid (vw5h.out.below hbel vw5h.out.lt); have kw6F := Lib.hid (kw5F.out.below hbel); have kw6C := Lib.hid (kC.out.below hbel); clear hbel))
      | (go_at_call 13; ((with_reducible refine (HAN.out _).mono ?_); rintro e w7 ⟨rfl, bz⟩; have hbel : Below w6.heap.size w6 w7 := (by exact bz); clear bz; have bw7 := Lib.hid (bel2 bw6.out hbel); have zw7 := Lib.hid hbel.size; have vw7g := Lib.hid (vw6g.out.below hbel vw6g.out.lt); have vw7h := Lib.hid (vw6h.out.below hbel vw6h.out.lt); have kw7F := Lib.hid (kw6F.out.below hbel); have kw7C := Lib.hid (kw6C.out.below hbel); clear hbel)))
    refine wp_region_is [38, 39, 40, 41, 42, 43, 44, 45, 46, 47, 48, 49, 50, 51, 52, 53, 54, 55, 56, 57, 58, 59, 60, 61, 62, 63, 64, 65, 66, 67, 68, 69, 4] (fun w' => Below w7.heap.size w7 w')
      [.pointer (some ⟨p, 0, none⟩), .pointer (some ⟨q, 0, none⟩), .pointer none, .bool false, .agg #[.int .i64 (pg : Int), .int .i64 (pgs : Int), .int .i64 (rgs : Int)], .agg #[.int .i64 (pg : Int), .int .i64 (pgs : Int), .int .i64 (qrs : Int)], .bool false, .bool true, .bool true, .pointer (some ⟨q, 0, none⟩), .pointer none, .bool true, .bool true, .bool true, .pointer (some ⟨p, 0, none⟩), .pointer none, .bool true, .bool true, .bool true, .int .i64 1, .bool true, .bool true, .bool true, .pointer none, .int .i64 1, .bool true, .bool true, .bool true, .pointer none, .int .i64 1, .bool true, .bool true, .bool true] (by kernel_rfl) (by kernel_rfl) rfl (by decide) (by simp) (Below.refl _ _).drew ?each2 ?done2
    case each2 =>
      simp only [Each]
      repeat' (first | exact trivial | refine And.intro ?_ ?_)
      all_goals
        intro ys wx hBx hdeps
        simp only [Deps, Region.binds, List.getD_cons_zero, List.getD_cons_succ, forall_const, and_true] at hdeps
        have g0 := (vw7g.out.below hBx vw7g.out.lt).cell (j := 0) rfl
        have g1 := (vw7g.out.below hBx vw7g.out.lt).cell (j := 1) rfl
        have g2 := (vw7g.out.below hBx vw7g.out.lt).cell (j := 2) rfl
        have h0 := (vw7h.out.below hBx vw7h.out.lt).cell (j := 0) rfl
        have h1 := (vw7h.out.below hBx vw7h.out.lt).cell (j := 1) rfl
        have h2 := (vw7h.out.below hBx vw7h.out.lt).cell (j := 2) rfl
        simp only [hdeps, fill, List.foldl_cons, List.foldl_nil, Act.put, List.setIfInBounds_toArray, List.set_cons_succ, List.set_cons_zero]
        first
          | (go_wp2_with fail; exact ⟨_, rfl, rfl, hBx, Below.refl _ _⟩)
          | (go_wp2_with (go_at_call 25; (with_reducible refine (HNT.out _ _ _ _ _ (kw7F.out.below hBx) (kw7C.out.below hBx)).mono ?_); rintro e w3 ⟨rfl, hm⟩); exact ⟨_, rfl, rfl, hBx.trans (hm.mono hBx.size), hm⟩)
          | (go_wp2_with (go_at_call 25; (with_reducible refine (HN1.out _ _).mono ?_); rintro e w3 ⟨rfl, rfl⟩); exact ⟨_, rfl, rfl, hBx, Below.refl _ _⟩)
          | (go_wp2_with (go_at_call 25; (with_reducible refine (HN2.out _ _).mono ?_); rintro e w3 ⟨rfl, rfl⟩); exact ⟨_, rfl, rfl, hBx, Below.refl _ _⟩)
          | (go_wp2_with (go_at_call 16; (with_reducible refine (HFN.out _).mono ?_); rintro e w3 ⟨rfl, rfl⟩); exact ⟨_, rfl, rfl, hBx, Below.refl _ _⟩)
          | (go_wp2_with (go_at_call 20; (with_reducible refine (HEN.out _).mono ?_); rintro e w3 ⟨rfl, rfl⟩); exact ⟨_, rfl, rfl, hBx, Below.refl _ _⟩)
    case done2 =>
      intro ys wx hBx hV
      have h4 : ys 4 = .bool true := hV 32 (by decide)
      have BF := Lib.hid (bw7.out.trans (hBx.mono bw7.out.size))
      clear hBx hV
      simp only [h4, fill, List.drop_succ_cons, List.drop_zero, List.foldl_cons, List.foldl_nil, Act.put, List.setIfInBounds_toArray, List.set_cons_succ, List.set_cons_zero]
      go_wp2
      go_ret
      exact ⟨rfl, BF.out⟩
theorem apart_any (gp gs gr hp hq hr : Int) (w : World) :
    Calls Try.prog 6 #[Geom.gV ⟨gp, gs, gr⟩, Geom.gV ⟨hp, hq, hr⟩] w fun e w' => e = .returned (.bool true) ∧ Below w.heap.size w w' := by
  by_cases e0 : 32 + gp % 33 = 32 + hp % 33
  · by_cases e1 : 3 + gs % 4 = 3 + hq % 4
    · by_cases e2 : 4 + gr % 4 = 4 + hr % 4
      · exact apart_eq gp gs gr hp hq hr e0 e1 e2 w
      · exact apart_n2 gp gs gr hp hq hr e0 e1 e2 w
    · exact apart_n1 gp gs gr hp hq hr e0 e1 w
  · exact apart_n0 gp gs gr hp hq hr e0 w
end Go.Proofs.Ytcmjambbdfangaa.Tape
