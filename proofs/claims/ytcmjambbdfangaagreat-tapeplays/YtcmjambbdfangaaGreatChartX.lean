/-
  The landed account and the document's: what their calls answer, over the blocks that they have.
-/
import Derived.Test.YtcmjambbdfangaaGreatRunChartXe
set_option linter.unusedVariables false
set_option linter.unusedSimpArgs false
namespace Go.Proofs.YtcmjambbdfangaaGreat.Chart
open Go.RowKit
open Go.Proofs.YtcmjambbdfangaaGreat.Own
open Tup Foot

theorem below_same {w w' : World} (h : w = w') : Below w.heap.size w w' := by subst h; exact Below.refl _ _
theorem cGeom_any {w : World} {p : Nat} {c : Ch} {S : Nat → Prop} (h : CHas w p c S) : Calls Tryz.prog 60 #[ptr p] w fun e w' => e = .returned (.agg #[.int .i64 (c.pg : Int), .int .i64 (c.pgs : Int), .int .i64 (c.rgs : Int)]) ∧ Below w.heap.size w w' := by
  obtain ⟨bS, cap, on, h, rfl⟩ := h
  exact geom_any h
theorem cEpoch_any {w : World} {p : Nat} {c : Ch} {S : Nat → Prop} (h : CHas w p c S) (hd : c.Ok) (i : Int) : Calls Tryz.prog 36 #[ptr p, .int .i64 i] w fun e w' => e = .returned (.int .u32 (epochC c i : Int)) ∧ w = w' := by
  obtain ⟨bS, cap, on, h, rfl⟩ := h
  exact atEpoch_any h hd i
theorem cUsed_any {w : World} {p : Nat} {c : Ch} {S : Nat → Prop} (h : CHas w p c S) (hd : c.Ok) (i : Int) : Calls Tryz.prog 37 #[ptr p, .int .i64 i] w fun e w' => e = .returned (.int .i64 (usedC c i : Int)) ∧ w = w' := by
  obtain ⟨bS, cap, on, h, rfl⟩ := h
  exact atUsed_any h hd i
theorem cFree_any {w : World} {p : Nat} {c : Ch} {S : Nat → Prop} (h : CHas w p c S) (hd : c.Ok) : Calls Tryz.prog 24 #[ptr p] w fun e w' => e = .returned (.int .i64 (c.free : Int)) ∧ Below w.heap.size w w' := by
  obtain ⟨bS, cap, on, h, rfl⟩ := h
  exact atFree_any h hd
theorem cLeft_any {w : World} {p : Nat} {c : Ch} {S : Nat → Prop} (h : CHas w p c S) (hd : c.Ok) : Calls Tryz.prog 22 #[ptr p] w fun e w' => e = .returned (.int .i64 (c.left : Int)) ∧ Below w.heap.size w w' := by
  obtain ⟨bS, cap, on, h, rfl⟩ := h
  exact atLeft_any h hd
theorem CHas.of_left {w w' : World} {p bS cap : Nat} {c : Ch} (h : Left w p bS cap c w') : CHas w' p c (foot p bS) ∧ Grows (foot p bS) w w' := by
  obtain ⟨g, on, h⟩ := h
  exact ⟨⟨bS, cap, on, h, rfl⟩, g⟩
theorem CHas.of_leftN {w w' : World} {p bS cap : Nat} {x : Nat × Ch} (h : LeftN w p bS cap x w') : CHas w' p x.2 (foot p bS) ∧ Grows (foot p bS) w w' ∧ (x.1 ≠ 0 → Below w.heap.size w w') := ⟨(CHas.of_left h.1).1, (CHas.of_left h.1).2, h.2⟩
theorem DHas.of_left {w w' : World} {r bE capE bU capU : Nat} {c : Ch} (h : LeftD w r bE capE bU capU c w') : DHas w' r c (footD r bE bU) ∧ Grows (footD r bE bU) w w' := ⟨⟨bE, capE, bU, capU, h.2, rfl⟩, h.1⟩
theorem cSet_any {w : World} {p : Nat} {c : Ch} {S : Nat → Prop} (h : CHas w p c S) (hd : c.Ok) (i : Int) (x : Nat) (u : Int) : Calls Tryz.prog 40 #[ptr p, .int .i64 i, .int .u32 (x : Int), .int .i64 u] w fun e w' => e = .returned (.int .i64 ((setC c i x u).1 : Int)) ∧ CHas w' p (setC c i x u).2 S ∧ Grows S w w' ∧ ((setC c i x u).1 ≠ 0 → Below w.heap.size w w') := by
  obtain ⟨bS, cap, on, h, rfl⟩ := h
  exact (atSet_any h hd i x u).mono fun e w' q => ⟨q.1, CHas.of_leftN q.2⟩
theorem cErase_any {w : World} {p : Nat} {c : Ch} {S : Nat → Prop} (h : CHas w p c S) (hd : c.Ok) (i : Int) : Calls Tryz.prog 38 #[ptr p, .int .i64 i] w fun e w' => e = .returned (.int .i64 ((eraseC c i).1 : Int)) ∧ CHas w' p (eraseC c i).2 S ∧ Grows S w w' ∧ ((eraseC c i).1 ≠ 0 → Below w.heap.size w w') := by
  obtain ⟨bS, cap, on, h, rfl⟩ := h
  exact (atErase_any h hd i).mono fun e w' q => ⟨q.1, CHas.of_leftN q.2⟩
theorem cOpen_any {w : World} {p : Nat} {c : Ch} {S : Nat → Prop} (h : CHas w p c S) (hd : c.Ok) : Calls Tryz.prog 84 #[ptr p] w fun e w' => e = .returned (.tuple #[.int .i64 ((openC c).1.1 : Int), .int .u32 ((openC c).1.2.1 : Int), .bool (openC c).1.2.2]) ∧ CHas w' p (openC c).2 S ∧ Grows S w w' := by
  obtain ⟨bS, cap, on, h, rfl⟩ := h
  exact (atOpen_any h hd).mono fun e w' q => ⟨q.1, CHas.of_left q.2⟩
theorem cTake_any {w : World} {p : Nat} {c : Ch} {S : Nat → Prop} (h : CHas w p c S) (hd : c.Ok) : Calls Tryz.prog 47 #[ptr p] w fun e w' => e = .returned (.tuple #[.int .i64 ((takeC c).1.1 : Int), .bool (takeC c).1.2]) ∧ CHas w' p (takeC c).2 S ∧ Grows S w w' := by
  obtain ⟨bS, cap, on, h, rfl⟩ := h
  exact (atTake_any h hd).mono fun e w' q => ⟨q.1, CHas.of_left q.2⟩
theorem dFree_any {w : World} {p : Nat} {c : Ch} {S : Nat → Prop} (h : DHas w p c S) (hd : c.Ok) : Calls Tryz.prog 25 #[ptr p] w fun e w' => e = .returned (.int .i64 (c.free : Int)) ∧ w = w' := by
  obtain ⟨a, b, d, e, h, rfl⟩ := h
  exact refFree_any h hd
theorem dLeft_any {w : World} {p : Nat} {c : Ch} {S : Nat → Prop} (h : DHas w p c S) (hd : c.Ok) : Calls Tryz.prog 23 #[ptr p] w fun e w' => e = .returned (.int .i64 (c.left : Int)) ∧ Below w.heap.size w w' := by
  obtain ⟨a, b, d, e, h, rfl⟩ := h
  exact refLeft_any h hd
theorem dErase_any {w : World} {p : Nat} {c : Ch} {S : Nat → Prop} (h : DHas w p c S) (hd : c.Ok) (i : Int) : Calls Tryz.prog 43 #[ptr p, .int .i64 i] w fun e w' => e = .returned (.int .i64 ((eraseC c i).1 : Int)) ∧ DHas w' p (eraseC c i).2 S ∧ Grows S w w' := by
  obtain ⟨a, b, d, e, h, rfl⟩ := h
  exact (refErase_any h hd i).mono fun e w' q => ⟨q.1, DHas.of_left q.2⟩
theorem dOpen_any {w : World} {p : Nat} {c : Ch} {S : Nat → Prop} (h : DHas w p c S) (hd : c.Ok) : Calls Tryz.prog 50 #[ptr p] w fun e w' => e = .returned (.tuple #[.int .i64 ((openC c).1.1 : Int), .int .u32 ((openC c).1.2.1 : Int), .bool (openC c).1.2.2]) ∧ DHas w' p (openC c).2 S ∧ Grows S w w' := by
  obtain ⟨a, b, d, e, h, rfl⟩ := h
  exact (refOpen_any h hd).mono fun e w' q => ⟨q.1, DHas.of_left q.2⟩
theorem dTake_any {w : World} {p : Nat} {c : Ch} {S : Nat → Prop} (h : DHas w p c S) (hd : c.Ok) : Calls Tryz.prog 52 #[ptr p] w fun e w' => e = .returned (.tuple #[.int .i64 ((takeC c).1.1 : Int), .bool (takeC c).1.2]) ∧ DHas w' p (takeC c).2 S ∧ Grows S w w' := by
  obtain ⟨a, b, d, e, h, rfl⟩ := h
  exact (refTake_any h hd).mono fun e w' q => ⟨q.1, DHas.of_left q.2⟩
theorem DHas.geo {w : World} {p : Nat} {c : Ch} {S : Nat → Prop} (h : DHas w p c S) : w.cell? ⟨p, 0, none⟩ = some (.int .i64 (c.pg : Int)) ∧ w.cell? ⟨p, 1, none⟩ = some (.int .i64 (c.pgs : Int)) ∧ w.cell? ⟨p, 2, none⟩ = some (.int .i64 (c.rgs : Int)) := by
  obtain ⟨a, b, d, e, h, rfl⟩ := h
  exact ⟨h.var.cell (j := 0) rfl, h.var.cell (j := 1) rfl, h.var.cell (j := 2) rfl⟩
/-- the rows of the document's account -/
theorem DHas.rows {w : World} {p : Nat} {c : Ch} {S : Nat → Prop} (h : DHas w p c S) (hd : c.Ok) : ∃ bE capE bU capU, (∀ wx, Below w.heap.size w wx → wx.cell? ⟨p, 3, none⟩ = some (.slice (some ⟨bE, 0, none⟩) c.rgs capE) ∧ wx.cell? ⟨p, 4, none⟩ = some (.slice (some ⟨bU, 0, none⟩) c.rgs capU) ∧ ∀ k, k < c.rgs → wx.cell? ⟨bE, k, none⟩ = some (.int .u32 (c.ep k : Int)) ∧ wx.cell? ⟨bU, k, none⟩ = some (.int .i64 (c.us k : Int))) := by
  obtain ⟨a, b, d, e, h, rfl⟩ := h
  exact ⟨a, b, d, e, fun wx hb => ⟨(h.below hb).var.cell (j := 3) rfl, (h.below hb).var.cell (j := 4) rfl, fun k hk => ⟨((h.below hb).getE hd hk).1, ((h.below hb).getU hd hk).1⟩⟩⟩
theorem cNew_any (g : Geom.Gm) (w : World) : Calls Tryz.prog 27 #[Geom.gV g] w fun e w' => Below w.heap.size w w' ∧
    if Geom.rightG g = true then ∃ p S, e = .returned (ptr p) ∧ CHas w' p (newC g.page.toNat g.pages.toNat g.regions.toNat) S ∧ ∀ k, S k → w.heap.size ≤ k
    else e = .returned (.pointer none) := by
  rcases hr : Geom.rightG g with _ | _
  · simp only [Bool.false_eq_true, if_false]
    exact (new_wrong g hr w).mono fun e w' q => ⟨q.2, q.1⟩
  · simp only [if_true]
    obtain ⟨p0, p1, s0, s1, r0, r1⟩ := Geom.right_small.mp hr
    obtain ⟨gp, gs, gr⟩ := g
    simp only at p0 p1 s0 s1 r0 r1
    obtain ⟨pg, rfl⟩ : ∃ k : Nat, gp = (k : Int) := ⟨gp.toNat, by omega⟩
    obtain ⟨pgs, rfl⟩ : ∃ k : Nat, gs = (k : Int) := ⟨gs.toNat, by omega⟩
    obtain ⟨rgs, rfl⟩ : ∃ k : Nat, gr = (k : Int) := ⟨gr.toNat, by omega⟩
    simp only [Int.toNat_natCast]
    exact (new_good pg pgs rgs (by omega) (by omega) (by omega) (by omega) (by omega) (by omega) w).mono fun e w' q => by
      obtain ⟨p, S, h1, h2, h3, h4⟩ := q
      exact ⟨h3, p, S, h1, h2, h4⟩
/-- nothing below B has turned, and what is held lies beyond -/
structure Safe (B : Nat) (w0 w : World) (S : Nat → Prop) : Prop where
  bel : Below B w0 w
  size : B ≤ w.heap.size
  foot : ∀ k, S k → B ≤ k
theorem Safe.below {B : Nat} {w0 w w' : World} {S : Nat → Prop} (h : Safe B w0 w S) (g : Below w.heap.size w w') : Safe B w0 w' S := ⟨h.bel.trans (g.mono h.size), Nat.le_trans h.size g.size, h.foot⟩
theorem Safe.turn {B : Nat} {w0 w w' : World} {S : Nat → Prop} (h : Safe B w0 w S) (g : Grows S w w') : Safe B w0 w' S := ⟨h.bel.trans (g.below h.size h.foot), Nat.le_trans h.size g.size, h.foot⟩
def both (S R : Nat → Prop) : Nat → Prop := fun k => S k ∨ R k
/-- the two accounts, apart from one another -/
structure Two (w : World) (p r : Nat) (c d : Ch) (S R : Nat → Prop) : Prop where
  f : CHas w p c S
  r : DHas w r d R
  apart : ∀ k, S k → ¬ R k
theorem Two.below {w w' : World} {p r : Nat} {c d : Ch} {S R : Nat → Prop} (h : Two w p r c d S R) (g : Below w.heap.size w w') : Two w' p r c d S R := ⟨h.f.below g, h.r.below g, h.apart⟩
theorem Two.left {w w' : World} {p r : Nat} {c c' d : Ch} {S R : Nat → Prop} (h : Two w p r c d S R) (hf : CHas w' p c' S) (g : Grows S w w') : Two w' p r c' d S R ∧ Grows (both S R) w w' :=
  ⟨⟨hf, h.r.grows g (fun k hr hs => h.apart k hs hr), h.apart⟩, g.mono fun _ x => .inl x⟩
theorem Two.right {w w' : World} {p r : Nat} {c d d' : Ch} {S R : Nat → Prop} (h : Two w p r c d S R) (hr : DHas w' r d' R) (g : Grows R w w') : Two w' p r c d' S R ∧ Grows (both S R) w w' :=
  ⟨⟨h.f.grows g (fun k hs hk => h.apart k hs hk), hr, h.apart⟩, g.mono fun _ x => .inr x⟩
end Go.Proofs.YtcmjambbdfangaaGreat.Chart
