/-
  TapePlays' walk.
-/
import Derived.Test.YtcmjambbdfangaaGreatRunTapeL
import Derived.Deep.CutBlock
import Derived.Deep.CutRange
import Derived.Test.YtcmjambbdfangaaGreatTapeE
import Derived.Test.YtcmjambbdfangaaGreatRunTapeR
import Derived.Test.YtcmjambbdfangaaGreatTapeFr
set_option linter.unusedVariables false
set_option linter.unusedSimpArgs false
namespace Go.Proofs.YtcmjambbdfangaaGreat.Tape
open Go.RowKit
open Go.Proofs.YtcmjambbdfangaaGreat.Own
open CrcM (W)
open Crc (vl wd)
open Flash (newD readD Dev FHas RHas programD eraseD flushD bs list_bs)
open Chart (newC pgC Ch CHas DHas openC takeC eraseC setC)
open Go.Proofs.YtcmjambbdfangaaGreat.Frame (Fr fV page bytesG)
open Tup Foot Bytes
open Go.Proofs.YtcmjambbdfangaaGreat.Region (fill Then Deps Each wp_region_is wp_region_is_tail wp_region_each wp_region_tail slots TJ TJ2 Each2 Deps2 wp_region_each3 upd put with_fill)

/-- a step as it comes in -/
structure St where
  what : Int
  a : Int
  f : Fr
  near : Bool
def St.cells (x : St) : List Value := [.int .i64 x.what, .int .i64 x.a, .int .i64 x.f.kind, .int .u32 (vl x.f.a), .int .u32 (vl x.f.b), .string (bs x.f.body), .bool x.near]
def flatS (l : List St) : List Value := l.flatMap St.cells
theorem flatS_get {l : List St} {k j : Nat} (hk : k < l.length) (hj : j < 7) : (flatS l)[k * 7 + j]? = (l[k].cells)[j]? := by
  induction l generalizing k with
  | nil => simp at hk
  | cons x r ih =>
    cases k with
    | zero =>
      simp only [flatS, List.flatMap_cons, Nat.zero_mul, Nat.zero_add, List.getElem_cons_zero]
      rw [List.getElem?_append_left (by simp [St.cells]; omega)]
    | succ k =>
      have := ih (k := k) (by simpa using hk)
      simp only [flatS, List.flatMap_cons, List.getElem_cons_succ] at this ⊢
      rw [List.getElem?_append_right (by simp [St.cells]; omega), show (k + 1) * 7 + j - x.cells.length = k * 7 + j by simp [St.cells]; omega]
      exact this
theorem steps_get {w : World} {la : Option Addr} {l : List St} (h : Tup.At w la (flatS l)) {k : Nat} (hk : k < l.length) : ∃ b off, la = some ⟨b, off, none⟩ ∧ b < w.heap.size ∧ ∀ j, j < 7 → ∀ c, l[k].cells[j]? = some c → w.cell? ⟨b, off + k * 7 + j, none⟩ = some c := by
  rcases h with hn | ⟨b, off, ha, hl⟩
  · exfalso
    have h0 := flatS_get hk (show 0 < 7 by omega)
    rw [hn] at h0
    simp [St.cells] at h0
  · have hlt : b < w.heap.size := by
      refine hl.lt ?_
      intro hn
      have h0 := flatS_get hk (show 0 < 7 by omega)
      rw [hn] at h0
      simp [St.cells] at h0
    refine ⟨b, off, ha, hlt, fun j hj c hc => ?_⟩
    have := hl (k * 7 + j) c (by rw [flatS_get hk hj]; exact hc)
    rwa [← Nat.add_assoc] at this
theorem Pair.grows {T : Nat → Prop} {w w' : World} {P p q t r p' q' : Nat} {x y : Tp} {F G : Nat → Prop} (h : Pair w P p q t r p' q' x y F G) (g : Grows T w w') (hP : ¬ T P) (ht : ¬ T t) (hr : ¬ T r) (hF : ∀ k, F k → ¬ T k) (hG : ∀ k, G k → ¬ T k) : Pair w' P p q t r p' q' x y F G :=
  ⟨g.var h.var hP, h.tt.grows g ht hF, h.rr.grows g hr hG, h.apart, h.nF, h.nG, h.tG, h.rF⟩
/-- a store into a newer block -/
theorem Pair.set {w : World} {P p q t r p' q' : Nat} {x y : Tp} {F G : Nat → Prop} (h : Pair w P p q t r p' q' x y F G) {k : Nat} (hk : ∀ w0 : Nat, P < w0 → t < w0 → r < w0 → (∀ j, both F G j → j < w0) → w0 ≤ k → True) (k0 : Nat) (h1 : P < k0) (h2 : t < k0) (h3 : r < k0) (h4 : ∀ j, both F G j → j < k0) (hle : k0 ≤ k) (j : Nat) (v : Value) : Pair (w.setCell ⟨k, j, none⟩ v) P p q t r p' q' x y F G :=
  h.grows (Grows.set (S := (· = k)) w ⟨k, j, none⟩ v rfl) (fun e => by omega) (fun e => by omega) (fun e => by omega) (fun i hi e => by have := h4 i (.inl hi); omega) (fun i hi e => by have := h4 i (.inr hi); omega)
/-- what a round of the law holds -/
structure Held (w wr : World) (P p q t r p' q' : Nat) (pg pgs rgs : Nat) (x : Tp) (F G : Nat → Prop) : Prop where
  ok : x.Ok
  pair : Pair wr P p q t r p' q' x x F G
  geo : Var wr w.heap.size 23 [.int .i64 (pg : Int), .int .i64 (pgs : Int), .int .i64 (rgs : Int)]
  ng : ¬ both F G w.heap.size
  bel : Below w.heap.size w wr
  ft : ∀ k, both F G k → w.heap.size ≤ k
theorem Held.below {w wr w' : World} {P p q t r p' q' pg pgs rgs : Nat} {x : Tp} {F G : Nat → Prop} (h : Held w wr P p q t r p' q' pg pgs rgs x F G) (g : Below wr.heap.size wr w') : Held w w' P p q t r p' q' pg pgs rgs x F G :=
  ⟨h.ok, h.pair.below g, h.geo.below g h.geo.lt, h.ng, h.bel.trans (g.mono h.bel.size), h.ft⟩
theorem Held.lt {w wr : World} {P p q t r p' q' pg pgs rgs : Nat} {x : Tp} {F G : Nat → Prop} (h : Held w wr P p q t r p' q' pg pgs rgs x F G) : P < wr.heap.size ∧ t < wr.heap.size ∧ r < wr.heap.size ∧ ∀ j, both F G j → j < wr.heap.size := ⟨h.pair.var.lt, h.pair.tt.t_lt, h.pair.rr.t_lt, h.pair.lt⟩
theorem Held.set {w w0 wr : World} {P p q t r p' q' pg pgs rgs : Nat} {x : Tp} {F G : Nat → Prop} (h0 : Held w w0 P p q t r p' q' pg pgs rgs x F G) (h : Held w wr P p q t r p' q' pg pgs rgs x F G) {k : Nat} (hk : w0.heap.size ≤ k) (j : Nat) (v : Value) : Held w (wr.setCell ⟨k, j, none⟩ v) P p q t r p' q' pg pgs rgs x F G := by
  obtain ⟨a1, a2, a3, a4⟩ := h0.lt
  have hg := h0.geo.lt
  exact ⟨h.ok, h.pair.set (fun _ _ _ _ _ _ => trivial) w0.heap.size a1 a2 a3 a4 hk j v, (Grows.set (S := (· = k)) wr ⟨k, j, none⟩ v rfl).var h.geo (fun e => by omega), h.ng, h.bel.setCell (p := ⟨k, j, none⟩) (by have := h0.bel.size; simp only; omega) v, h.ft⟩
/-- both have done the same -/
theorem Held.next {w wr w' : World} {P p q t r p' q' pg pgs rgs : Nat} {x x' : Tp} {F G F' G' : Nat → Prop} (h : Held w wr P p q t r p' q' pg pgs rgs x F G) (ok : x'.Ok) (hp : Pair w' P p q t r p' q' x' x' F' G') (a : After (both F G) wr w' (both F' G')) : Held w w' P p q t r p' q' pg pgs rgs x' F' G' :=
  ⟨ok, hp, a.grows.var h.geo h.ng, not_after a h.ng h.geo.lt, h.bel.trans (a.grows.below h.bel.size h.ft), a.beyond h.bel.size h.ft⟩
set_option maxRecDepth 100000 in
set_option maxHeartbeats 64000000 in
theorem plays_any (gp gs gr : Int) (la : Option Addr) (l : List St) (lc : Nat) (w : World) (hS : Tup.At w la (flatS l)) (hll : l.length ≤ maxLen) (hbl : ∀ s ∈ l, s.f.body.length ≤ maxLen) :
    Calls Tryz.prog 3 #[Geom.gV ⟨gp, gs, gr⟩, .slice la l.length lc] w fun e w' => e = .returned (.bool true) ∧ Below w.heap.size w w' := by
  unfold Geom.gV
  obtain ⟨pg, hpg⟩ : ∃ n : Nat, (n : Int) = 32 + gp % 33 := ⟨(32 + gp % 33).toNat, by omega⟩
  obtain ⟨pgs, hpgs⟩ : ∃ n : Nat, (n : Int) = 3 + gs % 4 := ⟨(3 + gs % 4).toNat, by omega⟩
  obtain ⟨rgs, hrgs⟩ : ∃ n : Nat, (n : Int) = 4 + gr % 4 := ⟨(4 + gr % 4).toNat, by omega⟩
  have p0 : 32 ≤ pg := by omega
  have p1 : pg ≤ 64 := by omega
  have s0 : 3 ≤ pgs := by omega
  have s1 : pgs ≤ 6 := by omega
  have r0 : 4 ≤ rgs := by omega
  have r1 : rgs ≤ 7 := by omega
  have HG : Hid (∀ w, Calls Tryz.prog 4 #[.agg #[.int .i64 gp, .int .i64 gs, .int .i64 gr]] w fun e w' => e = .returned (.agg #[.int .i64 (pg : Int), .int .i64 (pgs : Int), .int .i64 (rgs : Int)]) ∧ Below w.heap.size w w') := fun w => by
    rw [hpg, hpgs, hrgs]; exact Geom.geom_any ⟨gp, gs, gr⟩ w
  have HAL := Lib.hid (fun w => alive_any w)
  have SZ := Lib.hid (show Sz pg pgs rgs from ⟨p0, by omega, s0, by omega, r0, by omega⟩)
  have HM := Lib.hid (fun w => made_any SZ.out w)
  have OK0 := Lib.hid (new_ok (pg := pg) (pgs := pgs) (rgs := rgs) p0 (by omega) s0 (by omega) r0 (by omega))
  clear hpg hpgs hrgs
  have HRM : Hid (∀ w, Calls Tryz.prog 9 #[.agg #[.int .i64 (pg : Int), .int .i64 (pgs : Int), .int .i64 (rgs : Int)]] w fun e w' => e = .returned (.int .i64 ((pg - 15 : Nat) : Int)) ∧ Below w.heap.size w w') := fun w => by
    have := Geom.refRoom_any ⟨pg, pgs, rgs⟩ ⟨by simp only; omega, by simp only; omega, by simp only; omega, by simp only; omega, by simp only; omega, by simp only; omega⟩ w
    rw [show Geom.roomG ⟨pg, pgs, rgs⟩ = ((pg - 15 : Nat) : Int) by unfold Geom.roomG; simp only; omega] at this
    exact this
  have HSTEPS := Lib.hid hS
  obtain ⟨L, hL⟩ : ∃ L, l.length = L := ⟨_, rfl⟩
  rw [hL] at hll ⊢
  have HLL := Lib.hid hL
  have HBL := Lib.hid hbl
  unfold maxLen at hll
  clear hS hL hbl
  have vf1 := (show Var (w.alloc (.cells #[.int .i64 gp, .int .i64 gs, .int .i64 gr] 23)) (w.heap.size) 23 [.int .i64 gp, .int .i64 gs, .int .i64 gr] from (Var.new w 23 [.int .i64 gp, .int .i64 gs, .int .i64 gr]))
  have c2 := vf1.cell (j := 0) rfl
  have c3 := vf1.cell (j := 1) rfl
  have c4 := vf1.cell (j := 2) rfl
  clear vf1
  go_enter Tryz.func3, Tryz.ntmps3
  go_wp2_with (first
    | (go_at_call 4; ((with_reducible refine (HG.out _).mono ?_); rintro e w2 ⟨rfl, bz⟩; obtain ⟨w1, hw1⟩ : ∃ wx, wx = (w.alloc (.cells #[.int .i64 gp, .int .i64 gs, .int .i64 gr] 23)) := ⟨_, rfl⟩; have bw1 := Lib.hid (show Below w.heap.size w w1 by rw [hw1]; exact (Geom.bel_alloc _ _)); have zw1 := Lib.hid (show w.heap.size + 1 ≤ w1.heap.size by rw [hw1]; simp); have vw1g := Lib.hid (show Var w1 (w.heap.size) 23 [.int .i64 gp, .int .i64 gs, .int .i64 gr] by rw [hw1]; exact (Var.new w 23 [.int .i64 gp, .int .i64 gs, .int .i64 gr])); have hbel : Below w1.heap.size w1 w2 := (by rw [hw1]; exact bz); clear bz; have bw2 := Lib.hid (bel2 bw1.out hbel); have zw2 := Lib.hid hbel.size; have vw2g := Lib.hid (vw1g.out.below hbel vw1g.out.lt); clear hbel; clear c2 c3 c4; have vf5 := (show Var w2 (w.heap.size) 23 [.int .i64 gp, .int .i64 gs, .int .i64 gr] from vw2g.out); have c6 := vf5.cell (j := 0) rfl; have c7 := vf5.cell (j := 1) rfl; have c8 := vf5.cell (j := 2) rfl; clear vf5; have vf9 := (show Var w2 (w.heap.size) 23 [.int .i64 gp, .int .i64 gs, .int .i64 gr] from vw2g.out); have f10 := vf9.frozen 0; have f11 := vf9.frozen 1; have f12 := vf9.frozen 2; clear vf9; have vf13 := (show Var (((w2.setCell ⟨w.heap.size, 0, none⟩ (.int .i64 (pg : Int))).setCell ⟨w.heap.size, 1, none⟩ (.int .i64 (pgs : Int))).setCell ⟨w.heap.size, 2, none⟩ (.int .i64 (rgs : Int))) (w.heap.size) 23 [.int .i64 (pg : Int), .int .i64 (pgs : Int), .int .i64 (rgs : Int)] from (((vw2g.out.set 0 (.int .i64 (pg : Int))).set 1 (.int .i64 (pgs : Int))).set 2 (.int .i64 (rgs : Int)))); have c14 := vf13.cell (j := 0) rfl; have c15 := vf13.cell (j := 1) rfl; have c16 := vf13.cell (j := 2) rfl; clear vf13))
    | (go_at_call 5; ((with_reducible refine (HM.out _).mono ?_); rintro e w4 ⟨P, p, q, t, r, p', q', F, G, rfl, hpair, bz, hfoot⟩; obtain ⟨w3, hw3⟩ : ∃ wx, wx = (((w2.setCell ⟨w.heap.size, 0, none⟩ (.int .i64 (pg : Int))).setCell ⟨w.heap.size, 1, none⟩ (.int .i64 (pgs : Int))).setCell ⟨w.heap.size, 2, none⟩ (.int .i64 (rgs : Int))) := ⟨_, rfl⟩; have bw3 := Lib.hid (show Below w.heap.size w w3 by rw [hw3]; exact (((bw2.out.setCell (p := ⟨w.heap.size, 0, none⟩) (by have := zw1.out; have := zw2.out; simp only; omega) _).setCell (p := ⟨w.heap.size, 1, none⟩) (by have := zw1.out; have := zw2.out; simp only; omega) _).setCell (p := ⟨w.heap.size, 2, none⟩) (by have := zw1.out; have := zw2.out; simp only; omega) _)); have zw3 := Lib.hid (show w2.heap.size + 0 ≤ w3.heap.size by rw [hw3]; simp); have vw3g := Lib.hid (show Var w3 (w.heap.size) 23 [.int .i64 (pg : Int), .int .i64 (pgs : Int), .int .i64 (rgs : Int)] by rw [hw3]; exact (((vw2g.out.set 0 (.int .i64 (pg : Int))).set 1 (.int .i64 (pgs : Int))).set 2 (.int .i64 (rgs : Int)))); have hbel : Below w3.heap.size w3 w4 := (by rw [hw3]; exact bz); clear bz; have bw4 := Lib.hid (bel2 bw3.out hbel); have zw4 := Lib.hid hbel.size; have vw4g := Lib.hid (vw3g.out.below hbel vw3g.out.lt); clear hbel; clear c6 c7 c8 f10 f11 f12 c14 c15 c16; rw [← hw3] at hfoot; have kH := Lib.hid hpair; have HFT := Lib.hid hfoot; clear hpair hfoot))
    | (go_at_call 6; ((with_reducible refine (HAL.out _).mono ?_); rintro e w5 ⟨rfl, bz⟩; have hbel : Below w4.heap.size w4 w5 := (by exact bz); clear bz; have bw5 := Lib.hid (bel2 bw4.out hbel); have zw5 := Lib.hid hbel.size; have vw5g := Lib.hid (vw4g.out.below hbel vw4g.out.lt); have kw5H := Lib.hid (kH.out.below hbel); clear hbel)))
  have FT0 := Lib.hid (show ∀ k, both F G k → w.heap.size ≤ k from fun k hk => by have := HFT.out k hk; have := zw1.out; have := zw2.out; have := zw3.out; have := zw4.out; have := zw5.out; omega)
  have NNg := Lib.hid (show ¬ both F G (w.heap.size) from fun hk => by have := HFT.out _ hk; have := zw1.out; have := zw2.out; have := zw3.out; have := zw4.out; have := zw5.out; omega)
  have HE0 := Lib.hid (show Held w w5 P p q t r p' q' pg pgs rgs (newT pg pgs rgs) F G from ⟨OK0.out, kw5H.out, vw5g.out, NNg.out, bw5.out, FT0.out⟩)
  go_loopw [6] (fun v wr => ∃ (i : Nat) (x : Tp) (F' G' : Nat → Prop), v = .int .i64 (i : Int) ∧ i ≤ L ∧ i ≤ 60 ∧ Held w wr P p q t r p' q' pg pgs rgs x F' G') (fun v _ => L - (intOf v).toNat)
  case atStart => exact ⟨0, _, F, G, rfl, by omega, by omega, HE0.out⟩
  case round =>
    obtain ⟨i, x, FL, GL, rfl, hiL, hi60, hheld⟩ := hrel
    have HH := Lib.hid hheld
    clear hheld HE0
    by_cases hlt : i < L
    case neg =>
      obtain rfl : i = L := by omega
      have d1 : decide ((i : Int) < (i : Int)) = false := by simp
      clear HSTEPS
      go_wp2
      go_ret
      exact ⟨rfl, HH.out.bel⟩
    have d1 : decide ((i : Int) < (L : Int)) = true := by simp; omega
    have d2 : decide (i < L) = true := by simp; omega
    by_cases h60 : i < 60
    case neg =>
      obtain rfl : i = 60 := by omega
      clear HSTEPS
      go_wp2
      go_ret
      exact ⟨rfl, HH.out.bel⟩
    have d3 : decide ((i : Int) < 60) = true := by simp; omega
    have d4 : decide (i < 60) = true := by simp; omega
    have hil : i < l.length := by rw [HLL.out]; exact hlt
    obtain ⟨lb, off, hla, hlb, hcell⟩ := steps_get HSTEPS.out hil
    subst hla
    obtain ⟨tw, ta, fr, tn, hx⟩ : ∃ tw ta fr tn, l[i] = ⟨tw, ta, fr, tn⟩ := ⟨_, _, _, _, rfl⟩
    have hfl : fr.body.length ≤ maxLen := by have := HBL.out l[i] (List.getElem_mem hil); rw [hx] at this; exact this
    rw [hx] at hcell
    simp only [St.cells] at hcell
    obtain ⟨kd, xa, xb, bd⟩ := fr
    simp only at hcell hfl
    obtain ⟨va, hva⟩ : ∃ va, va = vl xa := ⟨_, rfl⟩
    obtain ⟨vb, hvb⟩ : ∃ vb, vb = vl xb := ⟨_, rfl⟩
    obtain ⟨BD, hBD⟩ : ∃ BD, BD = bs bd := ⟨_, rfl⟩
    rw [← hva, ← hvb, ← hBD] at hcell
    have HFR := Lib.hid (show ∃ f : Fr, f.body.length ≤ maxLen ∧ fV f = .agg #[.int .i64 kd, .int .u32 va, .int .u32 vb, .string BD] from ⟨⟨kd, xa, xb, bd⟩, hfl, by unfold fV; rw [← hva, ← hvb, ← hBD]⟩)
    have HCELL := Lib.hid (fun wx (hb : Below w.heap.size w wx) => (show wx.cell? ⟨lb, off + i * 7, none⟩ = some (.int .i64 tw) ∧ wx.cell? ⟨lb, off + i * 7 + 1, none⟩ = some (.int .i64 ta) ∧ wx.cell? ⟨lb, off + i * 7 + 2, none⟩ = some (.int .i64 kd) ∧ wx.cell? ⟨lb, off + i * 7 + 3, none⟩ = some (.int .u32 va) ∧ wx.cell? ⟨lb, off + i * 7 + 4, none⟩ = some (.int .u32 vb) ∧ wx.cell? ⟨lb, off + i * 7 + 5, none⟩ = some (.string BD) ∧ wx.cell? ⟨lb, off + i * 7 + 6, none⟩ = some (.bool tn) from by
        refine ⟨?_, ?_, ?_, ?_, ?_, ?_, ?_⟩
        · rw [hb.cell (p := ⟨lb, off + i * 7, none⟩) hlb]; exact hcell 0 (by omega) _ rfl
        · rw [hb.cell (p := ⟨lb, off + i * 7 + 1, none⟩) hlb]; exact hcell 1 (by omega) _ rfl
        · rw [hb.cell (p := ⟨lb, off + i * 7 + 2, none⟩) hlb]; exact hcell 2 (by omega) _ rfl
        · rw [hb.cell (p := ⟨lb, off + i * 7 + 3, none⟩) hlb]; exact hcell 3 (by omega) _ rfl
        · rw [hb.cell (p := ⟨lb, off + i * 7 + 4, none⟩) hlb]; exact hcell 4 (by omega) _ rfl
        · rw [hb.cell (p := ⟨lb, off + i * 7 + 5, none⟩) hlb]; exact hcell 5 (by omega) _ rfl
        · rw [hb.cell (p := ⟨lb, off + i * 7 + 6, none⟩) hlb]; exact hcell 6 (by omega) _ rfl))
    have hBDs : BD.size ≤ maxLen := by rw [hBD, Flash.bs_size]; exact hfl
    have HSH := Lib.hid (fun w => shortT BD hBDs (pg - 15) (by omega) w)
    have HFN := Lib.hid (show ∃ f : Fr, f.body.length ≤ maxLen ∧ fV f = .agg #[.int .i64 (1 + kd % 4), .int .u32 va, .int .u32 vb, .string (bs (BD.data.toList.take (pg - 15)))] from ⟨⟨1 + kd % 4, xa, xb, BD.data.toList.take (pg - 15)⟩, by simp only; rw [List.length_take]; unfold maxLen; omega, by unfold fV; rw [← hva, ← hvb]⟩)
    have HP4 : Hid (∀ w, Calls Tryz.prog 7 #[.int .i64 kd, .int .i64 4] w fun e w' => e = .returned (.int .i64 (kd % 4)) ∧ w = w') := Lib.hid (fun w => Book.pick_any kd 4 (by decide) (by decide) w)
    have hkd4 : 0 ≤ kd % 4 ∧ kd % 4 < 4 := by omega
    obtain ⟨k4, hk4⟩ : ∃ k4, k4 = kd % 4 := ⟨_, rfl⟩
    rw [← hk4] at HP4 HFN hkd4
    generalize bs (BD.data.toList.take (pg - 15)) = B2 at HSH HFN
    clear hcell HSTEPS hx hva hvb hBD hfl hBDs hk4
    have HLT := Lib.hid hlb
    have cc := HCELL.out _ HH.out.bel
    have s0 := cc.1
    have s1 := cc.2.1
    have s2 := cc.2.2.1
    have s3 := cc.2.2.2.1
    have s4 := cc.2.2.2.2.1
    have s5 := cc.2.2.2.2.2.1
    have s6 := cc.2.2.2.2.2.2
    clear cc
    have s6a := (HCELL.out (wr.alloc (.cells #[.int .i64 kd, .int .u32 va, .int .u32 vb, .string BD] 31)) (HH.out.bel.trans ((Geom.bel_alloc _ _).mono HH.out.bel.size))).2.2.2.2.2.2
    go_upto_if 42 with fail
    obtain ⟨w4, hw4⟩ : ∃ w4, w4 = wr.alloc (.cells #[.int .i64 kd, .int .u32 va, .int .u32 vb, .string BD] 31) := ⟨_, rfl⟩
    have B4 := Lib.hid (show Below wr.heap.size wr w4 by rw [hw4]; exact Geom.bel_alloc _ _)
    have H4 := Lib.hid (HH.out.below B4.out)
    have VX4 := Lib.hid (show Var w4 wr.heap.size 31 [.int .i64 kd, .int .u32 va, .int .u32 vb, .string BD] by rw [hw4]; exact Var.new _ _ _)
    rw [← hw4]
    clear s0 s1 s2 s3 s4 s5 s6 s6a hw4
    go_cut [] from 23 to 241 (fun wx => ∃ f : Fr, f.body.length ≤ maxLen ∧ Held w wx P p q t r p' q' pg pgs rgs x FL GL ∧ ∃ cs, fV f = .agg ⟨cs⟩ ∧ Var wx wr.heap.size 31 cs)
    case first =>
      cases tn with
      | false =>
        go_wp2
        go_meet
        case rel => exact ⟨HFR.out.choose, HFR.out.choose_spec.1, H4.out, _, HFR.out.choose_spec.2, VX4.out⟩
      | true =>
        have x0 := VX4.out.cell (j := 0) rfl
        have z0 := VX4.out.frozen 0
        go_wp2_with (go_at_call 7; (with_reducible refine (HP4.out _).mono ?_); rintro e wz ⟨rfl, rfl⟩)
        obtain ⟨w5, hw5⟩ : ∃ w5, w5 = w4.setCell ⟨wr.heap.size, 0, none⟩ (.int .i64 (1 + k4)) := ⟨_, rfl⟩
        have H5 := Lib.hid (show Held w w5 P p q t r p' q' pg pgs rgs x FL GL by rw [hw5]; exact HH.out.set H4.out (Nat.le_refl _) 0 _)
        have VX5 := Lib.hid (show Var w5 wr.heap.size 31 [.int .i64 (1 + k4), .int .u32 va, .int .u32 vb, .string BD] by rw [hw5]; exact VX4.out.set 0 _)
        rw [← hw5]
        clear x0 z0 hw5
        apply with_fill [48, 49, 50, 51, 52, 53]
        case hFL => intro ys; simp only [List.getD_cons_succ, List.getD_cons_zero, fill, slots, List.filterMap_cons, List.filterMap_nil, id, List.foldl_cons, List.foldl_nil, Act.put, List.setIfInBounds_toArray, List.set_cons_succ, List.set_cons_zero]; exact rfl
        intro hFL1
        refine wp_region_is_tail 6 [48, 49, 50, 51, 52, 53] (fun w' => Below w5.heap.size w5 w')
          [.pointer (some ⟨wr.heap.size, 3, none⟩), .string BD, .agg #[.int .i64 (pg : Int), .int .i64 (pgs : Int), .int .i64 (rgs : Int)], .int .i64 ((pg - 15 : Nat) : Int), .string B2, .pointer (some ⟨wr.heap.size, 3, none⟩)] (by kernel_rfl) (by kernel_rfl) (by kernel_rfl) (by decide) rfl (by decide) (by simp) (Below.refl _ _).drew ?each ?done
        case each => as_aux_lemma =>
          simp only [List.take_succ_cons, List.take_zero, Each]
          repeat' (first | exact trivial | refine And.intro ?_ ?_)
          all_goals
            intro ys wx hBx hdeps
            simp only [Deps, Region.binds, List.getD_cons_zero, List.getD_cons_succ, forall_const, and_true] at hdeps
            have g0 := (H5.out.geo.below hBx H5.out.geo.lt).cell (j := 0) rfl
            have g1 := (H5.out.geo.below hBx H5.out.geo.lt).cell (j := 1) rfl
            have g2 := (H5.out.geo.below hBx H5.out.geo.lt).cell (j := 2) rfl
            have x3 := (VX5.out.below hBx VX5.out.lt).cell (j := 3) rfl
            rw [hFL1 ys]
            try simp only [hdeps]
            first
              | (go_wp2_with fail; exact ⟨_, rfl, rfl, hBx, Below.refl _ _⟩)
              | (go_wp2_with (go_at_call 9; (with_reducible refine (HRM.out _).mono ?_); rintro e w3 ⟨rfl, hm⟩); exact ⟨_, rfl, rfl, hBx.trans (hm.mono hBx.size), hm⟩)
              | (go_wp2_with (go_at_call 8; (with_reducible refine (HSH.out _).mono ?_); rintro e w3 ⟨rfl, rfl⟩); exact ⟨_, rfl, rfl, hBx, Below.refl _ _⟩)
        case done => as_aux_lemma =>
          intro ys wx hBx hV
          have h52 : ys 52 = .string B2 := hV 4 (by decide)
          have h53 : ys 53 = .pointer (some ⟨wr.heap.size, 3, none⟩) := hV 5 (by decide)
          have H6 := Lib.hid (H5.out.below hBx)
          have VX6 := Lib.hid (VX5.out.below hBx VX5.out.lt)
          clear hBx hV
          have x3 := VX6.out.cell (j := 3) rfl
          have z3 := VX6.out.frozen 3
          rw [hFL1 ys]
          simp only [h52, h53, List.drop_succ_cons, List.drop_zero]
          go_wp2
          go_meet
          case rel => exact ⟨HFN.out.choose, HFN.out.choose_spec.1, HH.out.set H6.out (Nat.le_refl _) 3 _, _, HFN.out.choose_spec.2, VX6.out.set 3 _⟩
    case rest =>
      obtain ⟨f, hfl, hheld, cs, hfv, hvx⟩ := hcut
      have HX := Lib.hid hheld
      have VX := Lib.hid hvx
      have HFL := Lib.hid hfl
      obtain ⟨fk, fa, fb, fd⟩ := f
      unfold fV at hfv
      simp only [Value.agg.injEq, Array.mk.injEq] at hfv
      subst hfv
      have HFL := Lib.hid hfl
      obtain ⟨ya, hya⟩ : ∃ ya, ya = vl fa := ⟨_, rfl⟩
      obtain ⟨yb, hyb⟩ : ∃ yb, yb = vl fb := ⟨_, rfl⟩
      obtain ⟨YD, hYD⟩ : ∃ YD, YD = bs fd := ⟨_, rfl⟩
      rw [← hya, ← hyb, ← hYD] at VX
      obtain ⟨m, hm, hm9⟩ : ∃ m : Nat, tw % 10 = (m : Int) ∧ m < 10 := ⟨(tw % 10).toNat, by omega, by omega⟩
      have HP10 : Hid (∀ w, Calls Tryz.prog 7 #[.int .i64 tw, .int .i64 10] w fun e w' => e = .returned (.int .i64 (m : Int)) ∧ w = w') := Lib.hid (fun w => by have := Book.pick_any tw 10 (by decide) (by decide) w; rw [show tw % ((10 : Nat) : Int) = (m : Int) from hm] at this; exact this)
      have hap1 := fun w P p q t r p' q' y F G (h : Pair w P p q t r p' q' x y F G) => pAppend h HX.out.ok ⟨fk, fa, fb, fd⟩ HFL.out
      have hap2 := fun w P p q t r p' q' y F G (h : Pair w P p q t r p' q' y x F G) => rAppend h HX.out.ok ⟨fk, fa, fb, fd⟩ HFL.out
      have OKA := Lib.hid (append_ok HX.out.ok ⟨fk, fa, fb, fd⟩)
      unfold fV at hap1 hap2
      simp only at hap1 hap2
      rw [← hya, ← hyb, ← hYD] at hap1 hap2
      generalize appendT x ⟨fk, fa, fb, fd⟩ = ra at hap1 hap2 OKA
      obtain ⟨⟨raA, raK⟩, raX⟩ := ra
      simp only at hap1 hap2 OKA
      have HA1 := Lib.hid hap1
      have HA2 := Lib.hid hap2
      have hfl1 := fun w P p q t r p' q' y F G (h : Pair w P p q t r p' q' x y F G) => pFlush h HX.out.ok
      have hfl2 := fun w P p q t r p' q' y F G (h : Pair w P p q t r p' q' y x F G) => rTFlush h HX.out.ok
      have OKF := Lib.hid (flush_ok HX.out.ok)
      generalize flushT x = rf at hfl1 hfl2 OKF
      obtain ⟨rfK, rfX⟩ := rf
      simp only at hfl1 hfl2 OKF
      have HF1 := Lib.hid hfl1
      have HF2 := Lib.hid hfl2
      clear hm hya hyb hYD hfl hheld hvx hap1 hap2 hfl1 hfl2 VX4 H4 B4 HFR HFN HSH HP4
      have HLK := Lib.hid HX.out.pair.look
      have cc := HCELL.out _ HX.out.bel
      have s0 := cc.1
      clear cc
      go_upto_block 2 with (go_at_call 7; (with_reducible refine (HP10.out _).mono ?_); rintro e wz ⟨rfl, rfl⟩)
      go_cut [8, 9, 10, 11] from 23 to 241 (fun e d a b wx => ∃ (k A : Nat) (x' : Tp) (F' G' : Nat → Prop), e = .int .i64 (k : Int) ∧ d = .int .i64 (k : Int) ∧ a = .int .i64 (A : Int) ∧ b = .int .i64 (A : Int) ∧ Held w wx P p q t r p' q' pg pgs rgs x' F' G')
      case first =>
        clear s0
        with_reducible refine Exists.elim HLK.out ?_
        intro lka hlk
        with_reducible refine Exists.elim hlk ?_
        intro lkc hlk2
        have HLO := Lib.hid hlk2
        clear hlk hlk2 HLK
        rcases (show m = 6 ∨ m = 7 ∨ m = 8 ∨ m = 9 ∨ m ≤ 5 by omega) with rfl | rfl | rfl | rfl | hm5
        · have HRG := Lib.hid (HX.out.pair.rr.nt)
          go_wp2
          apply with_fill (slots [some 81, some 82, some 83, some 84, some 85, some 86, some 87, some 88, some 89, some 90, some 91, some 92, some 93, some 8, some 9])
          case hFL => intro ys; simp only [List.getD_cons_succ, List.getD_cons_zero, fill, slots, List.filterMap_cons, List.filterMap_nil, id, List.foldl_cons, List.foldl_nil, Act.put, List.setIfInBounds_toArray, List.set_cons_succ, List.set_cons_zero]; exact rfl
          intro hFL2
          refine wp_region_each3 [some 81, some 82, some 83, some 84, some 85, some 86, some 87, some 88, some 89, some 90, some 91, some 92, some 93, some 8, some 9] (TJ2 [81, 82, 83, 84, 85, 86, 87, 88, 89, 90, 91, 92, 93, 8, 9] [.pointer (some ⟨P, 0, none⟩), .pointer (some ⟨P, 0, none⟩), .pointer (some ⟨P, 2, none⟩), .pointer (some ⟨t, 0, none⟩), .int .i64 (rfK : Int), .pointer (some ⟨P, 0, none⟩), .pointer (some ⟨P, 0, none⟩), .pointer (some ⟨P, 3, none⟩), .pointer (some ⟨r, 0, none⟩), .pointer (some ⟨r, 0, none⟩), .pointer (some ⟨r, 0, none⟩), .pointer (some ⟨p', 0, none⟩), .int .i64 (rfK : Int), .int .i64 (rfK : Int), .int .i64 (rfK : Int)] 4 12 (fun wx => Grows (both FL GL) wc wx) (fun wx => Below wc.heap.size wc wx) (fun wx => ∃ F1, Pair wx P p q t r p' q' rfX x F1 GL ∧ After (both FL GL) wc wx (both F1 GL)) (fun wx => ∃ F1 G1, Pair wx P p q t r p' q' rfX rfX F1 G1 ∧ After (both FL GL) wc wx (both F1 G1))) (by kernel_rfl) (by kernel_rfl) (by simp [slots]) ?startfa ?eachfa ?donefa
          case startfa => exact ⟨by simp, by simp, Grows.of_below ((Below.refl _ _).drew), fun _ => (Below.refl _ _).drew, by simp, by simp⟩
          case eachfa => as_aux_lemma =>
            simp only [Each2]
            refine ⟨?o0, ?o1, ?o2, ?o3, ?o4, ?o5, ?o6, ?o7, ?o8, ?o9, ?o10, ?o11, ?o12, ?o13, ?o14, trivial⟩
            case o0 =>
              intro d0 ys wx hJ hdi hw hdeps
              clear hdeps
              have hC := Lib.hid hJ.com
              have HJ := Lib.hid hJ
              clear hJ hw
              rw [hFL2 ys]
              go_wp2_with fail
              exact ⟨_, rfl, HJ.out.plain (i := 0) (by decide) (by decide) (by decide) (by decide) rfl (hC.out.trans (S' := fun _ => False) (Grows.of_below (Below.refl _ _)) (fun _ h => h.elim)) (fun h => h) (fun h => h) (fun h => h)⟩
            case o1 =>
              intro d0 ys wx hJ hdi hw hdeps
              have q0 : d0 0 = true := by simp [Region.Deps2, Go.Region.binds] at hdeps; simp [hdeps]
              have y0 : ys 81 = .pointer (some ⟨P, 0, none⟩) := hJ.val 0 (by decide) q0
              clear hdeps
              have hC := Lib.hid hJ.com
              have HJ := Lib.hid hJ
              clear hJ hw
              rw [hFL2 ys]
              simp only [y0]
              go_wp2_with fail
              exact ⟨_, rfl, HJ.out.plain (i := 1) (by decide) (by decide) (by decide) (by decide) rfl (hC.out.trans (S' := fun _ => False) (Grows.of_below (Below.refl _ _)) (fun _ h => h.elim)) (fun h => h) (fun h => h) (fun h => h)⟩
            case o2 =>
              intro d0 ys wx hJ hdi hw hdeps
              have q1 : d0 1 = true := by simp [Region.Deps2, Go.Region.binds] at hdeps; simp [hdeps]
              have y1 : ys 82 = .pointer (some ⟨P, 0, none⟩) := hJ.val 1 (by decide) q1
              clear hdeps
              have hC := Lib.hid hJ.com
              have HJ := Lib.hid hJ
              clear hJ hw
              rw [hFL2 ys]
              simp only [y1]
              go_wp2_with fail
              exact ⟨_, rfl, HJ.out.plain (i := 2) (by decide) (by decide) (by decide) (by decide) rfl (hC.out.trans (S' := fun _ => False) (Grows.of_below (Below.refl _ _)) (fun _ h => h.elim)) (fun h => h) (fun h => h) (fun h => h)⟩
            case o3 =>
              intro d0 ys wx hJ hdi hw hdeps
              have q2 : d0 2 = true := by simp [Region.Deps2, Go.Region.binds] at hdeps; simp [hdeps]
              have y2 : ys 83 = .pointer (some ⟨P, 2, none⟩) := hJ.val 2 (by decide) q2
              clear hdeps
              have hC := Lib.hid hJ.com
              have vP := hC.out.var HX.out.pair.var (fun h => h.elim HX.out.pair.nF HX.out.pair.nG)
              have p0 := vP.cell (j := 0) rfl
              have p2 := vP.cell (j := 2) rfl
              have p3 := vP.cell (j := 3) rfl
              unfold ptr at p0 p2 p3
              clear vP
              have r0 := hC.out.cell (p := ⟨r, 0, none⟩) (HLO.out _ (Below.refl _ _)).2.2.2.2.1 (fun h => h.elim HX.out.pair.rF HRG.out)
              have HJ := Lib.hid hJ
              clear hJ hw
              rw [hFL2 ys]
              simp only [y2]
              go_wp2_with fail
              exact ⟨_, rfl, HJ.out.plain (i := 3) (by decide) (by decide) (by decide) (by decide) rfl (hC.out.trans (S' := fun _ => False) (Grows.of_below (Below.refl _ _)) (fun _ h => h.elim)) (fun h => h) (fun h => h) (fun h => h)⟩
            case o4 =>
              intro d0 ys wx hJ hdi hw hdeps
              have q3 : d0 3 = true := by simp [Region.Deps2, Go.Region.binds] at hdeps; simp [hdeps]
              have y3 : ys 84 = .pointer (some ⟨t, 0, none⟩) := hJ.val 3 (by decide) q3
              clear hdeps
              have hC := Lib.hid hJ.com
              have hB := Lib.hid (hJ.m0 hdi)
              have HJ := Lib.hid hJ
              clear hJ hw
              rw [hFL2 ys]
              simp only [y3]
              go_wp2_with (go_at_call 10; (with_reducible refine (HF1.out _ _ _ _ _ _ _ _ _ _ _ (HX.out.pair.below hB.out)).mono ?_); rintro e wy ⟨rfl, Fy, hy, ay⟩)
              exact ⟨_, rfl, HJ.out.turn (by decide) (by decide) (by decide) hdi rfl (hC.out.trans (S' := both FL GL) ay.grows (fun _ h => .inl h)) ⟨Fy, hy, After.trans (S1 := both FL GL) ⟨Grows.of_below hB.out, fun _ h => .inl h⟩ ay⟩⟩
            case o5 =>
              intro d0 ys wx hJ hdi hw hdeps
              clear hdeps
              have hC := Lib.hid hJ.com
              have HJ := Lib.hid hJ
              clear hJ hw
              rw [hFL2 ys]
              go_wp2_with fail
              exact ⟨_, rfl, HJ.out.plain (i := 5) (by decide) (by decide) (by decide) (by decide) rfl (hC.out.trans (S' := fun _ => False) (Grows.of_below (Below.refl _ _)) (fun _ h => h.elim)) (fun h => h) (fun h => h) (fun h => h)⟩
            case o6 =>
              intro d0 ys wx hJ hdi hw hdeps
              have q5 : d0 5 = true := by simp [Region.Deps2, Go.Region.binds] at hdeps; simp [hdeps]
              have y5 : ys 86 = .pointer (some ⟨P, 0, none⟩) := hJ.val 5 (by decide) q5
              clear hdeps
              have hC := Lib.hid hJ.com
              have HJ := Lib.hid hJ
              clear hJ hw
              rw [hFL2 ys]
              simp only [y5]
              go_wp2_with fail
              exact ⟨_, rfl, HJ.out.plain (i := 6) (by decide) (by decide) (by decide) (by decide) rfl (hC.out.trans (S' := fun _ => False) (Grows.of_below (Below.refl _ _)) (fun _ h => h.elim)) (fun h => h) (fun h => h) (fun h => h)⟩
            case o7 =>
              intro d0 ys wx hJ hdi hw hdeps
              have q6 : d0 6 = true := by simp [Region.Deps2, Go.Region.binds] at hdeps; simp [hdeps]
              have y6 : ys 87 = .pointer (some ⟨P, 0, none⟩) := hJ.val 6 (by decide) q6
              clear hdeps
              have hC := Lib.hid hJ.com
              have HJ := Lib.hid hJ
              clear hJ hw
              rw [hFL2 ys]
              simp only [y6]
              go_wp2_with fail
              exact ⟨_, rfl, HJ.out.plain (i := 7) (by decide) (by decide) (by decide) (by decide) rfl (hC.out.trans (S' := fun _ => False) (Grows.of_below (Below.refl _ _)) (fun _ h => h.elim)) (fun h => h) (fun h => h) (fun h => h)⟩
            case o8 =>
              intro d0 ys wx hJ hdi hw hdeps
              have q7 : d0 7 = true := by simp [Region.Deps2, Go.Region.binds] at hdeps; simp [hdeps]
              have y7 : ys 88 = .pointer (some ⟨P, 3, none⟩) := hJ.val 7 (by decide) q7
              clear hdeps
              have hC := Lib.hid hJ.com
              have vP := hC.out.var HX.out.pair.var (fun h => h.elim HX.out.pair.nF HX.out.pair.nG)
              have p0 := vP.cell (j := 0) rfl
              have p2 := vP.cell (j := 2) rfl
              have p3 := vP.cell (j := 3) rfl
              unfold ptr at p0 p2 p3
              clear vP
              have r0 := hC.out.cell (p := ⟨r, 0, none⟩) (HLO.out _ (Below.refl _ _)).2.2.2.2.1 (fun h => h.elim HX.out.pair.rF HRG.out)
              have HJ := Lib.hid hJ
              clear hJ hw
              rw [hFL2 ys]
              simp only [y7]
              go_wp2_with fail
              exact ⟨_, rfl, HJ.out.plain (i := 8) (by decide) (by decide) (by decide) (by decide) rfl (hC.out.trans (S' := fun _ => False) (Grows.of_below (Below.refl _ _)) (fun _ h => h.elim)) (fun h => h) (fun h => h) (fun h => h)⟩
            case o9 =>
              intro d0 ys wx hJ hdi hw hdeps
              have q8 : d0 8 = true := by simp [Region.Deps2, Go.Region.binds] at hdeps; simp [hdeps]
              have y8 : ys 89 = .pointer (some ⟨r, 0, none⟩) := hJ.val 8 (by decide) q8
              clear hdeps
              have hC := Lib.hid hJ.com
              have HJ := Lib.hid hJ
              clear hJ hw
              rw [hFL2 ys]
              simp only [y8]
              go_wp2_with fail
              exact ⟨_, rfl, HJ.out.plain (i := 9) (by decide) (by decide) (by decide) (by decide) rfl (hC.out.trans (S' := fun _ => False) (Grows.of_below (Below.refl _ _)) (fun _ h => h.elim)) (fun h => h) (fun h => h) (fun h => h)⟩
            case o10 =>
              intro d0 ys wx hJ hdi hw hdeps
              have q9 : d0 9 = true := by simp [Region.Deps2, Go.Region.binds] at hdeps; simp [hdeps]
              have y9 : ys 90 = .pointer (some ⟨r, 0, none⟩) := hJ.val 9 (by decide) q9
              clear hdeps
              have hC := Lib.hid hJ.com
              have HJ := Lib.hid hJ
              clear hJ hw
              rw [hFL2 ys]
              simp only [y9]
              go_wp2_with fail
              exact ⟨_, rfl, HJ.out.plain (i := 10) (by decide) (by decide) (by decide) (by decide) rfl (hC.out.trans (S' := fun _ => False) (Grows.of_below (Below.refl _ _)) (fun _ h => h.elim)) (fun h => h) (fun h => h) (fun h => h)⟩
            case o11 =>
              intro d0 ys wx hJ hdi hw hdeps
              have q10 : d0 10 = true := by simp [Region.Deps2, Go.Region.binds] at hdeps; simp [hdeps]
              have y10 : ys 91 = .pointer (some ⟨r, 0, none⟩) := hJ.val 10 (by decide) q10
              clear hdeps
              have hC := Lib.hid hJ.com
              have vP := hC.out.var HX.out.pair.var (fun h => h.elim HX.out.pair.nF HX.out.pair.nG)
              have p0 := vP.cell (j := 0) rfl
              have p2 := vP.cell (j := 2) rfl
              have p3 := vP.cell (j := 3) rfl
              unfold ptr at p0 p2 p3
              clear vP
              have r0 := hC.out.cell (p := ⟨r, 0, none⟩) (HLO.out _ (Below.refl _ _)).2.2.2.2.1 (fun h => h.elim HX.out.pair.rF HRG.out)
              have HJ := Lib.hid hJ
              clear hJ hw
              rw [hFL2 ys]
              simp only [y10]
              go_wp2_with fail
              exact ⟨_, rfl, HJ.out.plain (i := 11) (by decide) (by decide) (by decide) (by decide) rfl (hC.out.trans (S' := fun _ => False) (Grows.of_below (Below.refl _ _)) (fun _ h => h.elim)) (fun h => h) (fun h => h) (fun h => h)⟩
            case o12 =>
              intro d0 ys wx hJ hdi hw hdeps
              have q11 : d0 11 = true := by simp [Region.Deps2, Go.Region.binds] at hdeps; simp [hdeps]
              have y11 : ys 92 = .pointer (some ⟨p', 0, none⟩) := hJ.val 11 (by decide) q11
              have qk : d0 4 = true := by simp [Region.Deps2, Go.Region.binds] at hdeps; simp [hdeps]
              clear hdeps
              have hC := Lib.hid hJ.com
              have hB := Lib.hid (hJ.m1 qk hdi)
              have HJ := Lib.hid hJ
              clear hJ hw
              rw [hFL2 ys]
              simp only [y11]
              with_reducible refine Exists.elim hB.out ?_
              intro Fz hz
              have hz1 := Lib.hid hz.1
              have hz2 := Lib.hid hz.2
              clear hz
              go_wp2_with (go_at_call 11; (with_reducible refine (HF2.out _ _ _ _ _ _ _ _ _ _ _ hz1.out).mono ?_); rintro e wy ⟨rfl, Gy, hy, ay⟩)
              exact ⟨_, rfl, HJ.out.turn2 (by decide) (by decide) (by decide) qk rfl (hz2.out.trans ay).grows ⟨Fz, Gy, hy, hz2.out.trans ay⟩⟩
            case o13 =>
              intro d0 ys wx hJ hdi hw hdeps
              have q4 : d0 4 = true := by simp [Region.Deps2, Go.Region.binds] at hdeps; simp [hdeps]
              have y4 : ys 85 = .int .i64 (rfK : Int) := hJ.val 4 (by decide) q4
              clear hdeps
              have hC := Lib.hid hJ.com
              have HJ := Lib.hid hJ
              clear hJ hw
              rw [hFL2 ys]
              simp only [y4]
              go_wp2_with fail
              exact ⟨_, rfl, HJ.out.plain (i := 13) (by decide) (by decide) (by decide) (by decide) rfl (hC.out.trans (S' := fun _ => False) (Grows.of_below (Below.refl _ _)) (fun _ h => h.elim)) (fun h => h) (fun h => h) (fun h => h)⟩
            case o14 =>
              intro d0 ys wx hJ hdi hw hdeps
              have q12 : d0 12 = true := by simp [Region.Deps2, Go.Region.binds] at hdeps; simp [hdeps]
              have y12 : ys 93 = .int .i64 (rfK : Int) := hJ.val 12 (by decide) q12
              clear hdeps
              have hC := Lib.hid hJ.com
              have HJ := Lib.hid hJ
              clear hJ hw
              rw [hFL2 ys]
              simp only [y12]
              go_wp2_with fail
              exact ⟨_, rfl, HJ.out.plain (i := 14) (by decide) (by decide) (by decide) (by decide) rfl (hC.out.trans (S' := fun _ => False) (Grows.of_below (Below.refl _ _)) (fun _ h => h.elim)) (fun h => h) (fun h => h) (fun h => h)⟩
          case donefa => as_aux_lemma =>
            intro d0 ys wx hJ hall
            have hM : ∃ F1 G1, Pair wx P p q t r p' q' rfX rfX F1 G1 ∧ After (both FL GL) wc wx (both F1 G1) := hJ.m2 (hall 12 (by decide))
            have h8 : ys 8 = .int .i64 (rfK : Int) := hJ.val 13 (by decide) (hall 13 (by decide))
            have h9 : ys 9 = .int .i64 (rfK : Int) := hJ.val 14 (by decide) (hall 14 (by decide))
            clear hJ hall
            with_reducible refine Exists.elim hM ?_
            intro F6 hM
            with_reducible refine Exists.elim hM ?_
            intro G6 hM2
            have H6 := Lib.hid hM2.1
            have A6 := Lib.hid hM2.2
            clear hM hM2
            rw [hFL2 ys]
            simp only [h8, h9]
            go_wp2
            go_meet
            case rel => exact ⟨rfK, 0, rfX, F6, G6, rfl, rfl, rfl, rfl, HX.out.next OKF.out H6.out A6.out⟩
        · have HRG := Lib.hid (HX.out.pair.rr.nt)
          go_wp2
          apply with_fill (slots [some 81, some 82, some 83, some 84, some 85, some 86, some 87, some 88, some 89, some 90, some 91, some 92, some 93, some 8, some 9])
          case hFL => intro ys; simp only [List.getD_cons_succ, List.getD_cons_zero, fill, slots, List.filterMap_cons, List.filterMap_nil, id, List.foldl_cons, List.foldl_nil, Act.put, List.setIfInBounds_toArray, List.set_cons_succ, List.set_cons_zero]; exact rfl
          intro hFL3
          refine wp_region_each3 [some 81, some 82, some 83, some 84, some 85, some 86, some 87, some 88, some 89, some 90, some 91, some 92, some 93, some 8, some 9] (TJ2 [81, 82, 83, 84, 85, 86, 87, 88, 89, 90, 91, 92, 93, 8, 9] [.pointer (some ⟨P, 0, none⟩), .pointer (some ⟨P, 0, none⟩), .pointer (some ⟨P, 2, none⟩), .pointer (some ⟨t, 0, none⟩), .int .i64 (rfK : Int), .pointer (some ⟨P, 0, none⟩), .pointer (some ⟨P, 0, none⟩), .pointer (some ⟨P, 3, none⟩), .pointer (some ⟨r, 0, none⟩), .pointer (some ⟨r, 0, none⟩), .pointer (some ⟨r, 0, none⟩), .pointer (some ⟨p', 0, none⟩), .int .i64 (rfK : Int), .int .i64 (rfK : Int), .int .i64 (rfK : Int)] 4 12 (fun wx => Grows (both FL GL) wc wx) (fun wx => Below wc.heap.size wc wx) (fun wx => ∃ F1, Pair wx P p q t r p' q' rfX x F1 GL ∧ After (both FL GL) wc wx (both F1 GL)) (fun wx => ∃ F1 G1, Pair wx P p q t r p' q' rfX rfX F1 G1 ∧ After (both FL GL) wc wx (both F1 G1))) (by kernel_rfl) (by kernel_rfl) (by simp [slots]) ?startfb ?eachfb ?donefb
          case startfb => exact ⟨by simp, by simp, Grows.of_below ((Below.refl _ _).drew), fun _ => (Below.refl _ _).drew, by simp, by simp⟩
          case eachfb => as_aux_lemma =>
            simp only [Each2]
            refine ⟨?o0, ?o1, ?o2, ?o3, ?o4, ?o5, ?o6, ?o7, ?o8, ?o9, ?o10, ?o11, ?o12, ?o13, ?o14, trivial⟩
            case o0 =>
              intro d0 ys wx hJ hdi hw hdeps
              clear hdeps
              have hC := Lib.hid hJ.com
              have HJ := Lib.hid hJ
              clear hJ hw
              rw [hFL3 ys]
              go_wp2_with fail
              exact ⟨_, rfl, HJ.out.plain (i := 0) (by decide) (by decide) (by decide) (by decide) rfl (hC.out.trans (S' := fun _ => False) (Grows.of_below (Below.refl _ _)) (fun _ h => h.elim)) (fun h => h) (fun h => h) (fun h => h)⟩
            case o1 =>
              intro d0 ys wx hJ hdi hw hdeps
              have q0 : d0 0 = true := by simp [Region.Deps2, Go.Region.binds] at hdeps; simp [hdeps]
              have y0 : ys 81 = .pointer (some ⟨P, 0, none⟩) := hJ.val 0 (by decide) q0
              clear hdeps
              have hC := Lib.hid hJ.com
              have HJ := Lib.hid hJ
              clear hJ hw
              rw [hFL3 ys]
              simp only [y0]
              go_wp2_with fail
              exact ⟨_, rfl, HJ.out.plain (i := 1) (by decide) (by decide) (by decide) (by decide) rfl (hC.out.trans (S' := fun _ => False) (Grows.of_below (Below.refl _ _)) (fun _ h => h.elim)) (fun h => h) (fun h => h) (fun h => h)⟩
            case o2 =>
              intro d0 ys wx hJ hdi hw hdeps
              have q1 : d0 1 = true := by simp [Region.Deps2, Go.Region.binds] at hdeps; simp [hdeps]
              have y1 : ys 82 = .pointer (some ⟨P, 0, none⟩) := hJ.val 1 (by decide) q1
              clear hdeps
              have hC := Lib.hid hJ.com
              have HJ := Lib.hid hJ
              clear hJ hw
              rw [hFL3 ys]
              simp only [y1]
              go_wp2_with fail
              exact ⟨_, rfl, HJ.out.plain (i := 2) (by decide) (by decide) (by decide) (by decide) rfl (hC.out.trans (S' := fun _ => False) (Grows.of_below (Below.refl _ _)) (fun _ h => h.elim)) (fun h => h) (fun h => h) (fun h => h)⟩
            case o3 =>
              intro d0 ys wx hJ hdi hw hdeps
              have q2 : d0 2 = true := by simp [Region.Deps2, Go.Region.binds] at hdeps; simp [hdeps]
              have y2 : ys 83 = .pointer (some ⟨P, 2, none⟩) := hJ.val 2 (by decide) q2
              clear hdeps
              have hC := Lib.hid hJ.com
              have vP := hC.out.var HX.out.pair.var (fun h => h.elim HX.out.pair.nF HX.out.pair.nG)
              have p0 := vP.cell (j := 0) rfl
              have p2 := vP.cell (j := 2) rfl
              have p3 := vP.cell (j := 3) rfl
              unfold ptr at p0 p2 p3
              clear vP
              have r0 := hC.out.cell (p := ⟨r, 0, none⟩) (HLO.out _ (Below.refl _ _)).2.2.2.2.1 (fun h => h.elim HX.out.pair.rF HRG.out)
              have HJ := Lib.hid hJ
              clear hJ hw
              rw [hFL3 ys]
              simp only [y2]
              go_wp2_with fail
              exact ⟨_, rfl, HJ.out.plain (i := 3) (by decide) (by decide) (by decide) (by decide) rfl (hC.out.trans (S' := fun _ => False) (Grows.of_below (Below.refl _ _)) (fun _ h => h.elim)) (fun h => h) (fun h => h) (fun h => h)⟩
            case o4 =>
              intro d0 ys wx hJ hdi hw hdeps
              have q3 : d0 3 = true := by simp [Region.Deps2, Go.Region.binds] at hdeps; simp [hdeps]
              have y3 : ys 84 = .pointer (some ⟨t, 0, none⟩) := hJ.val 3 (by decide) q3
              clear hdeps
              have hC := Lib.hid hJ.com
              have hB := Lib.hid (hJ.m0 hdi)
              have HJ := Lib.hid hJ
              clear hJ hw
              rw [hFL3 ys]
              simp only [y3]
              go_wp2_with (go_at_call 10; (with_reducible refine (HF1.out _ _ _ _ _ _ _ _ _ _ _ (HX.out.pair.below hB.out)).mono ?_); rintro e wy ⟨rfl, Fy, hy, ay⟩)
              exact ⟨_, rfl, HJ.out.turn (by decide) (by decide) (by decide) hdi rfl (hC.out.trans (S' := both FL GL) ay.grows (fun _ h => .inl h)) ⟨Fy, hy, After.trans (S1 := both FL GL) ⟨Grows.of_below hB.out, fun _ h => .inl h⟩ ay⟩⟩
            case o5 =>
              intro d0 ys wx hJ hdi hw hdeps
              clear hdeps
              have hC := Lib.hid hJ.com
              have HJ := Lib.hid hJ
              clear hJ hw
              rw [hFL3 ys]
              go_wp2_with fail
              exact ⟨_, rfl, HJ.out.plain (i := 5) (by decide) (by decide) (by decide) (by decide) rfl (hC.out.trans (S' := fun _ => False) (Grows.of_below (Below.refl _ _)) (fun _ h => h.elim)) (fun h => h) (fun h => h) (fun h => h)⟩
            case o6 =>
              intro d0 ys wx hJ hdi hw hdeps
              have q5 : d0 5 = true := by simp [Region.Deps2, Go.Region.binds] at hdeps; simp [hdeps]
              have y5 : ys 86 = .pointer (some ⟨P, 0, none⟩) := hJ.val 5 (by decide) q5
              clear hdeps
              have hC := Lib.hid hJ.com
              have HJ := Lib.hid hJ
              clear hJ hw
              rw [hFL3 ys]
              simp only [y5]
              go_wp2_with fail
              exact ⟨_, rfl, HJ.out.plain (i := 6) (by decide) (by decide) (by decide) (by decide) rfl (hC.out.trans (S' := fun _ => False) (Grows.of_below (Below.refl _ _)) (fun _ h => h.elim)) (fun h => h) (fun h => h) (fun h => h)⟩
            case o7 =>
              intro d0 ys wx hJ hdi hw hdeps
              have q6 : d0 6 = true := by simp [Region.Deps2, Go.Region.binds] at hdeps; simp [hdeps]
              have y6 : ys 87 = .pointer (some ⟨P, 0, none⟩) := hJ.val 6 (by decide) q6
              clear hdeps
              have hC := Lib.hid hJ.com
              have HJ := Lib.hid hJ
              clear hJ hw
              rw [hFL3 ys]
              simp only [y6]
              go_wp2_with fail
              exact ⟨_, rfl, HJ.out.plain (i := 7) (by decide) (by decide) (by decide) (by decide) rfl (hC.out.trans (S' := fun _ => False) (Grows.of_below (Below.refl _ _)) (fun _ h => h.elim)) (fun h => h) (fun h => h) (fun h => h)⟩
            case o8 =>
              intro d0 ys wx hJ hdi hw hdeps
              have q7 : d0 7 = true := by simp [Region.Deps2, Go.Region.binds] at hdeps; simp [hdeps]
              have y7 : ys 88 = .pointer (some ⟨P, 3, none⟩) := hJ.val 7 (by decide) q7
              clear hdeps
              have hC := Lib.hid hJ.com
              have vP := hC.out.var HX.out.pair.var (fun h => h.elim HX.out.pair.nF HX.out.pair.nG)
              have p0 := vP.cell (j := 0) rfl
              have p2 := vP.cell (j := 2) rfl
              have p3 := vP.cell (j := 3) rfl
              unfold ptr at p0 p2 p3
              clear vP
              have r0 := hC.out.cell (p := ⟨r, 0, none⟩) (HLO.out _ (Below.refl _ _)).2.2.2.2.1 (fun h => h.elim HX.out.pair.rF HRG.out)
              have HJ := Lib.hid hJ
              clear hJ hw
              rw [hFL3 ys]
              simp only [y7]
              go_wp2_with fail
              exact ⟨_, rfl, HJ.out.plain (i := 8) (by decide) (by decide) (by decide) (by decide) rfl (hC.out.trans (S' := fun _ => False) (Grows.of_below (Below.refl _ _)) (fun _ h => h.elim)) (fun h => h) (fun h => h) (fun h => h)⟩
            case o9 =>
              intro d0 ys wx hJ hdi hw hdeps
              have q8 : d0 8 = true := by simp [Region.Deps2, Go.Region.binds] at hdeps; simp [hdeps]
              have y8 : ys 89 = .pointer (some ⟨r, 0, none⟩) := hJ.val 8 (by decide) q8
              clear hdeps
              have hC := Lib.hid hJ.com
              have HJ := Lib.hid hJ
              clear hJ hw
              rw [hFL3 ys]
              simp only [y8]
              go_wp2_with fail
              exact ⟨_, rfl, HJ.out.plain (i := 9) (by decide) (by decide) (by decide) (by decide) rfl (hC.out.trans (S' := fun _ => False) (Grows.of_below (Below.refl _ _)) (fun _ h => h.elim)) (fun h => h) (fun h => h) (fun h => h)⟩
            case o10 =>
              intro d0 ys wx hJ hdi hw hdeps
              have q9 : d0 9 = true := by simp [Region.Deps2, Go.Region.binds] at hdeps; simp [hdeps]
              have y9 : ys 90 = .pointer (some ⟨r, 0, none⟩) := hJ.val 9 (by decide) q9
              clear hdeps
              have hC := Lib.hid hJ.com
              have HJ := Lib.hid hJ
              clear hJ hw
              rw [hFL3 ys]
              simp only [y9]
              go_wp2_with fail
              exact ⟨_, rfl, HJ.out.plain (i := 10) (by decide) (by decide) (by decide) (by decide) rfl (hC.out.trans (S' := fun _ => False) (Grows.of_below (Below.refl _ _)) (fun _ h => h.elim)) (fun h => h) (fun h => h) (fun h => h)⟩
            case o11 =>
              intro d0 ys wx hJ hdi hw hdeps
              have q10 : d0 10 = true := by simp [Region.Deps2, Go.Region.binds] at hdeps; simp [hdeps]
              have y10 : ys 91 = .pointer (some ⟨r, 0, none⟩) := hJ.val 10 (by decide) q10
              clear hdeps
              have hC := Lib.hid hJ.com
              have vP := hC.out.var HX.out.pair.var (fun h => h.elim HX.out.pair.nF HX.out.pair.nG)
              have p0 := vP.cell (j := 0) rfl
              have p2 := vP.cell (j := 2) rfl
              have p3 := vP.cell (j := 3) rfl
              unfold ptr at p0 p2 p3
              clear vP
              have r0 := hC.out.cell (p := ⟨r, 0, none⟩) (HLO.out _ (Below.refl _ _)).2.2.2.2.1 (fun h => h.elim HX.out.pair.rF HRG.out)
              have HJ := Lib.hid hJ
              clear hJ hw
              rw [hFL3 ys]
              simp only [y10]
              go_wp2_with fail
              exact ⟨_, rfl, HJ.out.plain (i := 11) (by decide) (by decide) (by decide) (by decide) rfl (hC.out.trans (S' := fun _ => False) (Grows.of_below (Below.refl _ _)) (fun _ h => h.elim)) (fun h => h) (fun h => h) (fun h => h)⟩
            case o12 =>
              intro d0 ys wx hJ hdi hw hdeps
              have q11 : d0 11 = true := by simp [Region.Deps2, Go.Region.binds] at hdeps; simp [hdeps]
              have y11 : ys 92 = .pointer (some ⟨p', 0, none⟩) := hJ.val 11 (by decide) q11
              have qk : d0 4 = true := by simp [Region.Deps2, Go.Region.binds] at hdeps; simp [hdeps]
              clear hdeps
              have hC := Lib.hid hJ.com
              have hB := Lib.hid (hJ.m1 qk hdi)
              have HJ := Lib.hid hJ
              clear hJ hw
              rw [hFL3 ys]
              simp only [y11]
              with_reducible refine Exists.elim hB.out ?_
              intro Fz hz
              have hz1 := Lib.hid hz.1
              have hz2 := Lib.hid hz.2
              clear hz
              go_wp2_with (go_at_call 11; (with_reducible refine (HF2.out _ _ _ _ _ _ _ _ _ _ _ hz1.out).mono ?_); rintro e wy ⟨rfl, Gy, hy, ay⟩)
              exact ⟨_, rfl, HJ.out.turn2 (by decide) (by decide) (by decide) qk rfl (hz2.out.trans ay).grows ⟨Fz, Gy, hy, hz2.out.trans ay⟩⟩
            case o13 =>
              intro d0 ys wx hJ hdi hw hdeps
              have q4 : d0 4 = true := by simp [Region.Deps2, Go.Region.binds] at hdeps; simp [hdeps]
              have y4 : ys 85 = .int .i64 (rfK : Int) := hJ.val 4 (by decide) q4
              clear hdeps
              have hC := Lib.hid hJ.com
              have HJ := Lib.hid hJ
              clear hJ hw
              rw [hFL3 ys]
              simp only [y4]
              go_wp2_with fail
              exact ⟨_, rfl, HJ.out.plain (i := 13) (by decide) (by decide) (by decide) (by decide) rfl (hC.out.trans (S' := fun _ => False) (Grows.of_below (Below.refl _ _)) (fun _ h => h.elim)) (fun h => h) (fun h => h) (fun h => h)⟩
            case o14 =>
              intro d0 ys wx hJ hdi hw hdeps
              have q12 : d0 12 = true := by simp [Region.Deps2, Go.Region.binds] at hdeps; simp [hdeps]
              have y12 : ys 93 = .int .i64 (rfK : Int) := hJ.val 12 (by decide) q12
              clear hdeps
              have hC := Lib.hid hJ.com
              have HJ := Lib.hid hJ
              clear hJ hw
              rw [hFL3 ys]
              simp only [y12]
              go_wp2_with fail
              exact ⟨_, rfl, HJ.out.plain (i := 14) (by decide) (by decide) (by decide) (by decide) rfl (hC.out.trans (S' := fun _ => False) (Grows.of_below (Below.refl _ _)) (fun _ h => h.elim)) (fun h => h) (fun h => h) (fun h => h)⟩
          case donefb => as_aux_lemma =>
            intro d0 ys wx hJ hall
            have hM : ∃ F1 G1, Pair wx P p q t r p' q' rfX rfX F1 G1 ∧ After (both FL GL) wc wx (both F1 G1) := hJ.m2 (hall 12 (by decide))
            have h8 : ys 8 = .int .i64 (rfK : Int) := hJ.val 13 (by decide) (hall 13 (by decide))
            have h9 : ys 9 = .int .i64 (rfK : Int) := hJ.val 14 (by decide) (hall 14 (by decide))
            clear hJ hall
            with_reducible refine Exists.elim hM ?_
            intro F6 hM
            with_reducible refine Exists.elim hM ?_
            intro G6 hM2
            have H6 := Lib.hid hM2.1
            have A6 := Lib.hid hM2.2
            clear hM hM2
            rw [hFL3 ys]
            simp only [h8, h9]
            go_wp2
            go_meet
            case rel => exact ⟨rfK, 0, rfX, F6, G6, rfl, rfl, rfl, rfl, HX.out.next OKF.out H6.out A6.out⟩
        · have HRG := Lib.hid (HX.out.pair.rr.nt)
          cases tn with
          | false =>
            have her1 := fun w P p q t r p' q' y F G (h : Pair w P p q t r p' q' x y F G) => pErase h HX.out.ok ta
            have her2 := fun w P p q t r p' q' y F G (h : Pair w P p q t r p' q' y x F G) => rTErase h HX.out.ok ta
            have OKE := Lib.hid (erase_ok HX.out.ok ta)
            generalize eraseT x ta = re at her1 her2 OKE
            obtain ⟨reK, reX⟩ := re
            simp only at her1 her2 OKE
            have HE1 := Lib.hid her1
            have HE2 := Lib.hid her2
            clear her1 her2
            have cc := HCELL.out _ HX.out.bel
            have s1 := cc.2.1
            have s6 := cc.2.2.2.2.2.2
            clear cc
            go_wp2
            clear s1 s6
            apply with_fill (slots [some 110, some 111, some 112, some 113, some 114, some 115, some 116, some 117, some 118, some 119, some 120, some 121, some 8, some 9])
            case hFL => intro ys; simp only [List.getD_cons_succ, List.getD_cons_zero, fill, slots, List.filterMap_cons, List.filterMap_nil, id, List.foldl_cons, List.foldl_nil, Act.put, List.setIfInBounds_toArray, List.set_cons_succ, List.set_cons_zero]; exact rfl
            intro hFL4
            refine wp_region_each3 [some 110, some 111, some 112, some 113, some 114, some 115, some 116, some 117, some 118, some 119, some 120, some 121, some 8, some 9] (TJ2 [110, 111, 112, 113, 114, 115, 116, 117, 118, 119, 120, 121, 8, 9] [.pointer (some ⟨P, 0, none⟩), .pointer (some ⟨P, 0, none⟩), .pointer (some ⟨P, 2, none⟩), .pointer (some ⟨t, 0, none⟩), .int .i64 ta, .int .i64 (reK : Int), .pointer (some ⟨P, 0, none⟩), .pointer (some ⟨P, 0, none⟩), .pointer (some ⟨P, 3, none⟩), .pointer (some ⟨r, 0, none⟩), .int .i64 ta, .int .i64 (reK : Int), .int .i64 (reK : Int), .int .i64 (reK : Int)] 5 11 (fun wx => Grows (both FL GL) wc wx) (fun wx => Below wc.heap.size wc wx) (fun wx => ∃ F1, Pair wx P p q t r p' q' reX x F1 GL ∧ After (both FL GL) wc wx (both F1 GL)) (fun wx => ∃ F1 G1, Pair wx P p q t r p' q' reX reX F1 G1 ∧ After (both FL GL) wc wx (both F1 G1))) (by kernel_rfl) (by kernel_rfl) (by simp [slots]) ?startef ?eachef ?doneef
            case startef => exact ⟨by simp, by simp, Grows.of_below ((Below.refl _ _).drew), fun _ => (Below.refl _ _).drew, by simp, by simp⟩
            case eachef => as_aux_lemma =>
              simp only [Each2]
              refine ⟨?o0, ?o1, ?o2, ?o3, ?o4, ?o5, ?o6, ?o7, ?o8, ?o9, ?o10, ?o11, ?o12, ?o13, trivial⟩
              case o0 =>
                intro d0 ys wx hJ hdi hw hdeps
                clear hdeps
                have hC := Lib.hid hJ.com
                have HJ := Lib.hid hJ
                clear hJ hw
                rw [hFL4 ys]
                go_wp2_with fail
                exact ⟨_, rfl, HJ.out.plain (i := 0) (by decide) (by decide) (by decide) (by decide) rfl (hC.out.trans (S' := fun _ => False) (Grows.of_below (Below.refl _ _)) (fun _ h => h.elim)) (fun h => h) (fun h => h) (fun h => h)⟩
              case o1 =>
                intro d0 ys wx hJ hdi hw hdeps
                have q0 : d0 0 = true := by simp [Region.Deps2, Go.Region.binds] at hdeps; simp [hdeps]
                have y0 : ys 110 = .pointer (some ⟨P, 0, none⟩) := hJ.val 0 (by decide) q0
                clear hdeps
                have hC := Lib.hid hJ.com
                have HJ := Lib.hid hJ
                clear hJ hw
                rw [hFL4 ys]
                simp only [y0]
                go_wp2_with fail
                exact ⟨_, rfl, HJ.out.plain (i := 1) (by decide) (by decide) (by decide) (by decide) rfl (hC.out.trans (S' := fun _ => False) (Grows.of_below (Below.refl _ _)) (fun _ h => h.elim)) (fun h => h) (fun h => h) (fun h => h)⟩
              case o2 =>
                intro d0 ys wx hJ hdi hw hdeps
                have q1 : d0 1 = true := by simp [Region.Deps2, Go.Region.binds] at hdeps; simp [hdeps]
                have y1 : ys 111 = .pointer (some ⟨P, 0, none⟩) := hJ.val 1 (by decide) q1
                clear hdeps
                have hC := Lib.hid hJ.com
                have HJ := Lib.hid hJ
                clear hJ hw
                rw [hFL4 ys]
                simp only [y1]
                go_wp2_with fail
                exact ⟨_, rfl, HJ.out.plain (i := 2) (by decide) (by decide) (by decide) (by decide) rfl (hC.out.trans (S' := fun _ => False) (Grows.of_below (Below.refl _ _)) (fun _ h => h.elim)) (fun h => h) (fun h => h) (fun h => h)⟩
              case o3 =>
                intro d0 ys wx hJ hdi hw hdeps
                have q2 : d0 2 = true := by simp [Region.Deps2, Go.Region.binds] at hdeps; simp [hdeps]
                have y2 : ys 112 = .pointer (some ⟨P, 2, none⟩) := hJ.val 2 (by decide) q2
                clear hdeps
                have hC := Lib.hid hJ.com
                have vP := hC.out.var HX.out.pair.var (fun h => h.elim HX.out.pair.nF HX.out.pair.nG)
                have p0 := vP.cell (j := 0) rfl
                have p2 := vP.cell (j := 2) rfl
                have p3 := vP.cell (j := 3) rfl
                unfold ptr at p0 p2 p3
                clear vP
                have r0 := hC.out.cell (p := ⟨r, 0, none⟩) (HLO.out _ (Below.refl _ _)).2.2.2.2.1 (fun h => h.elim HX.out.pair.rF HRG.out)
                have HJ := Lib.hid hJ
                clear hJ hw
                rw [hFL4 ys]
                simp only [y2]
                go_wp2_with fail
                exact ⟨_, rfl, HJ.out.plain (i := 3) (by decide) (by decide) (by decide) (by decide) rfl (hC.out.trans (S' := fun _ => False) (Grows.of_below (Below.refl _ _)) (fun _ h => h.elim)) (fun h => h) (fun h => h) (fun h => h)⟩
              case o4 =>
                intro d0 ys wx hJ hdi hw hdeps
                clear hdeps
                have hC := Lib.hid hJ.com
                have HJ := Lib.hid hJ
                clear hJ hw
                rw [hFL4 ys]
                go_wp2_with fail
                exact ⟨_, rfl, HJ.out.plain (i := 4) (by decide) (by decide) (by decide) (by decide) rfl (hC.out.trans (S' := fun _ => False) (Grows.of_below (Below.refl _ _)) (fun _ h => h.elim)) (fun h => h) (fun h => h) (fun h => h)⟩
              case o5 =>
                intro d0 ys wx hJ hdi hw hdeps
                have q3 : d0 3 = true := by simp [Region.Deps2, Go.Region.binds] at hdeps; simp [hdeps]
                have y3 : ys 113 = .pointer (some ⟨t, 0, none⟩) := hJ.val 3 (by decide) q3
                have q4 : d0 4 = true := by simp [Region.Deps2, Go.Region.binds] at hdeps; simp [hdeps]
                have y4 : ys 114 = .int .i64 ta := hJ.val 4 (by decide) q4
                clear hdeps
                have hC := Lib.hid hJ.com
                have hB := Lib.hid (hJ.m0 hdi)
                have HJ := Lib.hid hJ
                clear hJ hw
                rw [hFL4 ys]
                simp only [y3, y4]
                go_wp2_with (go_at_call 12; (with_reducible refine (HE1.out _ _ _ _ _ _ _ _ _ _ _ (HX.out.pair.below hB.out)).mono ?_); rintro e wy ⟨rfl, Fy, hy, ay⟩)
                exact ⟨_, rfl, HJ.out.turn (by decide) (by decide) (by decide) hdi rfl (hC.out.trans (S' := both FL GL) ay.grows (fun _ h => .inl h)) ⟨Fy, hy, After.trans (S1 := both FL GL) ⟨Grows.of_below hB.out, fun _ h => .inl h⟩ ay⟩⟩
              case o6 =>
                intro d0 ys wx hJ hdi hw hdeps
                clear hdeps
                have hC := Lib.hid hJ.com
                have HJ := Lib.hid hJ
                clear hJ hw
                rw [hFL4 ys]
                go_wp2_with fail
                exact ⟨_, rfl, HJ.out.plain (i := 6) (by decide) (by decide) (by decide) (by decide) rfl (hC.out.trans (S' := fun _ => False) (Grows.of_below (Below.refl _ _)) (fun _ h => h.elim)) (fun h => h) (fun h => h) (fun h => h)⟩
              case o7 =>
                intro d0 ys wx hJ hdi hw hdeps
                have q6 : d0 6 = true := by simp [Region.Deps2, Go.Region.binds] at hdeps; simp [hdeps]
                have y6 : ys 116 = .pointer (some ⟨P, 0, none⟩) := hJ.val 6 (by decide) q6
                clear hdeps
                have hC := Lib.hid hJ.com
                have HJ := Lib.hid hJ
                clear hJ hw
                rw [hFL4 ys]
                simp only [y6]
                go_wp2_with fail
                exact ⟨_, rfl, HJ.out.plain (i := 7) (by decide) (by decide) (by decide) (by decide) rfl (hC.out.trans (S' := fun _ => False) (Grows.of_below (Below.refl _ _)) (fun _ h => h.elim)) (fun h => h) (fun h => h) (fun h => h)⟩
              case o8 =>
                intro d0 ys wx hJ hdi hw hdeps
                have q7 : d0 7 = true := by simp [Region.Deps2, Go.Region.binds] at hdeps; simp [hdeps]
                have y7 : ys 117 = .pointer (some ⟨P, 0, none⟩) := hJ.val 7 (by decide) q7
                clear hdeps
                have hC := Lib.hid hJ.com
                have HJ := Lib.hid hJ
                clear hJ hw
                rw [hFL4 ys]
                simp only [y7]
                go_wp2_with fail
                exact ⟨_, rfl, HJ.out.plain (i := 8) (by decide) (by decide) (by decide) (by decide) rfl (hC.out.trans (S' := fun _ => False) (Grows.of_below (Below.refl _ _)) (fun _ h => h.elim)) (fun h => h) (fun h => h) (fun h => h)⟩
              case o9 =>
                intro d0 ys wx hJ hdi hw hdeps
                have q8 : d0 8 = true := by simp [Region.Deps2, Go.Region.binds] at hdeps; simp [hdeps]
                have y8 : ys 118 = .pointer (some ⟨P, 3, none⟩) := hJ.val 8 (by decide) q8
                clear hdeps
                have hC := Lib.hid hJ.com
                have vP := hC.out.var HX.out.pair.var (fun h => h.elim HX.out.pair.nF HX.out.pair.nG)
                have p0 := vP.cell (j := 0) rfl
                have p2 := vP.cell (j := 2) rfl
                have p3 := vP.cell (j := 3) rfl
                unfold ptr at p0 p2 p3
                clear vP
                have r0 := hC.out.cell (p := ⟨r, 0, none⟩) (HLO.out _ (Below.refl _ _)).2.2.2.2.1 (fun h => h.elim HX.out.pair.rF HRG.out)
                have HJ := Lib.hid hJ
                clear hJ hw
                rw [hFL4 ys]
                simp only [y8]
                go_wp2_with fail
                exact ⟨_, rfl, HJ.out.plain (i := 9) (by decide) (by decide) (by decide) (by decide) rfl (hC.out.trans (S' := fun _ => False) (Grows.of_below (Below.refl _ _)) (fun _ h => h.elim)) (fun h => h) (fun h => h) (fun h => h)⟩
              case o10 =>
                intro d0 ys wx hJ hdi hw hdeps
                clear hdeps
                have hC := Lib.hid hJ.com
                have HJ := Lib.hid hJ
                clear hJ hw
                rw [hFL4 ys]
                go_wp2_with fail
                exact ⟨_, rfl, HJ.out.plain (i := 10) (by decide) (by decide) (by decide) (by decide) rfl (hC.out.trans (S' := fun _ => False) (Grows.of_below (Below.refl _ _)) (fun _ h => h.elim)) (fun h => h) (fun h => h) (fun h => h)⟩
              case o11 =>
                intro d0 ys wx hJ hdi hw hdeps
                have q9 : d0 9 = true := by simp [Region.Deps2, Go.Region.binds] at hdeps; simp [hdeps]
                have y9 : ys 119 = .pointer (some ⟨r, 0, none⟩) := hJ.val 9 (by decide) q9
                have q10 : d0 10 = true := by simp [Region.Deps2, Go.Region.binds] at hdeps; simp [hdeps]
                have y10 : ys 120 = .int .i64 ta := hJ.val 10 (by decide) q10
                have qk : d0 5 = true := by simp [Region.Deps2, Go.Region.binds] at hdeps; simp [hdeps]
                clear hdeps
                have hC := Lib.hid hJ.com
                have hB := Lib.hid (hJ.m1 qk hdi)
                have HJ := Lib.hid hJ
                clear hJ hw
                rw [hFL4 ys]
                simp only [y9, y10]
                with_reducible refine Exists.elim hB.out ?_
                intro Fz hz
                have hz1 := Lib.hid hz.1
                have hz2 := Lib.hid hz.2
                clear hz
                go_wp2_with (go_at_call 13; (with_reducible refine (HE2.out _ _ _ _ _ _ _ _ _ _ _ hz1.out).mono ?_); rintro e wy ⟨rfl, Gy, hy, ay⟩)
                exact ⟨_, rfl, HJ.out.turn2 (by decide) (by decide) (by decide) qk rfl (hz2.out.trans ay).grows ⟨Fz, Gy, hy, hz2.out.trans ay⟩⟩
              case o12 =>
                intro d0 ys wx hJ hdi hw hdeps
                have q5 : d0 5 = true := by simp [Region.Deps2, Go.Region.binds] at hdeps; simp [hdeps]
                have y5 : ys 115 = .int .i64 (reK : Int) := hJ.val 5 (by decide) q5
                clear hdeps
                have hC := Lib.hid hJ.com
                have HJ := Lib.hid hJ
                clear hJ hw
                rw [hFL4 ys]
                simp only [y5]
                go_wp2_with fail
                exact ⟨_, rfl, HJ.out.plain (i := 12) (by decide) (by decide) (by decide) (by decide) rfl (hC.out.trans (S' := fun _ => False) (Grows.of_below (Below.refl _ _)) (fun _ h => h.elim)) (fun h => h) (fun h => h) (fun h => h)⟩
              case o13 =>
                intro d0 ys wx hJ hdi hw hdeps
                have q11 : d0 11 = true := by simp [Region.Deps2, Go.Region.binds] at hdeps; simp [hdeps]
                have y11 : ys 121 = .int .i64 (reK : Int) := hJ.val 11 (by decide) q11
                clear hdeps
                have hC := Lib.hid hJ.com
                have HJ := Lib.hid hJ
                clear hJ hw
                rw [hFL4 ys]
                simp only [y11]
                go_wp2_with fail
                exact ⟨_, rfl, HJ.out.plain (i := 13) (by decide) (by decide) (by decide) (by decide) rfl (hC.out.trans (S' := fun _ => False) (Grows.of_below (Below.refl _ _)) (fun _ h => h.elim)) (fun h => h) (fun h => h) (fun h => h)⟩
            case doneef => as_aux_lemma =>
              intro d0 ys wx hJ hall
              have hM : ∃ F1 G1, Pair wx P p q t r p' q' reX reX F1 G1 ∧ After (both FL GL) wc wx (both F1 G1) := hJ.m2 (hall 11 (by decide))
              have h8 : ys 8 = .int .i64 (reK : Int) := hJ.val 12 (by decide) (hall 12 (by decide))
              have h9 : ys 9 = .int .i64 (reK : Int) := hJ.val 13 (by decide) (hall 13 (by decide))
              clear hJ hall
              with_reducible refine Exists.elim hM ?_
              intro F6 hM
              with_reducible refine Exists.elim hM ?_
              intro G6 hM2
              have H6 := Lib.hid hM2.1
              have A6 := Lib.hid hM2.2
              clear hM hM2
              rw [hFL4 ys]
              simp only [h8, h9]
              go_wp2
              go_meet
              case rel => exact ⟨reK, 0, reX, F6, G6, rfl, rfl, rfl, rfl, HX.out.next OKE.out H6.out A6.out⟩
          | true =>
            obtain ⟨kn, hkn⟩ : ∃ kn, kn = ta % (rgs : Int) := ⟨_, rfl⟩
            have HPR := Lib.hid (fun w => Book.pick_any ta rgs (by omega) (by omega) w)
            rw [← hkn] at HPR
            clear hkn
            have her1 := fun w P p q t r p' q' y F G (h : Pair w P p q t r p' q' x y F G) => pErase h HX.out.ok kn
            have her2 := fun w P p q t r p' q' y F G (h : Pair w P p q t r p' q' y x F G) => rTErase h HX.out.ok kn
            have OKE := Lib.hid (erase_ok HX.out.ok kn)
            generalize eraseT x kn = re at her1 her2 OKE
            obtain ⟨reK, reX⟩ := re
            simp only at her1 her2 OKE
            have HE1 := Lib.hid her1
            have HE2 := Lib.hid her2
            clear her1 her2
            have cc := HCELL.out _ HX.out.bel
            have s1 := cc.2.1
            have s6 := cc.2.2.2.2.2.2
            clear cc
            have g2 := HX.out.geo.cell (j := 2) rfl
            go_wp2_with (go_at_call 7; (with_reducible refine (HPR.out _).mono ?_); rintro e wz ⟨rfl, rfl⟩)
            clear s1 s6 g2
            apply with_fill (slots [some 110, some 111, some 112, some 113, some 114, some 115, some 116, some 117, some 118, some 119, some 120, some 121, some 8, some 9])
            case hFL => intro ys; simp only [List.getD_cons_succ, List.getD_cons_zero, fill, slots, List.filterMap_cons, List.filterMap_nil, id, List.foldl_cons, List.foldl_nil, Act.put, List.setIfInBounds_toArray, List.set_cons_succ, List.set_cons_zero]; exact rfl
            intro hFL5
            refine wp_region_each3 [some 110, some 111, some 112, some 113, some 114, some 115, some 116, some 117, some 118, some 119, some 120, some 121, some 8, some 9] (TJ2 [110, 111, 112, 113, 114, 115, 116, 117, 118, 119, 120, 121, 8, 9] [.pointer (some ⟨P, 0, none⟩), .pointer (some ⟨P, 0, none⟩), .pointer (some ⟨P, 2, none⟩), .pointer (some ⟨t, 0, none⟩), .int .i64 kn, .int .i64 (reK : Int), .pointer (some ⟨P, 0, none⟩), .pointer (some ⟨P, 0, none⟩), .pointer (some ⟨P, 3, none⟩), .pointer (some ⟨r, 0, none⟩), .int .i64 kn, .int .i64 (reK : Int), .int .i64 (reK : Int), .int .i64 (reK : Int)] 5 11 (fun wx => Grows (both FL GL) wc wx) (fun wx => Below wc.heap.size wc wx) (fun wx => ∃ F1, Pair wx P p q t r p' q' reX x F1 GL ∧ After (both FL GL) wc wx (both F1 GL)) (fun wx => ∃ F1 G1, Pair wx P p q t r p' q' reX reX F1 G1 ∧ After (both FL GL) wc wx (both F1 G1))) (by kernel_rfl) (by kernel_rfl) (by simp [slots]) ?startet ?eachet ?doneet
            case startet => exact ⟨by simp, by simp, Grows.of_below ((Below.refl _ _).drew), fun _ => (Below.refl _ _).drew, by simp, by simp⟩
            case eachet => as_aux_lemma =>
              simp only [Each2]
              refine ⟨?o0, ?o1, ?o2, ?o3, ?o4, ?o5, ?o6, ?o7, ?o8, ?o9, ?o10, ?o11, ?o12, ?o13, trivial⟩
              case o0 =>
                intro d0 ys wx hJ hdi hw hdeps
                clear hdeps
                have hC := Lib.hid hJ.com
                have HJ := Lib.hid hJ
                clear hJ hw
                rw [hFL5 ys]
                go_wp2_with fail
                exact ⟨_, rfl, HJ.out.plain (i := 0) (by decide) (by decide) (by decide) (by decide) rfl (hC.out.trans (S' := fun _ => False) (Grows.of_below (Below.refl _ _)) (fun _ h => h.elim)) (fun h => h) (fun h => h) (fun h => h)⟩
              case o1 =>
                intro d0 ys wx hJ hdi hw hdeps
                have q0 : d0 0 = true := by simp [Region.Deps2, Go.Region.binds] at hdeps; simp [hdeps]
                have y0 : ys 110 = .pointer (some ⟨P, 0, none⟩) := hJ.val 0 (by decide) q0
                clear hdeps
                have hC := Lib.hid hJ.com
                have HJ := Lib.hid hJ
                clear hJ hw
                rw [hFL5 ys]
                simp only [y0]
                go_wp2_with fail
                exact ⟨_, rfl, HJ.out.plain (i := 1) (by decide) (by decide) (by decide) (by decide) rfl (hC.out.trans (S' := fun _ => False) (Grows.of_below (Below.refl _ _)) (fun _ h => h.elim)) (fun h => h) (fun h => h) (fun h => h)⟩
              case o2 =>
                intro d0 ys wx hJ hdi hw hdeps
                have q1 : d0 1 = true := by simp [Region.Deps2, Go.Region.binds] at hdeps; simp [hdeps]
                have y1 : ys 111 = .pointer (some ⟨P, 0, none⟩) := hJ.val 1 (by decide) q1
                clear hdeps
                have hC := Lib.hid hJ.com
                have HJ := Lib.hid hJ
                clear hJ hw
                rw [hFL5 ys]
                simp only [y1]
                go_wp2_with fail
                exact ⟨_, rfl, HJ.out.plain (i := 2) (by decide) (by decide) (by decide) (by decide) rfl (hC.out.trans (S' := fun _ => False) (Grows.of_below (Below.refl _ _)) (fun _ h => h.elim)) (fun h => h) (fun h => h) (fun h => h)⟩
              case o3 =>
                intro d0 ys wx hJ hdi hw hdeps
                have q2 : d0 2 = true := by simp [Region.Deps2, Go.Region.binds] at hdeps; simp [hdeps]
                have y2 : ys 112 = .pointer (some ⟨P, 2, none⟩) := hJ.val 2 (by decide) q2
                clear hdeps
                have hC := Lib.hid hJ.com
                have vP := hC.out.var HX.out.pair.var (fun h => h.elim HX.out.pair.nF HX.out.pair.nG)
                have p0 := vP.cell (j := 0) rfl
                have p2 := vP.cell (j := 2) rfl
                have p3 := vP.cell (j := 3) rfl
                unfold ptr at p0 p2 p3
                clear vP
                have r0 := hC.out.cell (p := ⟨r, 0, none⟩) (HLO.out _ (Below.refl _ _)).2.2.2.2.1 (fun h => h.elim HX.out.pair.rF HRG.out)
                have HJ := Lib.hid hJ
                clear hJ hw
                rw [hFL5 ys]
                simp only [y2]
                go_wp2_with fail
                exact ⟨_, rfl, HJ.out.plain (i := 3) (by decide) (by decide) (by decide) (by decide) rfl (hC.out.trans (S' := fun _ => False) (Grows.of_below (Below.refl _ _)) (fun _ h => h.elim)) (fun h => h) (fun h => h) (fun h => h)⟩
              case o4 =>
                intro d0 ys wx hJ hdi hw hdeps
                clear hdeps
                have hC := Lib.hid hJ.com
                have HJ := Lib.hid hJ
                clear hJ hw
                rw [hFL5 ys]
                go_wp2_with fail
                exact ⟨_, rfl, HJ.out.plain (i := 4) (by decide) (by decide) (by decide) (by decide) rfl (hC.out.trans (S' := fun _ => False) (Grows.of_below (Below.refl _ _)) (fun _ h => h.elim)) (fun h => h) (fun h => h) (fun h => h)⟩
              case o5 =>
                intro d0 ys wx hJ hdi hw hdeps
                have q3 : d0 3 = true := by simp [Region.Deps2, Go.Region.binds] at hdeps; simp [hdeps]
                have y3 : ys 113 = .pointer (some ⟨t, 0, none⟩) := hJ.val 3 (by decide) q3
                have q4 : d0 4 = true := by simp [Region.Deps2, Go.Region.binds] at hdeps; simp [hdeps]
                have y4 : ys 114 = .int .i64 kn := hJ.val 4 (by decide) q4
                clear hdeps
                have hC := Lib.hid hJ.com
                have hB := Lib.hid (hJ.m0 hdi)
                have HJ := Lib.hid hJ
                clear hJ hw
                rw [hFL5 ys]
                simp only [y3, y4]
                go_wp2_with (go_at_call 12; (with_reducible refine (HE1.out _ _ _ _ _ _ _ _ _ _ _ (HX.out.pair.below hB.out)).mono ?_); rintro e wy ⟨rfl, Fy, hy, ay⟩)
                exact ⟨_, rfl, HJ.out.turn (by decide) (by decide) (by decide) hdi rfl (hC.out.trans (S' := both FL GL) ay.grows (fun _ h => .inl h)) ⟨Fy, hy, After.trans (S1 := both FL GL) ⟨Grows.of_below hB.out, fun _ h => .inl h⟩ ay⟩⟩
              case o6 =>
                intro d0 ys wx hJ hdi hw hdeps
                clear hdeps
                have hC := Lib.hid hJ.com
                have HJ := Lib.hid hJ
                clear hJ hw
                rw [hFL5 ys]
                go_wp2_with fail
                exact ⟨_, rfl, HJ.out.plain (i := 6) (by decide) (by decide) (by decide) (by decide) rfl (hC.out.trans (S' := fun _ => False) (Grows.of_below (Below.refl _ _)) (fun _ h => h.elim)) (fun h => h) (fun h => h) (fun h => h)⟩
              case o7 =>
                intro d0 ys wx hJ hdi hw hdeps
                have q6 : d0 6 = true := by simp [Region.Deps2, Go.Region.binds] at hdeps; simp [hdeps]
                have y6 : ys 116 = .pointer (some ⟨P, 0, none⟩) := hJ.val 6 (by decide) q6
                clear hdeps
                have hC := Lib.hid hJ.com
                have HJ := Lib.hid hJ
                clear hJ hw
                rw [hFL5 ys]
                simp only [y6]
                go_wp2_with fail
                exact ⟨_, rfl, HJ.out.plain (i := 7) (by decide) (by decide) (by decide) (by decide) rfl (hC.out.trans (S' := fun _ => False) (Grows.of_below (Below.refl _ _)) (fun _ h => h.elim)) (fun h => h) (fun h => h) (fun h => h)⟩
              case o8 =>
                intro d0 ys wx hJ hdi hw hdeps
                have q7 : d0 7 = true := by simp [Region.Deps2, Go.Region.binds] at hdeps; simp [hdeps]
                have y7 : ys 117 = .pointer (some ⟨P, 0, none⟩) := hJ.val 7 (by decide) q7
                clear hdeps
                have hC := Lib.hid hJ.com
                have HJ := Lib.hid hJ
                clear hJ hw
                rw [hFL5 ys]
                simp only [y7]
                go_wp2_with fail
                exact ⟨_, rfl, HJ.out.plain (i := 8) (by decide) (by decide) (by decide) (by decide) rfl (hC.out.trans (S' := fun _ => False) (Grows.of_below (Below.refl _ _)) (fun _ h => h.elim)) (fun h => h) (fun h => h) (fun h => h)⟩
              case o9 =>
                intro d0 ys wx hJ hdi hw hdeps
                have q8 : d0 8 = true := by simp [Region.Deps2, Go.Region.binds] at hdeps; simp [hdeps]
                have y8 : ys 118 = .pointer (some ⟨P, 3, none⟩) := hJ.val 8 (by decide) q8
                clear hdeps
                have hC := Lib.hid hJ.com
                have vP := hC.out.var HX.out.pair.var (fun h => h.elim HX.out.pair.nF HX.out.pair.nG)
                have p0 := vP.cell (j := 0) rfl
                have p2 := vP.cell (j := 2) rfl
                have p3 := vP.cell (j := 3) rfl
                unfold ptr at p0 p2 p3
                clear vP
                have r0 := hC.out.cell (p := ⟨r, 0, none⟩) (HLO.out _ (Below.refl _ _)).2.2.2.2.1 (fun h => h.elim HX.out.pair.rF HRG.out)
                have HJ := Lib.hid hJ
                clear hJ hw
                rw [hFL5 ys]
                simp only [y8]
                go_wp2_with fail
                exact ⟨_, rfl, HJ.out.plain (i := 9) (by decide) (by decide) (by decide) (by decide) rfl (hC.out.trans (S' := fun _ => False) (Grows.of_below (Below.refl _ _)) (fun _ h => h.elim)) (fun h => h) (fun h => h) (fun h => h)⟩
              case o10 =>
                intro d0 ys wx hJ hdi hw hdeps
                clear hdeps
                have hC := Lib.hid hJ.com
                have HJ := Lib.hid hJ
                clear hJ hw
                rw [hFL5 ys]
                go_wp2_with fail
                exact ⟨_, rfl, HJ.out.plain (i := 10) (by decide) (by decide) (by decide) (by decide) rfl (hC.out.trans (S' := fun _ => False) (Grows.of_below (Below.refl _ _)) (fun _ h => h.elim)) (fun h => h) (fun h => h) (fun h => h)⟩
              case o11 =>
                intro d0 ys wx hJ hdi hw hdeps
                have q9 : d0 9 = true := by simp [Region.Deps2, Go.Region.binds] at hdeps; simp [hdeps]
                have y9 : ys 119 = .pointer (some ⟨r, 0, none⟩) := hJ.val 9 (by decide) q9
                have q10 : d0 10 = true := by simp [Region.Deps2, Go.Region.binds] at hdeps; simp [hdeps]
                have y10 : ys 120 = .int .i64 kn := hJ.val 10 (by decide) q10
                have qk : d0 5 = true := by simp [Region.Deps2, Go.Region.binds] at hdeps; simp [hdeps]
                clear hdeps
                have hC := Lib.hid hJ.com
                have hB := Lib.hid (hJ.m1 qk hdi)
                have HJ := Lib.hid hJ
                clear hJ hw
                rw [hFL5 ys]
                simp only [y9, y10]
                with_reducible refine Exists.elim hB.out ?_
                intro Fz hz
                have hz1 := Lib.hid hz.1
                have hz2 := Lib.hid hz.2
                clear hz
                go_wp2_with (go_at_call 13; (with_reducible refine (HE2.out _ _ _ _ _ _ _ _ _ _ _ hz1.out).mono ?_); rintro e wy ⟨rfl, Gy, hy, ay⟩)
                exact ⟨_, rfl, HJ.out.turn2 (by decide) (by decide) (by decide) qk rfl (hz2.out.trans ay).grows ⟨Fz, Gy, hy, hz2.out.trans ay⟩⟩
              case o12 =>
                intro d0 ys wx hJ hdi hw hdeps
                have q5 : d0 5 = true := by simp [Region.Deps2, Go.Region.binds] at hdeps; simp [hdeps]
                have y5 : ys 115 = .int .i64 (reK : Int) := hJ.val 5 (by decide) q5
                clear hdeps
                have hC := Lib.hid hJ.com
                have HJ := Lib.hid hJ
                clear hJ hw
                rw [hFL5 ys]
                simp only [y5]
                go_wp2_with fail
                exact ⟨_, rfl, HJ.out.plain (i := 12) (by decide) (by decide) (by decide) (by decide) rfl (hC.out.trans (S' := fun _ => False) (Grows.of_below (Below.refl _ _)) (fun _ h => h.elim)) (fun h => h) (fun h => h) (fun h => h)⟩
              case o13 =>
                intro d0 ys wx hJ hdi hw hdeps
                have q11 : d0 11 = true := by simp [Region.Deps2, Go.Region.binds] at hdeps; simp [hdeps]
                have y11 : ys 121 = .int .i64 (reK : Int) := hJ.val 11 (by decide) q11
                clear hdeps
                have hC := Lib.hid hJ.com
                have HJ := Lib.hid hJ
                clear hJ hw
                rw [hFL5 ys]
                simp only [y11]
                go_wp2_with fail
                exact ⟨_, rfl, HJ.out.plain (i := 13) (by decide) (by decide) (by decide) (by decide) rfl (hC.out.trans (S' := fun _ => False) (Grows.of_below (Below.refl _ _)) (fun _ h => h.elim)) (fun h => h) (fun h => h) (fun h => h)⟩
            case doneet => as_aux_lemma =>
              intro d0 ys wx hJ hall
              have hM : ∃ F1 G1, Pair wx P p q t r p' q' reX reX F1 G1 ∧ After (both FL GL) wc wx (both F1 G1) := hJ.m2 (hall 11 (by decide))
              have h8 : ys 8 = .int .i64 (reK : Int) := hJ.val 12 (by decide) (hall 12 (by decide))
              have h9 : ys 9 = .int .i64 (reK : Int) := hJ.val 13 (by decide) (hall 13 (by decide))
              clear hJ hall
              with_reducible refine Exists.elim hM ?_
              intro F6 hM
              with_reducible refine Exists.elim hM ?_
              intro G6 hM2
              have H6 := Lib.hid hM2.1
              have A6 := Lib.hid hM2.2
              clear hM hM2
              rw [hFL5 ys]
              simp only [h8, h9]
              go_wp2
              go_meet
              case rel => exact ⟨reK, 0, reX, F6, G6, rfl, rfl, rfl, rfl, HX.out.next OKE.out H6.out A6.out⟩
        · have HRG := Lib.hid (HX.out.pair.rr.nt)
          obtain ⟨fz, hfz⟩ : ∃ fz, fz = ta % 30 := ⟨_, rfl⟩
          have hf2 : 0 ≤ fz ∧ fz < 30 := by omega
          have HPZ : Hid (∀ w, Calls Tryz.prog 7 #[.int .i64 ta, .int .i64 30] w fun e w' => e = .returned (.int .i64 fz) ∧ w = w') := Lib.hid (fun w => by have := Book.pick_any ta 30 (by decide) (by decide) w; rw [show ta % ((30 : Nat) : Int) = fz from hfz.symm] at this; exact this)
          have HU1 := Lib.hid (fun w P p q t r p' q' y F G (h : Pair w P p q t r p' q' x y F G) => pFuse h HX.out.ok fz (by omega))
          have HU2 := Lib.hid (fun w P p q t r p' q' y F G (h : Pair w P p q t r p' q' y x F G) => rTFuse h HX.out.ok fz (by omega))
          have OKU := Lib.hid (fuse_ok HX.out.ok fz)
          generalize fuseT x fz = uX at HU1 HU2 OKU
          clear hfz hf2
          go_wp2
          apply with_fill (slots [some 124, some 125, some 126, some 127, some 128, some 129, some 130, some 131, some 132, some 133, some 134])
          case hFL => intro ys; simp only [List.getD_cons_succ, List.getD_cons_zero, fill, slots, List.filterMap_cons, List.filterMap_nil, id, List.foldl_cons, List.foldl_nil, Act.put, List.setIfInBounds_toArray, List.set_cons_succ, List.set_cons_zero]; exact rfl
          intro hFL6
          refine wp_region_each3 [some 124, some 125, some 126, some 127, some 128, some 129, some 130, some 131, some 132, some 133, some 134] (TJ [124, 125, 126, 127, 128, 129, 130, 131, 132, 133, 134] [.pointer (some ⟨P, 0, none⟩), .pointer (some ⟨P, 0, none⟩), .pointer (some ⟨P, 0, none⟩), .pointer (some ⟨p, 0, none⟩), .slice (some ⟨lb, off, none⟩) L lc, .int .i64 (i : Int), .pointer (some ⟨lb, off + i * 7, none⟩), .pointer (some ⟨lb, off + i * 7 + 1, none⟩), .int .i64 ta, .int .i64 fz, .tuple #[]] 10 (fun wx => Grows (both FL GL) wc wx) (fun wx => Below wc.heap.size wc wx) (fun wx => ∃ F2, Pair wx P p q t r p' q' uX x F2 GL ∧ After (both FL GL) wc wx (both F2 GL))) (by kernel_rfl) (by kernel_rfl) (by simp [slots]) ?startu1 ?eachu1 ?doneu1
          case startu1 => exact ⟨by simp, Grows.of_below ((Below.refl _ _).drew), fun _ => (Below.refl _ _).drew, by simp⟩
          case eachu1 => as_aux_lemma =>
            simp only [Each2]
            refine ⟨?o0, ?o1, ?o2, ?o3, ?o4, ?o5, ?o6, ?o7, ?o8, ?o9, ?o10, trivial⟩
            case o0 =>
              intro d0 ys wx hJ hdi hw hdeps
              clear hdeps
              have HJ := Lib.hid hJ
              clear hJ hw
              rw [hFL6 ys]
              go_wp2_with fail
              exact ⟨_, rfl, HJ.out.plain (i := 0) (by decide) (by decide) (by decide) rfl (HJ.out.com.trans (S' := fun _ => False) (Grows.of_below (Below.refl _ _)) (fun _ h => h.elim)) (fun h => h.trans (Below.mono (Below.refl _ _) h.size)) (fun h => h.elim fun F2 hh => ⟨F2, hh.1.below (Below.refl _ _), hh.2.trans ⟨Grows.of_below (Below.refl _ _), fun _ h => .inl h⟩⟩)⟩
            case o1 =>
              intro d0 ys wx hJ hdi hw hdeps
              have q0 : d0 0 = true := by simp [Region.Deps2, Go.Region.binds] at hdeps; simp [hdeps]
              have y0 : ys 124 = .pointer (some ⟨P, 0, none⟩) := hJ.val 0 (by decide) q0
              clear hdeps
              have HJ := Lib.hid hJ
              clear hJ hw
              rw [hFL6 ys]
              simp only [y0]
              go_wp2_with fail
              exact ⟨_, rfl, HJ.out.plain (i := 1) (by decide) (by decide) (by decide) rfl (HJ.out.com.trans (S' := fun _ => False) (Grows.of_below (Below.refl _ _)) (fun _ h => h.elim)) (fun h => h.trans (Below.mono (Below.refl _ _) h.size)) (fun h => h.elim fun F2 hh => ⟨F2, hh.1.below (Below.refl _ _), hh.2.trans ⟨Grows.of_below (Below.refl _ _), fun _ h => .inl h⟩⟩)⟩
            case o2 =>
              intro d0 ys wx hJ hdi hw hdeps
              have q1 : d0 1 = true := by simp [Region.Deps2, Go.Region.binds] at hdeps; simp [hdeps]
              have y1 : ys 125 = .pointer (some ⟨P, 0, none⟩) := hJ.val 1 (by decide) q1
              clear hdeps
              have HJ := Lib.hid hJ
              clear hJ hw
              rw [hFL6 ys]
              simp only [y1]
              go_wp2_with fail
              exact ⟨_, rfl, HJ.out.plain (i := 2) (by decide) (by decide) (by decide) rfl (HJ.out.com.trans (S' := fun _ => False) (Grows.of_below (Below.refl _ _)) (fun _ h => h.elim)) (fun h => h.trans (Below.mono (Below.refl _ _) h.size)) (fun h => h.elim fun F2 hh => ⟨F2, hh.1.below (Below.refl _ _), hh.2.trans ⟨Grows.of_below (Below.refl _ _), fun _ h => .inl h⟩⟩)⟩
            case o3 =>
              intro d0 ys wx hJ hdi hw hdeps
              have q2 : d0 2 = true := by simp [Region.Deps2, Go.Region.binds] at hdeps; simp [hdeps]
              have y2 : ys 126 = .pointer (some ⟨P, 0, none⟩) := hJ.val 2 (by decide) q2
              clear hdeps
              have hC := Lib.hid hJ.com
              have vP := hC.out.var HX.out.pair.var (fun h => h.elim HX.out.pair.nF HX.out.pair.nG)
              have p0 := vP.cell (j := 0) rfl
              have p2 := vP.cell (j := 2) rfl
              have p3 := vP.cell (j := 3) rfl
              unfold ptr at p0 p2 p3
              clear vP
              have s1 : wx.cell? ⟨lb, off + i * 7 + 1, none⟩ = some (.int .i64 ta) := (HCELL.out wx (HX.out.bel.trans (hC.out.below HX.out.bel.size HX.out.ft))).2.1
              have HJ := Lib.hid hJ
              clear hJ hw
              rw [hFL6 ys]
              simp only [y2]
              go_wp2_with fail
              exact ⟨_, rfl, HJ.out.plain (i := 3) (by decide) (by decide) (by decide) rfl (HJ.out.com.trans (S' := fun _ => False) (Grows.of_below (Below.refl _ _)) (fun _ h => h.elim)) (fun h => h.trans (Below.mono (Below.refl _ _) h.size)) (fun h => h.elim fun F2 hh => ⟨F2, hh.1.below (Below.refl _ _), hh.2.trans ⟨Grows.of_below (Below.refl _ _), fun _ h => .inl h⟩⟩)⟩
            case o4 =>
              intro d0 ys wx hJ hdi hw hdeps
              clear hdeps
              have HJ := Lib.hid hJ
              clear hJ hw
              rw [hFL6 ys]
              go_wp2_with fail
              exact ⟨_, rfl, HJ.out.plain (i := 4) (by decide) (by decide) (by decide) rfl (HJ.out.com.trans (S' := fun _ => False) (Grows.of_below (Below.refl _ _)) (fun _ h => h.elim)) (fun h => h.trans (Below.mono (Below.refl _ _) h.size)) (fun h => h.elim fun F2 hh => ⟨F2, hh.1.below (Below.refl _ _), hh.2.trans ⟨Grows.of_below (Below.refl _ _), fun _ h => .inl h⟩⟩)⟩
            case o5 =>
              intro d0 ys wx hJ hdi hw hdeps
              clear hdeps
              have HJ := Lib.hid hJ
              clear hJ hw
              rw [hFL6 ys]
              go_wp2_with fail
              exact ⟨_, rfl, HJ.out.plain (i := 5) (by decide) (by decide) (by decide) rfl (HJ.out.com.trans (S' := fun _ => False) (Grows.of_below (Below.refl _ _)) (fun _ h => h.elim)) (fun h => h.trans (Below.mono (Below.refl _ _) h.size)) (fun h => h.elim fun F2 hh => ⟨F2, hh.1.below (Below.refl _ _), hh.2.trans ⟨Grows.of_below (Below.refl _ _), fun _ h => .inl h⟩⟩)⟩
            case o6 =>
              intro d0 ys wx hJ hdi hw hdeps
              have q4 : d0 4 = true := by simp [Region.Deps2, Go.Region.binds] at hdeps; simp [hdeps]
              have y4 : ys 128 = .slice (some ⟨lb, off, none⟩) L lc := hJ.val 4 (by decide) q4
              have q5 : d0 5 = true := by simp [Region.Deps2, Go.Region.binds] at hdeps; simp [hdeps]
              have y5 : ys 129 = .int .i64 (i : Int) := hJ.val 5 (by decide) q5
              clear hdeps
              have HJ := Lib.hid hJ
              clear hJ hw
              rw [hFL6 ys]
              simp only [y4, y5]
              go_wp2_with fail
              exact ⟨_, rfl, HJ.out.plain (i := 6) (by decide) (by decide) (by decide) rfl (HJ.out.com.trans (S' := fun _ => False) (Grows.of_below (Below.refl _ _)) (fun _ h => h.elim)) (fun h => h.trans (Below.mono (Below.refl _ _) h.size)) (fun h => h.elim fun F2 hh => ⟨F2, hh.1.below (Below.refl _ _), hh.2.trans ⟨Grows.of_below (Below.refl _ _), fun _ h => .inl h⟩⟩)⟩
            case o7 =>
              intro d0 ys wx hJ hdi hw hdeps
              have q6 : d0 6 = true := by simp [Region.Deps2, Go.Region.binds] at hdeps; simp [hdeps]
              have y6 : ys 130 = .pointer (some ⟨lb, off + i * 7, none⟩) := hJ.val 6 (by decide) q6
              clear hdeps
              have HJ := Lib.hid hJ
              clear hJ hw
              rw [hFL6 ys]
              simp only [y6]
              go_wp2_with fail
              exact ⟨_, rfl, HJ.out.plain (i := 7) (by decide) (by decide) (by decide) rfl (HJ.out.com.trans (S' := fun _ => False) (Grows.of_below (Below.refl _ _)) (fun _ h => h.elim)) (fun h => h.trans (Below.mono (Below.refl _ _) h.size)) (fun h => h.elim fun F2 hh => ⟨F2, hh.1.below (Below.refl _ _), hh.2.trans ⟨Grows.of_below (Below.refl _ _), fun _ h => .inl h⟩⟩)⟩
            case o8 =>
              intro d0 ys wx hJ hdi hw hdeps
              have q7 : d0 7 = true := by simp [Region.Deps2, Go.Region.binds] at hdeps; simp [hdeps]
              have y7 : ys 131 = .pointer (some ⟨lb, off + i * 7 + 1, none⟩) := hJ.val 7 (by decide) q7
              clear hdeps
              have hC := Lib.hid hJ.com
              have vP := hC.out.var HX.out.pair.var (fun h => h.elim HX.out.pair.nF HX.out.pair.nG)
              have p0 := vP.cell (j := 0) rfl
              have p2 := vP.cell (j := 2) rfl
              have p3 := vP.cell (j := 3) rfl
              unfold ptr at p0 p2 p3
              clear vP
              have s1 : wx.cell? ⟨lb, off + i * 7 + 1, none⟩ = some (.int .i64 ta) := (HCELL.out wx (HX.out.bel.trans (hC.out.below HX.out.bel.size HX.out.ft))).2.1
              have HJ := Lib.hid hJ
              clear hJ hw
              rw [hFL6 ys]
              simp only [y7]
              go_wp2_with fail
              exact ⟨_, rfl, HJ.out.plain (i := 8) (by decide) (by decide) (by decide) rfl (HJ.out.com.trans (S' := fun _ => False) (Grows.of_below (Below.refl _ _)) (fun _ h => h.elim)) (fun h => h.trans (Below.mono (Below.refl _ _) h.size)) (fun h => h.elim fun F2 hh => ⟨F2, hh.1.below (Below.refl _ _), hh.2.trans ⟨Grows.of_below (Below.refl _ _), fun _ h => .inl h⟩⟩)⟩
            case o9 =>
              intro d0 ys wx hJ hdi hw hdeps
              have q8 : d0 8 = true := by simp [Region.Deps2, Go.Region.binds] at hdeps; simp [hdeps]
              have y8 : ys 132 = .int .i64 ta := hJ.val 8 (by decide) q8
              clear hdeps
              have hC := Lib.hid hJ.com
              have HJ := Lib.hid hJ
              clear hJ hw
              rw [hFL6 ys]
              simp only [y8]
              go_wp2_with (go_at_call 7; (with_reducible refine (HPZ.out _).mono ?_); rintro e wz ⟨rfl, rfl⟩)
              exact ⟨_, rfl, HJ.out.plain (i := 9) (by decide) (by decide) (by decide) rfl (HJ.out.com.trans (S' := fun _ => False) (Grows.of_below (Below.refl _ _)) (fun _ h => h.elim)) (fun h => h.trans (Below.mono (Below.refl _ _) h.size)) (fun h => h.elim fun F2 hh => ⟨F2, hh.1.below (Below.refl _ _), hh.2.trans ⟨Grows.of_below (Below.refl _ _), fun _ h => .inl h⟩⟩)⟩
            case o10 =>
              intro d0 ys wx hJ hdi hw hdeps
              have q3 : d0 3 = true := by simp [Region.Deps2, Go.Region.binds] at hdeps; simp [hdeps]
              have y3 : ys 127 = .pointer (some ⟨p, 0, none⟩) := hJ.val 3 (by decide) q3
              have q9 : d0 9 = true := by simp [Region.Deps2, Go.Region.binds] at hdeps; simp [hdeps]
              have y9 : ys 133 = .int .i64 fz := hJ.val 9 (by decide) q9
              clear hdeps
              have hC := Lib.hid hJ.com
              have hB := Lib.hid (hJ.m0 hdi)
              have HJ := Lib.hid hJ
              clear hJ hw
              rw [hFL6 ys]
              simp only [y3, y9]
              go_wp2_with (go_at_call 14; (with_reducible refine (HU1.out _ _ _ _ _ _ _ _ _ _ _ (HX.out.pair.below hB.out)).mono ?_); rintro e wy ⟨rfl, Fy, hy, ay⟩)
              exact ⟨_, rfl, HJ.out.turn (by decide) (by decide) rfl (hC.out.trans (S' := both FL GL) ay.grows (fun _ h => .inl h)) ⟨Fy, hy, After.trans (S1 := both FL GL) ⟨Grows.of_below hB.out, fun _ h => .inl h⟩ ay⟩⟩
          case doneu1 =>
            intro d0 ys wx hJ hall
            have hM : ∃ F2, Pair wx P p q t r p' q' uX x F2 GL ∧ After (both FL GL) wc wx (both F2 GL) := hJ.m1 (hall 10 (by decide))
            clear hJ hall
            rw [hFL6 ys]
            with_reducible refine Exists.elim hM ?_
            intro F6 hMM
            have h6 := hMM.1
            have a6 := hMM.2
            clear hM hMM
            obtain ⟨w6, hw6⟩ : ∃ w6, w6 = wx := ⟨_, rfl⟩
            rw [← hw6] at h6 a6 ⊢
            have H6 := Lib.hid h6
            have A6 := Lib.hid a6
            clear hw6 h6 a6
            have RV6 := Lib.hid (A6.out.grows.cell (p := ⟨r, 0, none⟩) (HLO.out _ (Below.refl _ _)).2.2.2.2.1 (fun h => h.elim HX.out.pair.rF HRG.out))
            have BW6 := Lib.hid (HX.out.bel.trans (A6.out.grows.below HX.out.bel.size HX.out.ft))
            have FT6 := Lib.hid (A6.out.beyond HX.out.bel.size HX.out.ft)
            go_wp2
            apply with_fill (slots [some 135, some 136, some 137, some 138, some 139, some 140, some 141, some 142, some 143, some 144, some 145, some 146, some 147, some 148])
            case hFL => intro ys; simp only [List.getD_cons_succ, List.getD_cons_zero, fill, slots, List.filterMap_cons, List.filterMap_nil, id, List.foldl_cons, List.foldl_nil, Act.put, List.setIfInBounds_toArray, List.set_cons_succ, List.set_cons_zero]; exact rfl
            intro hFL7
            refine wp_region_each3 [some 135, some 136, some 137, some 138, some 139, some 140, some 141, some 142, some 143, some 144, some 145, some 146, some 147, some 148] (TJ [135, 136, 137, 138, 139, 140, 141, 142, 143, 144, 145, 146, 147, 148] [.pointer (some ⟨P, 0, none⟩), .pointer (some ⟨P, 0, none⟩), .pointer (some ⟨P, 3, none⟩), .pointer (some ⟨r, 0, none⟩), .pointer (some ⟨r, 0, none⟩), .pointer (some ⟨r, 0, none⟩), .pointer (some ⟨p', 0, none⟩), .slice (some ⟨lb, off, none⟩) L lc, .int .i64 (i : Int), .pointer (some ⟨lb, off + i * 7, none⟩), .pointer (some ⟨lb, off + i * 7 + 1, none⟩), .int .i64 ta, .int .i64 fz, .tuple #[]] 13 (fun wx => Grows (both F6 GL) w6 wx) (fun wx => Below w6.heap.size w6 wx) (fun wx => ∃ G2, Pair wx P p q t r p' q' uX uX F6 G2 ∧ After (both F6 GL) w6 wx (both F6 G2))) (by kernel_rfl) (by kernel_rfl) (by simp [slots]) ?startu2 ?eachu2 ?doneu2
            case startu2 => exact ⟨by simp, Grows.of_below ((Below.refl _ _).drew), fun _ => (Below.refl _ _).drew, by simp⟩
            case eachu2 => as_aux_lemma =>
              simp only [Each2]
              refine ⟨?o0, ?o1, ?o2, ?o3, ?o4, ?o5, ?o6, ?o7, ?o8, ?o9, ?o10, ?o11, ?o12, ?o13, trivial⟩
              case o0 =>
                intro d0 ys wx hJ hdi hw hdeps
                clear hdeps
                have HJ := Lib.hid hJ
                clear hJ hw
                rw [hFL7 ys]
                go_wp2_with fail
                exact ⟨_, rfl, HJ.out.plain (i := 0) (by decide) (by decide) (by decide) rfl (HJ.out.com.trans (S' := fun _ => False) (Grows.of_below (Below.refl _ _)) (fun _ h => h.elim)) (fun h => h.trans (Below.mono (Below.refl _ _) h.size)) (fun h => h.elim fun F2 hh => ⟨F2, hh.1.below (Below.refl _ _), hh.2.trans ⟨Grows.of_below (Below.refl _ _), fun _ h => .inl h⟩⟩)⟩
              case o1 =>
                intro d0 ys wx hJ hdi hw hdeps
                have q0 : d0 0 = true := by simp [Region.Deps2, Go.Region.binds] at hdeps; simp [hdeps]
                have y0 : ys 135 = .pointer (some ⟨P, 0, none⟩) := hJ.val 0 (by decide) q0
                clear hdeps
                have HJ := Lib.hid hJ
                clear hJ hw
                rw [hFL7 ys]
                simp only [y0]
                go_wp2_with fail
                exact ⟨_, rfl, HJ.out.plain (i := 1) (by decide) (by decide) (by decide) rfl (HJ.out.com.trans (S' := fun _ => False) (Grows.of_below (Below.refl _ _)) (fun _ h => h.elim)) (fun h => h.trans (Below.mono (Below.refl _ _) h.size)) (fun h => h.elim fun F2 hh => ⟨F2, hh.1.below (Below.refl _ _), hh.2.trans ⟨Grows.of_below (Below.refl _ _), fun _ h => .inl h⟩⟩)⟩
              case o2 =>
                intro d0 ys wx hJ hdi hw hdeps
                have q1 : d0 1 = true := by simp [Region.Deps2, Go.Region.binds] at hdeps; simp [hdeps]
                have y1 : ys 136 = .pointer (some ⟨P, 0, none⟩) := hJ.val 1 (by decide) q1
                clear hdeps
                have HJ := Lib.hid hJ
                clear hJ hw
                rw [hFL7 ys]
                simp only [y1]
                go_wp2_with fail
                exact ⟨_, rfl, HJ.out.plain (i := 2) (by decide) (by decide) (by decide) rfl (HJ.out.com.trans (S' := fun _ => False) (Grows.of_below (Below.refl _ _)) (fun _ h => h.elim)) (fun h => h.trans (Below.mono (Below.refl _ _) h.size)) (fun h => h.elim fun F2 hh => ⟨F2, hh.1.below (Below.refl _ _), hh.2.trans ⟨Grows.of_below (Below.refl _ _), fun _ h => .inl h⟩⟩)⟩
              case o3 =>
                intro d0 ys wx hJ hdi hw hdeps
                have q2 : d0 2 = true := by simp [Region.Deps2, Go.Region.binds] at hdeps; simp [hdeps]
                have y2 : ys 137 = .pointer (some ⟨P, 3, none⟩) := hJ.val 2 (by decide) q2
                clear hdeps
                have hC := Lib.hid hJ.com
                have vP := hC.out.var H6.out.var (fun h => h.elim H6.out.nF H6.out.nG)
                have p0 := vP.cell (j := 0) rfl
                have p2 := vP.cell (j := 2) rfl
                have p3 := vP.cell (j := 3) rfl
                unfold ptr at p0 p2 p3
                clear vP
                have r0 : wx.cell? ⟨r, 0, none⟩ = some (.pointer (some ⟨p', 0, none⟩)) := hC.out.cell (p := ⟨r, 0, none⟩) RV6.out (fun h => h.elim H6.out.rF H6.out.rr.nt)
                have s1 : wx.cell? ⟨lb, off + i * 7 + 1, none⟩ = some (.int .i64 ta) := (HCELL.out wx (BW6.out.trans (hC.out.below BW6.out.size FT6.out))).2.1
                have HJ := Lib.hid hJ
                clear hJ hw
                rw [hFL7 ys]
                simp only [y2]
                go_wp2_with fail
                exact ⟨_, rfl, HJ.out.plain (i := 3) (by decide) (by decide) (by decide) rfl (HJ.out.com.trans (S' := fun _ => False) (Grows.of_below (Below.refl _ _)) (fun _ h => h.elim)) (fun h => h.trans (Below.mono (Below.refl _ _) h.size)) (fun h => h.elim fun F2 hh => ⟨F2, hh.1.below (Below.refl _ _), hh.2.trans ⟨Grows.of_below (Below.refl _ _), fun _ h => .inl h⟩⟩)⟩
              case o4 =>
                intro d0 ys wx hJ hdi hw hdeps
                have q3 : d0 3 = true := by simp [Region.Deps2, Go.Region.binds] at hdeps; simp [hdeps]
                have y3 : ys 138 = .pointer (some ⟨r, 0, none⟩) := hJ.val 3 (by decide) q3
                clear hdeps
                have HJ := Lib.hid hJ
                clear hJ hw
                rw [hFL7 ys]
                simp only [y3]
                go_wp2_with fail
                exact ⟨_, rfl, HJ.out.plain (i := 4) (by decide) (by decide) (by decide) rfl (HJ.out.com.trans (S' := fun _ => False) (Grows.of_below (Below.refl _ _)) (fun _ h => h.elim)) (fun h => h.trans (Below.mono (Below.refl _ _) h.size)) (fun h => h.elim fun F2 hh => ⟨F2, hh.1.below (Below.refl _ _), hh.2.trans ⟨Grows.of_below (Below.refl _ _), fun _ h => .inl h⟩⟩)⟩
              case o5 =>
                intro d0 ys wx hJ hdi hw hdeps
                have q4 : d0 4 = true := by simp [Region.Deps2, Go.Region.binds] at hdeps; simp [hdeps]
                have y4 : ys 139 = .pointer (some ⟨r, 0, none⟩) := hJ.val 4 (by decide) q4
                clear hdeps
                have HJ := Lib.hid hJ
                clear hJ hw
                rw [hFL7 ys]
                simp only [y4]
                go_wp2_with fail
                exact ⟨_, rfl, HJ.out.plain (i := 5) (by decide) (by decide) (by decide) rfl (HJ.out.com.trans (S' := fun _ => False) (Grows.of_below (Below.refl _ _)) (fun _ h => h.elim)) (fun h => h.trans (Below.mono (Below.refl _ _) h.size)) (fun h => h.elim fun F2 hh => ⟨F2, hh.1.below (Below.refl _ _), hh.2.trans ⟨Grows.of_below (Below.refl _ _), fun _ h => .inl h⟩⟩)⟩
              case o6 =>
                intro d0 ys wx hJ hdi hw hdeps
                have q5 : d0 5 = true := by simp [Region.Deps2, Go.Region.binds] at hdeps; simp [hdeps]
                have y5 : ys 140 = .pointer (some ⟨r, 0, none⟩) := hJ.val 5 (by decide) q5
                clear hdeps
                have hC := Lib.hid hJ.com
                have vP := hC.out.var H6.out.var (fun h => h.elim H6.out.nF H6.out.nG)
                have p0 := vP.cell (j := 0) rfl
                have p2 := vP.cell (j := 2) rfl
                have p3 := vP.cell (j := 3) rfl
                unfold ptr at p0 p2 p3
                clear vP
                have r0 : wx.cell? ⟨r, 0, none⟩ = some (.pointer (some ⟨p', 0, none⟩)) := hC.out.cell (p := ⟨r, 0, none⟩) RV6.out (fun h => h.elim H6.out.rF H6.out.rr.nt)
                have s1 : wx.cell? ⟨lb, off + i * 7 + 1, none⟩ = some (.int .i64 ta) := (HCELL.out wx (BW6.out.trans (hC.out.below BW6.out.size FT6.out))).2.1
                have HJ := Lib.hid hJ
                clear hJ hw
                rw [hFL7 ys]
                simp only [y5]
                go_wp2_with fail
                exact ⟨_, rfl, HJ.out.plain (i := 6) (by decide) (by decide) (by decide) rfl (HJ.out.com.trans (S' := fun _ => False) (Grows.of_below (Below.refl _ _)) (fun _ h => h.elim)) (fun h => h.trans (Below.mono (Below.refl _ _) h.size)) (fun h => h.elim fun F2 hh => ⟨F2, hh.1.below (Below.refl _ _), hh.2.trans ⟨Grows.of_below (Below.refl _ _), fun _ h => .inl h⟩⟩)⟩
              case o7 =>
                intro d0 ys wx hJ hdi hw hdeps
                clear hdeps
                have HJ := Lib.hid hJ
                clear hJ hw
                rw [hFL7 ys]
                go_wp2_with fail
                exact ⟨_, rfl, HJ.out.plain (i := 7) (by decide) (by decide) (by decide) rfl (HJ.out.com.trans (S' := fun _ => False) (Grows.of_below (Below.refl _ _)) (fun _ h => h.elim)) (fun h => h.trans (Below.mono (Below.refl _ _) h.size)) (fun h => h.elim fun F2 hh => ⟨F2, hh.1.below (Below.refl _ _), hh.2.trans ⟨Grows.of_below (Below.refl _ _), fun _ h => .inl h⟩⟩)⟩
              case o8 =>
                intro d0 ys wx hJ hdi hw hdeps
                clear hdeps
                have HJ := Lib.hid hJ
                clear hJ hw
                rw [hFL7 ys]
                go_wp2_with fail
                exact ⟨_, rfl, HJ.out.plain (i := 8) (by decide) (by decide) (by decide) rfl (HJ.out.com.trans (S' := fun _ => False) (Grows.of_below (Below.refl _ _)) (fun _ h => h.elim)) (fun h => h.trans (Below.mono (Below.refl _ _) h.size)) (fun h => h.elim fun F2 hh => ⟨F2, hh.1.below (Below.refl _ _), hh.2.trans ⟨Grows.of_below (Below.refl _ _), fun _ h => .inl h⟩⟩)⟩
              case o9 =>
                intro d0 ys wx hJ hdi hw hdeps
                have q7 : d0 7 = true := by simp [Region.Deps2, Go.Region.binds] at hdeps; simp [hdeps]
                have y7 : ys 142 = .slice (some ⟨lb, off, none⟩) L lc := hJ.val 7 (by decide) q7
                have q8 : d0 8 = true := by simp [Region.Deps2, Go.Region.binds] at hdeps; simp [hdeps]
                have y8 : ys 143 = .int .i64 (i : Int) := hJ.val 8 (by decide) q8
                clear hdeps
                have HJ := Lib.hid hJ
                clear hJ hw
                rw [hFL7 ys]
                simp only [y7, y8]
                go_wp2_with fail
                exact ⟨_, rfl, HJ.out.plain (i := 9) (by decide) (by decide) (by decide) rfl (HJ.out.com.trans (S' := fun _ => False) (Grows.of_below (Below.refl _ _)) (fun _ h => h.elim)) (fun h => h.trans (Below.mono (Below.refl _ _) h.size)) (fun h => h.elim fun F2 hh => ⟨F2, hh.1.below (Below.refl _ _), hh.2.trans ⟨Grows.of_below (Below.refl _ _), fun _ h => .inl h⟩⟩)⟩
              case o10 =>
                intro d0 ys wx hJ hdi hw hdeps
                have q9 : d0 9 = true := by simp [Region.Deps2, Go.Region.binds] at hdeps; simp [hdeps]
                have y9 : ys 144 = .pointer (some ⟨lb, off + i * 7, none⟩) := hJ.val 9 (by decide) q9
                clear hdeps
                have HJ := Lib.hid hJ
                clear hJ hw
                rw [hFL7 ys]
                simp only [y9]
                go_wp2_with fail
                exact ⟨_, rfl, HJ.out.plain (i := 10) (by decide) (by decide) (by decide) rfl (HJ.out.com.trans (S' := fun _ => False) (Grows.of_below (Below.refl _ _)) (fun _ h => h.elim)) (fun h => h.trans (Below.mono (Below.refl _ _) h.size)) (fun h => h.elim fun F2 hh => ⟨F2, hh.1.below (Below.refl _ _), hh.2.trans ⟨Grows.of_below (Below.refl _ _), fun _ h => .inl h⟩⟩)⟩
              case o11 =>
                intro d0 ys wx hJ hdi hw hdeps
                have q10 : d0 10 = true := by simp [Region.Deps2, Go.Region.binds] at hdeps; simp [hdeps]
                have y10 : ys 145 = .pointer (some ⟨lb, off + i * 7 + 1, none⟩) := hJ.val 10 (by decide) q10
                clear hdeps
                have hC := Lib.hid hJ.com
                have vP := hC.out.var H6.out.var (fun h => h.elim H6.out.nF H6.out.nG)
                have p0 := vP.cell (j := 0) rfl
                have p2 := vP.cell (j := 2) rfl
                have p3 := vP.cell (j := 3) rfl
                unfold ptr at p0 p2 p3
                clear vP
                have r0 : wx.cell? ⟨r, 0, none⟩ = some (.pointer (some ⟨p', 0, none⟩)) := hC.out.cell (p := ⟨r, 0, none⟩) RV6.out (fun h => h.elim H6.out.rF H6.out.rr.nt)
                have s1 : wx.cell? ⟨lb, off + i * 7 + 1, none⟩ = some (.int .i64 ta) := (HCELL.out wx (BW6.out.trans (hC.out.below BW6.out.size FT6.out))).2.1
                have HJ := Lib.hid hJ
                clear hJ hw
                rw [hFL7 ys]
                simp only [y10]
                go_wp2_with fail
                exact ⟨_, rfl, HJ.out.plain (i := 11) (by decide) (by decide) (by decide) rfl (HJ.out.com.trans (S' := fun _ => False) (Grows.of_below (Below.refl _ _)) (fun _ h => h.elim)) (fun h => h.trans (Below.mono (Below.refl _ _) h.size)) (fun h => h.elim fun F2 hh => ⟨F2, hh.1.below (Below.refl _ _), hh.2.trans ⟨Grows.of_below (Below.refl _ _), fun _ h => .inl h⟩⟩)⟩
              case o12 =>
                intro d0 ys wx hJ hdi hw hdeps
                have q11 : d0 11 = true := by simp [Region.Deps2, Go.Region.binds] at hdeps; simp [hdeps]
                have y11 : ys 146 = .int .i64 ta := hJ.val 11 (by decide) q11
                clear hdeps
                have hC := Lib.hid hJ.com
                have HJ := Lib.hid hJ
                clear hJ hw
                rw [hFL7 ys]
                simp only [y11]
                go_wp2_with (go_at_call 7; (with_reducible refine (HPZ.out _).mono ?_); rintro e wz ⟨rfl, rfl⟩)
                exact ⟨_, rfl, HJ.out.plain (i := 12) (by decide) (by decide) (by decide) rfl (HJ.out.com.trans (S' := fun _ => False) (Grows.of_below (Below.refl _ _)) (fun _ h => h.elim)) (fun h => h.trans (Below.mono (Below.refl _ _) h.size)) (fun h => h.elim fun F2 hh => ⟨F2, hh.1.below (Below.refl _ _), hh.2.trans ⟨Grows.of_below (Below.refl _ _), fun _ h => .inl h⟩⟩)⟩
              case o13 =>
                intro d0 ys wx hJ hdi hw hdeps
                have q6 : d0 6 = true := by simp [Region.Deps2, Go.Region.binds] at hdeps; simp [hdeps]
                have y6 : ys 141 = .pointer (some ⟨p', 0, none⟩) := hJ.val 6 (by decide) q6
                have q12 : d0 12 = true := by simp [Region.Deps2, Go.Region.binds] at hdeps; simp [hdeps]
                have y12 : ys 147 = .int .i64 fz := hJ.val 12 (by decide) q12
                clear hdeps
                have hC := Lib.hid hJ.com
                have hB := Lib.hid (hJ.m0 hdi)
                have HJ := Lib.hid hJ
                clear hJ hw
                rw [hFL7 ys]
                simp only [y6, y12]
                go_wp2_with (go_at_call 15; (with_reducible refine (HU2.out _ _ _ _ _ _ _ _ _ _ _ (H6.out.below hB.out)).mono ?_); rintro e wy ⟨rfl, Fy, hy, ay⟩)
                exact ⟨_, rfl, HJ.out.turn (by decide) (by decide) rfl (hC.out.trans (S' := both F6 GL) ay.grows (fun _ h => .inl h)) ⟨Fy, hy, After.trans (S1 := both F6 GL) ⟨Grows.of_below hB.out, fun _ h => .inl h⟩ ay⟩⟩
            case doneu2 => as_aux_lemma =>
              intro d0 ys wx hJ hall
              have hM : ∃ G2, Pair wx P p q t r p' q' uX uX F6 G2 ∧ After (both F6 GL) w6 wx (both F6 G2) := hJ.m1 (hall 13 (by decide))
              clear hJ hall
              rw [hFL7 ys]
              with_reducible refine Exists.elim hM ?_
              intro G6 hMM
              have H7 := Lib.hid hMM.1
              have A7 := Lib.hid hMM.2
              clear hM hMM
              go_wp2
              go_meet
              case rel => exact ⟨0, 0, uX, F6, G6, rfl, rfl, rfl, rfl, HX.out.next OKU.out H7.out (A6.out.trans A7.out)⟩
        · have HRG := Lib.hid (HX.out.pair.rr.nt)
          have q6 : ((m : Int) == 6) = false := by simp; omega
          have q7 : ((m : Int) == 7) = false := by simp; omega
          have q8 : ((m : Int) == 8) = false := by simp; omega
          have q9 : ((m : Int) == 9) = false := by simp; omega
          have NX := Lib.hid (show ¬ both FL GL wr.heap.size from fun h => by have := HH.out.pair.lt _ h; omega)
          go_wp2
          apply with_fill (slots [some 61, some 62, some 63, some 64, some 65, some 66, some 60, some 67, some 68, some 10, some 8])
          case hFL => intro ys; simp only [List.getD_cons_succ, List.getD_cons_zero, fill, slots, List.filterMap_cons, List.filterMap_nil, id, List.foldl_cons, List.foldl_nil, Act.put, List.setIfInBounds_toArray, List.set_cons_succ, List.set_cons_zero]; exact rfl
          intro hFL8
          refine wp_region_each3 [some 61, some 62, some 63, some 64, some 65, some 66, some 60, some 67, some 68, some 10, some 8] (TJ [61, 62, 63, 64, 65, 66, 60, 67, 68, 10, 8] [.pointer (some ⟨P, 0, none⟩), .pointer (some ⟨P, 0, none⟩), .pointer (some ⟨P, 2, none⟩), .pointer (some ⟨t, 0, none⟩), .agg #[.int .i64 fk, .int .u32 ya, .int .u32 yb, .string YD], .tuple #[.int .i64 (raA : Int), .int .i64 (raK : Int)], .tuple #[.int .i64 (raA : Int), .int .i64 (raK : Int)], .int .i64 (raA : Int), .int .i64 (raK : Int), .int .i64 (raA : Int), .int .i64 (raK : Int)] 5 (fun wx => Grows (both FL GL) wc wx) (fun wx => Below wc.heap.size wc wx) (fun wx => ∃ F2, Pair wx P p q t r p' q' raX x F2 GL ∧ After (both FL GL) wc wx (both F2 GL))) (by kernel_rfl) (by kernel_rfl) (by simp [slots]) ?startp1 ?eachp1 ?donep1
          case startp1 => exact ⟨by simp, Grows.of_below ((Below.refl _ _).drew), fun _ => (Below.refl _ _).drew, by simp⟩
          case eachp1 => as_aux_lemma =>
            simp only [Each2]
            refine ⟨?o0, ?o1, ?o2, ?o3, ?o4, ?o5, ?o6, ?o7, ?o8, ?o9, ?o10, trivial⟩
            case o0 =>
              intro d0 ys wx hJ hdi hw hdeps
              clear hdeps
              have HJ := Lib.hid hJ
              clear hJ hw
              rw [hFL8 ys]
              go_wp2_with fail
              exact ⟨_, rfl, HJ.out.plain (i := 0) (by decide) (by decide) (by decide) rfl (HJ.out.com.trans (S' := fun _ => False) (Grows.of_below (Below.refl _ _)) (fun _ h => h.elim)) (fun h => h.trans (Below.mono (Below.refl _ _) h.size)) (fun h => h.elim fun F2 hh => ⟨F2, hh.1.below (Below.refl _ _), hh.2.trans ⟨Grows.of_below (Below.refl _ _), fun _ h => .inl h⟩⟩)⟩
            case o1 =>
              intro d0 ys wx hJ hdi hw hdeps
              have q0 : d0 0 = true := by simp [Region.Deps2, Go.Region.binds] at hdeps; simp [hdeps]
              have y0 : ys 61 = .pointer (some ⟨P, 0, none⟩) := hJ.val 0 (by decide) q0
              clear hdeps
              have HJ := Lib.hid hJ
              clear hJ hw
              rw [hFL8 ys]
              simp only [y0]
              go_wp2_with fail
              exact ⟨_, rfl, HJ.out.plain (i := 1) (by decide) (by decide) (by decide) rfl (HJ.out.com.trans (S' := fun _ => False) (Grows.of_below (Below.refl _ _)) (fun _ h => h.elim)) (fun h => h.trans (Below.mono (Below.refl _ _) h.size)) (fun h => h.elim fun F2 hh => ⟨F2, hh.1.below (Below.refl _ _), hh.2.trans ⟨Grows.of_below (Below.refl _ _), fun _ h => .inl h⟩⟩)⟩
            case o2 =>
              intro d0 ys wx hJ hdi hw hdeps
              have q1 : d0 1 = true := by simp [Region.Deps2, Go.Region.binds] at hdeps; simp [hdeps]
              have y1 : ys 62 = .pointer (some ⟨P, 0, none⟩) := hJ.val 1 (by decide) q1
              clear hdeps
              have HJ := Lib.hid hJ
              clear hJ hw
              rw [hFL8 ys]
              simp only [y1]
              go_wp2_with fail
              exact ⟨_, rfl, HJ.out.plain (i := 2) (by decide) (by decide) (by decide) rfl (HJ.out.com.trans (S' := fun _ => False) (Grows.of_below (Below.refl _ _)) (fun _ h => h.elim)) (fun h => h.trans (Below.mono (Below.refl _ _) h.size)) (fun h => h.elim fun F2 hh => ⟨F2, hh.1.below (Below.refl _ _), hh.2.trans ⟨Grows.of_below (Below.refl _ _), fun _ h => .inl h⟩⟩)⟩
            case o3 =>
              intro d0 ys wx hJ hdi hw hdeps
              have q2 : d0 2 = true := by simp [Region.Deps2, Go.Region.binds] at hdeps; simp [hdeps]
              have y2 : ys 63 = .pointer (some ⟨P, 2, none⟩) := hJ.val 2 (by decide) q2
              clear hdeps
              have hC := Lib.hid hJ.com
              have vP := hC.out.var HX.out.pair.var (fun h => h.elim HX.out.pair.nF HX.out.pair.nG)
              have p0 := vP.cell (j := 0) rfl
              have p2 := vP.cell (j := 2) rfl
              have p3 := vP.cell (j := 3) rfl
              unfold ptr at p0 p2 p3
              clear vP
              have vX := hC.out.var VX.out NX.out
              have x0 := vX.cell (j := 0) rfl
              have x1 := vX.cell (j := 1) rfl
              have x2 := vX.cell (j := 2) rfl
              have x3 := vX.cell (j := 3) rfl
              clear vX
              have HJ := Lib.hid hJ
              clear hJ hw
              rw [hFL8 ys]
              simp only [y2]
              go_wp2_with fail
              exact ⟨_, rfl, HJ.out.plain (i := 3) (by decide) (by decide) (by decide) rfl (HJ.out.com.trans (S' := fun _ => False) (Grows.of_below (Below.refl _ _)) (fun _ h => h.elim)) (fun h => h.trans (Below.mono (Below.refl _ _) h.size)) (fun h => h.elim fun F2 hh => ⟨F2, hh.1.below (Below.refl _ _), hh.2.trans ⟨Grows.of_below (Below.refl _ _), fun _ h => .inl h⟩⟩)⟩
            case o4 =>
              intro d0 ys wx hJ hdi hw hdeps
              clear hdeps
              have hC := Lib.hid hJ.com
              have vP := hC.out.var HX.out.pair.var (fun h => h.elim HX.out.pair.nF HX.out.pair.nG)
              have p0 := vP.cell (j := 0) rfl
              have p2 := vP.cell (j := 2) rfl
              have p3 := vP.cell (j := 3) rfl
              unfold ptr at p0 p2 p3
              clear vP
              have vX := hC.out.var VX.out NX.out
              have x0 := vX.cell (j := 0) rfl
              have x1 := vX.cell (j := 1) rfl
              have x2 := vX.cell (j := 2) rfl
              have x3 := vX.cell (j := 3) rfl
              clear vX
              have HJ := Lib.hid hJ
              clear hJ hw
              rw [hFL8 ys]
              go_wp2_with fail
              exact ⟨_, rfl, HJ.out.plain (i := 4) (by decide) (by decide) (by decide) rfl (HJ.out.com.trans (S' := fun _ => False) (Grows.of_below (Below.refl _ _)) (fun _ h => h.elim)) (fun h => h.trans (Below.mono (Below.refl _ _) h.size)) (fun h => h.elim fun F2 hh => ⟨F2, hh.1.below (Below.refl _ _), hh.2.trans ⟨Grows.of_below (Below.refl _ _), fun _ h => .inl h⟩⟩)⟩
            case o5 =>
              intro d0 ys wx hJ hdi hw hdeps
              have q3 : d0 3 = true := by simp [Region.Deps2, Go.Region.binds] at hdeps; simp [hdeps]
              have y3 : ys 64 = .pointer (some ⟨t, 0, none⟩) := hJ.val 3 (by decide) q3
              have q4 : d0 4 = true := by simp [Region.Deps2, Go.Region.binds] at hdeps; simp [hdeps]
              have y4 : ys 65 = .agg #[.int .i64 fk, .int .u32 ya, .int .u32 yb, .string YD] := hJ.val 4 (by decide) q4
              clear hdeps
              have hC := Lib.hid hJ.com
              have hB := Lib.hid (hJ.m0 hdi)
              have HJ := Lib.hid hJ
              clear hJ hw
              rw [hFL8 ys]
              simp only [y3, y4]
              go_wp2_with (go_at_call 16; (with_reducible refine (HA1.out _ _ _ _ _ _ _ _ _ _ _ (HX.out.pair.below hB.out)).mono ?_); rintro e wy ⟨rfl, Fy, hy, ay⟩)
              exact ⟨_, rfl, HJ.out.turn (by decide) (by decide) rfl (hC.out.trans (S' := both FL GL) ay.grows (fun _ h => .inl h)) ⟨Fy, hy, After.trans (S1 := both FL GL) ⟨Grows.of_below hB.out, fun _ h => .inl h⟩ ay⟩⟩
            case o6 =>
              intro d0 ys wx hJ hdi hw hdeps
              have q5 : d0 5 = true := by simp [Region.Deps2, Go.Region.binds] at hdeps; simp [hdeps]
              have y5 : ys 66 = .tuple #[.int .i64 (raA : Int), .int .i64 (raK : Int)] := hJ.val 5 (by decide) q5
              clear hdeps
              have HJ := Lib.hid hJ
              clear hJ hw
              rw [hFL8 ys]
              simp only [y5]
              go_wp2_with fail
              exact ⟨_, rfl, HJ.out.plain (i := 6) (by decide) (by decide) (by decide) rfl (HJ.out.com.trans (S' := fun _ => False) (Grows.of_below (Below.refl _ _)) (fun _ h => h.elim)) (fun h => h.trans (Below.mono (Below.refl _ _) h.size)) (fun h => h.elim fun F2 hh => ⟨F2, hh.1.below (Below.refl _ _), hh.2.trans ⟨Grows.of_below (Below.refl _ _), fun _ h => .inl h⟩⟩)⟩
            case o7 =>
              intro d0 ys wx hJ hdi hw hdeps
              have q6 : d0 6 = true := by simp [Region.Deps2, Go.Region.binds] at hdeps; simp [hdeps]
              have y6 : ys 60 = .tuple #[.int .i64 (raA : Int), .int .i64 (raK : Int)] := hJ.val 6 (by decide) q6
              clear hdeps
              have HJ := Lib.hid hJ
              clear hJ hw
              rw [hFL8 ys]
              simp only [y6]
              go_wp2_with fail
              exact ⟨_, rfl, HJ.out.plain (i := 7) (by decide) (by decide) (by decide) rfl (HJ.out.com.trans (S' := fun _ => False) (Grows.of_below (Below.refl _ _)) (fun _ h => h.elim)) (fun h => h.trans (Below.mono (Below.refl _ _) h.size)) (fun h => h.elim fun F2 hh => ⟨F2, hh.1.below (Below.refl _ _), hh.2.trans ⟨Grows.of_below (Below.refl _ _), fun _ h => .inl h⟩⟩)⟩
            case o8 =>
              intro d0 ys wx hJ hdi hw hdeps
              have q6 : d0 6 = true := by simp [Region.Deps2, Go.Region.binds] at hdeps; simp [hdeps]
              have y6 : ys 60 = .tuple #[.int .i64 (raA : Int), .int .i64 (raK : Int)] := hJ.val 6 (by decide) q6
              clear hdeps
              have HJ := Lib.hid hJ
              clear hJ hw
              rw [hFL8 ys]
              simp only [y6]
              go_wp2_with fail
              exact ⟨_, rfl, HJ.out.plain (i := 8) (by decide) (by decide) (by decide) rfl (HJ.out.com.trans (S' := fun _ => False) (Grows.of_below (Below.refl _ _)) (fun _ h => h.elim)) (fun h => h.trans (Below.mono (Below.refl _ _) h.size)) (fun h => h.elim fun F2 hh => ⟨F2, hh.1.below (Below.refl _ _), hh.2.trans ⟨Grows.of_below (Below.refl _ _), fun _ h => .inl h⟩⟩)⟩
            case o9 =>
              intro d0 ys wx hJ hdi hw hdeps
              have q7 : d0 7 = true := by simp [Region.Deps2, Go.Region.binds] at hdeps; simp [hdeps]
              have y7 : ys 67 = .int .i64 (raA : Int) := hJ.val 7 (by decide) q7
              clear hdeps
              have HJ := Lib.hid hJ
              clear hJ hw
              rw [hFL8 ys]
              simp only [y7]
              go_wp2_with fail
              exact ⟨_, rfl, HJ.out.plain (i := 9) (by decide) (by decide) (by decide) rfl (HJ.out.com.trans (S' := fun _ => False) (Grows.of_below (Below.refl _ _)) (fun _ h => h.elim)) (fun h => h.trans (Below.mono (Below.refl _ _) h.size)) (fun h => h.elim fun F2 hh => ⟨F2, hh.1.below (Below.refl _ _), hh.2.trans ⟨Grows.of_below (Below.refl _ _), fun _ h => .inl h⟩⟩)⟩
            case o10 =>
              intro d0 ys wx hJ hdi hw hdeps
              have q8 : d0 8 = true := by simp [Region.Deps2, Go.Region.binds] at hdeps; simp [hdeps]
              have y8 : ys 68 = .int .i64 (raK : Int) := hJ.val 8 (by decide) q8
              clear hdeps
              have HJ := Lib.hid hJ
              clear hJ hw
              rw [hFL8 ys]
              simp only [y8]
              go_wp2_with fail
              exact ⟨_, rfl, HJ.out.plain (i := 10) (by decide) (by decide) (by decide) rfl (HJ.out.com.trans (S' := fun _ => False) (Grows.of_below (Below.refl _ _)) (fun _ h => h.elim)) (fun h => h.trans (Below.mono (Below.refl _ _) h.size)) (fun h => h.elim fun F2 hh => ⟨F2, hh.1.below (Below.refl _ _), hh.2.trans ⟨Grows.of_below (Below.refl _ _), fun _ h => .inl h⟩⟩)⟩
          case donep1 =>
            intro d0 ys wx hJ hall
            have hM : ∃ F2, Pair wx P p q t r p' q' raX x F2 GL ∧ After (both FL GL) wc wx (both F2 GL) := hJ.m1 (hall 5 (by decide))
            have h10 : ys 10 = .int .i64 (raA : Int) := hJ.val 9 (by decide) (hall 9 (by decide))
            have h8 : ys 8 = .int .i64 (raK : Int) := hJ.val 10 (by decide) (hall 10 (by decide))
            clear hJ hall
            rw [hFL8 ys]
            simp only [h10, h8]
            with_reducible refine Exists.elim hM ?_
            intro F6 hMM
            have h6 := hMM.1
            have a6 := hMM.2
            clear hM hMM
            obtain ⟨w6, hw6⟩ : ∃ w6, w6 = wx := ⟨_, rfl⟩
            rw [← hw6] at h6 a6 ⊢
            have H6 := Lib.hid h6
            have A6 := Lib.hid a6
            clear hw6 h6 a6
            have VX6 := Lib.hid (A6.out.grows.var VX.out NX.out)
            have NX6 := Lib.hid (not_after A6.out NX.out VX.out.lt)
            go_wp2
            apply with_fill (slots [some 70, some 71, some 72, some 73, some 74, some 75, some 69, some 76, some 77, some 11, some 9])
            case hFL => intro ys; simp only [List.getD_cons_succ, List.getD_cons_zero, fill, slots, List.filterMap_cons, List.filterMap_nil, id, List.foldl_cons, List.foldl_nil, Act.put, List.setIfInBounds_toArray, List.set_cons_succ, List.set_cons_zero]; exact rfl
            intro hFL9
            refine wp_region_each3 [some 70, some 71, some 72, some 73, some 74, some 75, some 69, some 76, some 77, some 11, some 9] (TJ [70, 71, 72, 73, 74, 75, 69, 76, 77, 11, 9] [.pointer (some ⟨P, 0, none⟩), .pointer (some ⟨P, 0, none⟩), .pointer (some ⟨P, 3, none⟩), .pointer (some ⟨r, 0, none⟩), .agg #[.int .i64 fk, .int .u32 ya, .int .u32 yb, .string YD], .tuple #[.int .i64 (raA : Int), .int .i64 (raK : Int)], .tuple #[.int .i64 (raA : Int), .int .i64 (raK : Int)], .int .i64 (raA : Int), .int .i64 (raK : Int), .int .i64 (raA : Int), .int .i64 (raK : Int)] 5 (fun wx => Grows (both F6 GL) w6 wx) (fun wx => Below w6.heap.size w6 wx) (fun wx => ∃ G2, Pair wx P p q t r p' q' raX raX F6 G2 ∧ After (both F6 GL) w6 wx (both F6 G2))) (by kernel_rfl) (by kernel_rfl) (by simp [slots]) ?startp2 ?eachp2 ?donep2
            case startp2 => exact ⟨by simp, Grows.of_below ((Below.refl _ _).drew), fun _ => (Below.refl _ _).drew, by simp⟩
            case eachp2 => as_aux_lemma =>
              simp only [Each2]
              refine ⟨?o0, ?o1, ?o2, ?o3, ?o4, ?o5, ?o6, ?o7, ?o8, ?o9, ?o10, trivial⟩
              case o0 =>
                intro d0 ys wx hJ hdi hw hdeps
                clear hdeps
                have HJ := Lib.hid hJ
                clear hJ hw
                rw [hFL9 ys]
                go_wp2_with fail
                exact ⟨_, rfl, HJ.out.plain (i := 0) (by decide) (by decide) (by decide) rfl (HJ.out.com.trans (S' := fun _ => False) (Grows.of_below (Below.refl _ _)) (fun _ h => h.elim)) (fun h => h.trans (Below.mono (Below.refl _ _) h.size)) (fun h => h.elim fun F2 hh => ⟨F2, hh.1.below (Below.refl _ _), hh.2.trans ⟨Grows.of_below (Below.refl _ _), fun _ h => .inl h⟩⟩)⟩
              case o1 =>
                intro d0 ys wx hJ hdi hw hdeps
                have q0 : d0 0 = true := by simp [Region.Deps2, Go.Region.binds] at hdeps; simp [hdeps]
                have y0 : ys 70 = .pointer (some ⟨P, 0, none⟩) := hJ.val 0 (by decide) q0
                clear hdeps
                have HJ := Lib.hid hJ
                clear hJ hw
                rw [hFL9 ys]
                simp only [y0]
                go_wp2_with fail
                exact ⟨_, rfl, HJ.out.plain (i := 1) (by decide) (by decide) (by decide) rfl (HJ.out.com.trans (S' := fun _ => False) (Grows.of_below (Below.refl _ _)) (fun _ h => h.elim)) (fun h => h.trans (Below.mono (Below.refl _ _) h.size)) (fun h => h.elim fun F2 hh => ⟨F2, hh.1.below (Below.refl _ _), hh.2.trans ⟨Grows.of_below (Below.refl _ _), fun _ h => .inl h⟩⟩)⟩
              case o2 =>
                intro d0 ys wx hJ hdi hw hdeps
                have q1 : d0 1 = true := by simp [Region.Deps2, Go.Region.binds] at hdeps; simp [hdeps]
                have y1 : ys 71 = .pointer (some ⟨P, 0, none⟩) := hJ.val 1 (by decide) q1
                clear hdeps
                have HJ := Lib.hid hJ
                clear hJ hw
                rw [hFL9 ys]
                simp only [y1]
                go_wp2_with fail
                exact ⟨_, rfl, HJ.out.plain (i := 2) (by decide) (by decide) (by decide) rfl (HJ.out.com.trans (S' := fun _ => False) (Grows.of_below (Below.refl _ _)) (fun _ h => h.elim)) (fun h => h.trans (Below.mono (Below.refl _ _) h.size)) (fun h => h.elim fun F2 hh => ⟨F2, hh.1.below (Below.refl _ _), hh.2.trans ⟨Grows.of_below (Below.refl _ _), fun _ h => .inl h⟩⟩)⟩
              case o3 =>
                intro d0 ys wx hJ hdi hw hdeps
                have q2 : d0 2 = true := by simp [Region.Deps2, Go.Region.binds] at hdeps; simp [hdeps]
                have y2 : ys 72 = .pointer (some ⟨P, 3, none⟩) := hJ.val 2 (by decide) q2
                clear hdeps
                have hC := Lib.hid hJ.com
                have vP := hC.out.var H6.out.var (fun h => h.elim H6.out.nF H6.out.nG)
                have p0 := vP.cell (j := 0) rfl
                have p2 := vP.cell (j := 2) rfl
                have p3 := vP.cell (j := 3) rfl
                unfold ptr at p0 p2 p3
                clear vP
                have vX := hC.out.var VX6.out NX6.out
                have x0 := vX.cell (j := 0) rfl
                have x1 := vX.cell (j := 1) rfl
                have x2 := vX.cell (j := 2) rfl
                have x3 := vX.cell (j := 3) rfl
                clear vX
                have HJ := Lib.hid hJ
                clear hJ hw
                rw [hFL9 ys]
                simp only [y2]
                go_wp2_with fail
                exact ⟨_, rfl, HJ.out.plain (i := 3) (by decide) (by decide) (by decide) rfl (HJ.out.com.trans (S' := fun _ => False) (Grows.of_below (Below.refl _ _)) (fun _ h => h.elim)) (fun h => h.trans (Below.mono (Below.refl _ _) h.size)) (fun h => h.elim fun F2 hh => ⟨F2, hh.1.below (Below.refl _ _), hh.2.trans ⟨Grows.of_below (Below.refl _ _), fun _ h => .inl h⟩⟩)⟩
              case o4 =>
                intro d0 ys wx hJ hdi hw hdeps
                clear hdeps
                have hC := Lib.hid hJ.com
                have vP := hC.out.var H6.out.var (fun h => h.elim H6.out.nF H6.out.nG)
                have p0 := vP.cell (j := 0) rfl
                have p2 := vP.cell (j := 2) rfl
                have p3 := vP.cell (j := 3) rfl
                unfold ptr at p0 p2 p3
                clear vP
                have vX := hC.out.var VX6.out NX6.out
                have x0 := vX.cell (j := 0) rfl
                have x1 := vX.cell (j := 1) rfl
                have x2 := vX.cell (j := 2) rfl
                have x3 := vX.cell (j := 3) rfl
                clear vX
                have HJ := Lib.hid hJ
                clear hJ hw
                rw [hFL9 ys]
                go_wp2_with fail
                exact ⟨_, rfl, HJ.out.plain (i := 4) (by decide) (by decide) (by decide) rfl (HJ.out.com.trans (S' := fun _ => False) (Grows.of_below (Below.refl _ _)) (fun _ h => h.elim)) (fun h => h.trans (Below.mono (Below.refl _ _) h.size)) (fun h => h.elim fun F2 hh => ⟨F2, hh.1.below (Below.refl _ _), hh.2.trans ⟨Grows.of_below (Below.refl _ _), fun _ h => .inl h⟩⟩)⟩
              case o5 =>
                intro d0 ys wx hJ hdi hw hdeps
                have q3 : d0 3 = true := by simp [Region.Deps2, Go.Region.binds] at hdeps; simp [hdeps]
                have y3 : ys 73 = .pointer (some ⟨r, 0, none⟩) := hJ.val 3 (by decide) q3
                have q4 : d0 4 = true := by simp [Region.Deps2, Go.Region.binds] at hdeps; simp [hdeps]
                have y4 : ys 74 = .agg #[.int .i64 fk, .int .u32 ya, .int .u32 yb, .string YD] := hJ.val 4 (by decide) q4
                clear hdeps
                have hC := Lib.hid hJ.com
                have hB := Lib.hid (hJ.m0 hdi)
                have HJ := Lib.hid hJ
                clear hJ hw
                rw [hFL9 ys]
                simp only [y3, y4]
                go_wp2_with (go_at_call 17; (with_reducible refine (HA2.out _ _ _ _ _ _ _ _ _ _ _ (H6.out.below hB.out)).mono ?_); rintro e wy ⟨rfl, Fy, hy, ay⟩)
                exact ⟨_, rfl, HJ.out.turn (by decide) (by decide) rfl (hC.out.trans (S' := both F6 GL) ay.grows (fun _ h => .inl h)) ⟨Fy, hy, After.trans (S1 := both F6 GL) ⟨Grows.of_below hB.out, fun _ h => .inl h⟩ ay⟩⟩
              case o6 =>
                intro d0 ys wx hJ hdi hw hdeps
                have q5 : d0 5 = true := by simp [Region.Deps2, Go.Region.binds] at hdeps; simp [hdeps]
                have y5 : ys 75 = .tuple #[.int .i64 (raA : Int), .int .i64 (raK : Int)] := hJ.val 5 (by decide) q5
                clear hdeps
                have HJ := Lib.hid hJ
                clear hJ hw
                rw [hFL9 ys]
                simp only [y5]
                go_wp2_with fail
                exact ⟨_, rfl, HJ.out.plain (i := 6) (by decide) (by decide) (by decide) rfl (HJ.out.com.trans (S' := fun _ => False) (Grows.of_below (Below.refl _ _)) (fun _ h => h.elim)) (fun h => h.trans (Below.mono (Below.refl _ _) h.size)) (fun h => h.elim fun F2 hh => ⟨F2, hh.1.below (Below.refl _ _), hh.2.trans ⟨Grows.of_below (Below.refl _ _), fun _ h => .inl h⟩⟩)⟩
              case o7 =>
                intro d0 ys wx hJ hdi hw hdeps
                have q6 : d0 6 = true := by simp [Region.Deps2, Go.Region.binds] at hdeps; simp [hdeps]
                have y6 : ys 69 = .tuple #[.int .i64 (raA : Int), .int .i64 (raK : Int)] := hJ.val 6 (by decide) q6
                clear hdeps
                have HJ := Lib.hid hJ
                clear hJ hw
                rw [hFL9 ys]
                simp only [y6]
                go_wp2_with fail
                exact ⟨_, rfl, HJ.out.plain (i := 7) (by decide) (by decide) (by decide) rfl (HJ.out.com.trans (S' := fun _ => False) (Grows.of_below (Below.refl _ _)) (fun _ h => h.elim)) (fun h => h.trans (Below.mono (Below.refl _ _) h.size)) (fun h => h.elim fun F2 hh => ⟨F2, hh.1.below (Below.refl _ _), hh.2.trans ⟨Grows.of_below (Below.refl _ _), fun _ h => .inl h⟩⟩)⟩
              case o8 =>
                intro d0 ys wx hJ hdi hw hdeps
                have q6 : d0 6 = true := by simp [Region.Deps2, Go.Region.binds] at hdeps; simp [hdeps]
                have y6 : ys 69 = .tuple #[.int .i64 (raA : Int), .int .i64 (raK : Int)] := hJ.val 6 (by decide) q6
                clear hdeps
                have HJ := Lib.hid hJ
                clear hJ hw
                rw [hFL9 ys]
                simp only [y6]
                go_wp2_with fail
                exact ⟨_, rfl, HJ.out.plain (i := 8) (by decide) (by decide) (by decide) rfl (HJ.out.com.trans (S' := fun _ => False) (Grows.of_below (Below.refl _ _)) (fun _ h => h.elim)) (fun h => h.trans (Below.mono (Below.refl _ _) h.size)) (fun h => h.elim fun F2 hh => ⟨F2, hh.1.below (Below.refl _ _), hh.2.trans ⟨Grows.of_below (Below.refl _ _), fun _ h => .inl h⟩⟩)⟩
              case o9 =>
                intro d0 ys wx hJ hdi hw hdeps
                have q7 : d0 7 = true := by simp [Region.Deps2, Go.Region.binds] at hdeps; simp [hdeps]
                have y7 : ys 76 = .int .i64 (raA : Int) := hJ.val 7 (by decide) q7
                clear hdeps
                have HJ := Lib.hid hJ
                clear hJ hw
                rw [hFL9 ys]
                simp only [y7]
                go_wp2_with fail
                exact ⟨_, rfl, HJ.out.plain (i := 9) (by decide) (by decide) (by decide) rfl (HJ.out.com.trans (S' := fun _ => False) (Grows.of_below (Below.refl _ _)) (fun _ h => h.elim)) (fun h => h.trans (Below.mono (Below.refl _ _) h.size)) (fun h => h.elim fun F2 hh => ⟨F2, hh.1.below (Below.refl _ _), hh.2.trans ⟨Grows.of_below (Below.refl _ _), fun _ h => .inl h⟩⟩)⟩
              case o10 =>
                intro d0 ys wx hJ hdi hw hdeps
                have q8 : d0 8 = true := by simp [Region.Deps2, Go.Region.binds] at hdeps; simp [hdeps]
                have y8 : ys 77 = .int .i64 (raK : Int) := hJ.val 8 (by decide) q8
                clear hdeps
                have HJ := Lib.hid hJ
                clear hJ hw
                rw [hFL9 ys]
                simp only [y8]
                go_wp2_with fail
                exact ⟨_, rfl, HJ.out.plain (i := 10) (by decide) (by decide) (by decide) rfl (HJ.out.com.trans (S' := fun _ => False) (Grows.of_below (Below.refl _ _)) (fun _ h => h.elim)) (fun h => h.trans (Below.mono (Below.refl _ _) h.size)) (fun h => h.elim fun F2 hh => ⟨F2, hh.1.below (Below.refl _ _), hh.2.trans ⟨Grows.of_below (Below.refl _ _), fun _ h => .inl h⟩⟩)⟩
            case donep2 => as_aux_lemma =>
              intro d0 ys wx hJ hall
              have hM : ∃ G2, Pair wx P p q t r p' q' raX raX F6 G2 ∧ After (both F6 GL) w6 wx (both F6 G2) := hJ.m1 (hall 5 (by decide))
              have h11 : ys 11 = .int .i64 (raA : Int) := hJ.val 9 (by decide) (hall 9 (by decide))
              have h9 : ys 9 = .int .i64 (raK : Int) := hJ.val 10 (by decide) (hall 10 (by decide))
              clear hJ hall
              rw [hFL9 ys]
              simp only [h11, h9]
              with_reducible refine Exists.elim hM ?_
              intro G6 hMM
              have H7 := Lib.hid hMM.1
              have A7 := Lib.hid hMM.2
              clear hM hMM
              go_wp2
              go_meet
              case rel => exact ⟨raK, raA, raX, F6, G6, rfl, rfl, rfl, rfl, HX.out.next OKA.out H7.out (A6.out.trans A7.out)⟩
      case rest =>
        obtain ⟨k, A, x2, F2, G2, rfl, rfl, rfl, rfl, hheld2⟩ := hcut
        have HY := Lib.hid hheld2
        clear hheld2 HLK HA1 HA2 HF1 HF2 OKA OKF HX VX s0 hm9
        have hlk := HY.out.pair.look
        with_reducible refine Exists.elim hlk ?_
        intro lka hlk
        with_reducible refine Exists.elim hlk ?_
        intro lkc hlk2
        have HLO := Lib.hid hlk2
        clear hlk hlk2
        have hi1 := fun w P p q t r p' q' y F G (h : Pair w P p q t r p' q' x2 y F G) => pImage h HY.out.ok
        have hi2 := fun w P p q t r p' q' y F G (h : Pair w P p q t r p' q' y x2 F G) => rImage h
        have hp1 := fun w P p q t r p' q' y F G (h : Pair w P p q t r p' q' x2 y F G) => pPending h HY.out.ok
        have hd1 := fun w P p q t r p' q' y F G (h : Pair w P p q t r p' q' x2 y F G) => pDown h HY.out.ok
        have hl1 := fun w P p q t r p' q' y F G (h : Pair w P p q t r p' q' x2 y F G) => pLeft h HY.out.ok
        have hl2 := fun w P p q t r p' q' y F G (h : Pair w P p q t r p' q' y x2 F G) => rLeft h HY.out.ok
        have hf1 := fun w P p q t r p' q' y F G (h : Pair w P p q t r p' q' x2 y F G) => pFree h HY.out.ok
        have hf2 := fun w P p q t r p' q' y F G (h : Pair w P p q t r p' q' y x2 F G) => rFree h HY.out.ok
        generalize bs x2.d.img = IM at hi1 hi2
        generalize x2.d.wait.length = WL at hp1 HLO
        generalize x2.d.down = DW at hd1 HLO
        generalize x2.c.left = LF at hl1 hl2
        generalize x2.c.free = FE at hf1 hf2
        have HI1 := Lib.hid hi1
        have HI2 := Lib.hid hi2
        have HP1 := Lib.hid hp1
        have HD1 := Lib.hid hd1
        have HL1 := Lib.hid hl1
        have HL2 := Lib.hid hl2
        have HF1 := Lib.hid hf1
        have HF2 := Lib.hid hf2
        clear hi1 hi2 hp1 hd1 hl1 hl2 hf1 hf2
        have z1 : ((A : Int) != (A : Int)) = false := by simp
        have z2 : ((k : Int) != (k : Int)) = false := by simp
        have z3 : (IM.toList == IM.toList) = true := by simp
        have z4 : (IM.toList != IM.toList) = false := by simp
        have z5 : ((WL : Int) != (WL : Int)) = false := by simp
        have z6 : (DW != DW) = false := by cases DW <;> rfl
        have z7 : ((LF : Int) != (LF : Int)) = false := by simp
        have z8 : ((FE : Int) != (FE : Int)) = false := by simp
        have z9 : (DW == DW) = true := by cases DW <;> rfl
        go_wp2
        apply with_fill [149, 150, 151, 152, 153, 154, 155, 156, 157, 158, 159, 160, 161, 162, 163, 164, 165, 166, 167, 168, 169, 170, 171, 172, 173, 174, 175, 176, 177, 178, 179, 180, 181, 182, 183, 184, 185, 186, 187, 188, 189, 190, 191, 192, 193, 194, 195, 196, 197, 198, 199, 200, 201, 202, 203, 204, 205, 206, 207, 208, 209]
        case hFL => intro ys; simp only [List.getD_cons_succ, List.getD_cons_zero, fill, slots, List.filterMap_cons, List.filterMap_nil, id, List.foldl_cons, List.foldl_nil, Act.put, List.setIfInBounds_toArray, List.set_cons_succ, List.set_cons_zero]; exact rfl
        intro hFL10
        refine wp_region_is [149, 150, 151, 152, 153, 154, 155, 156, 157, 158, 159, 160, 161, 162, 163, 164, 165, 166, 167, 168, 169, 170, 171, 172, 173, 174, 175, 176, 177, 178, 179, 180, 181, 182, 183, 184, 185, 186, 187, 188, 189, 190, 191, 192, 193, 194, 195, 196, 197, 198, 199, 200, 201, 202, 203, 204, 205, 206, 207, 208, 209] (fun w' => Below wc.heap.size wc w')
          [.int .i64 (A : Int), .int .i64 (A : Int), .bool false, .bool false, .int .i64 (k : Int), .int .i64 (k : Int), .bool false, .bool false, .bool false, .pointer (some ⟨P, 0, none⟩), .pointer (some ⟨P, 0, none⟩), .pointer (some ⟨P, 0, none⟩), .pointer (some ⟨p, 0, none⟩), .string IM, .pointer (some ⟨P, 0, none⟩), .pointer (some ⟨P, 0, none⟩), .pointer (some ⟨P, 3, none⟩), .pointer (some ⟨r, 0, none⟩), .pointer (some ⟨r, 0, none⟩), .pointer (some ⟨r, 0, none⟩), .pointer (some ⟨p', 0, none⟩), .string IM, .bool false, .bool false, .bool false, .pointer (some ⟨P, 0, none⟩), .pointer (some ⟨P, 0, none⟩), .pointer (some ⟨P, 0, none⟩), .pointer (some ⟨p, 0, none⟩), .int .i64 (WL : Int), .pointer (some ⟨P, 0, none⟩), .pointer (some ⟨P, 0, none⟩), .pointer (some ⟨P, 3, none⟩), .pointer (some ⟨r, 0, none⟩), .pointer (some ⟨r, 0, none⟩), .pointer (some ⟨r, 0, none⟩), .pointer (some ⟨p', 0, none⟩), .pointer (some ⟨p', 0, none⟩), .pointer (some ⟨p', 4, none⟩), .slice lka WL lkc, .int .i64 (WL : Int), .bool false, .bool false, .bool false, .pointer (some ⟨P, 0, none⟩), .pointer (some ⟨P, 0, none⟩), .pointer (some ⟨P, 0, none⟩), .pointer (some ⟨p, 0, none⟩), .bool DW, .pointer (some ⟨P, 0, none⟩), .pointer (some ⟨P, 0, none⟩), .pointer (some ⟨P, 3, none⟩), .pointer (some ⟨r, 0, none⟩), .pointer (some ⟨r, 0, none⟩), .pointer (some ⟨r, 0, none⟩), .pointer (some ⟨p', 0, none⟩), .pointer (some ⟨p', 0, none⟩), .pointer (some ⟨p', 7, none⟩), .bool DW, .bool false, .bool false] (by kernel_rfl) (by kernel_rfl) rfl (by decide) (by simp) (Below.refl _ _).drew ?eachx ?donex
        case eachx => as_aux_lemma =>
          simp only [Each]
          repeat' (first | exact trivial | refine And.intro ?_ ?_)
          all_goals
            intro ys wx hBx hdeps
            simp only [Deps, Region.binds, List.getD_cons_zero, List.getD_cons_succ, forall_const, and_true] at hdeps
            have lk := HLO.out wx hBx
            have p0 := lk.1
            have p1 := lk.2.1
            have p2 := lk.2.2.1
            have p3 := lk.2.2.2.1
            have p4 := lk.2.2.2.2.1
            have p5 := lk.2.2.2.2.2.1
            have p6 := lk.2.2.2.2.2.2.1
            have p7 := lk.2.2.2.2.2.2.2
            clear lk
            rw [hFL10 ys]
            try simp only [hdeps]
            first
              | (go_wp2_with fail; exact ⟨_, rfl, rfl, hBx, Below.refl _ _⟩)
              | (go_wp2_with (go_at_call 18; (with_reducible refine (HI1.out _ _ _ _ _ _ _ _ _ _ _ (HY.out.pair.below hBx)).mono ?_); rintro e w3 ⟨rfl, hm⟩); exact ⟨_, rfl, rfl, hBx.trans (hm.mono hBx.size), hm⟩)
              | (go_wp2_with (go_at_call 19; (with_reducible refine (HI2.out _ _ _ _ _ _ _ _ _ _ _ (HY.out.pair.below hBx)).mono ?_); rintro e w3 ⟨rfl, rfl⟩); exact ⟨_, rfl, rfl, hBx, Below.refl _ _⟩)
              | (go_wp2_with (go_at_call 20; (with_reducible refine (HP1.out _ _ _ _ _ _ _ _ _ _ _ (HY.out.pair.below hBx)).mono ?_); rintro e w3 ⟨rfl, hm⟩); exact ⟨_, rfl, rfl, hBx.trans (hm.mono hBx.size), hm⟩)
              | (go_wp2_with (go_at_call 21; (with_reducible refine (HD1.out _ _ _ _ _ _ _ _ _ _ _ (HY.out.pair.below hBx)).mono ?_); rintro e w3 ⟨rfl, hm⟩); exact ⟨_, rfl, rfl, hBx.trans (hm.mono hBx.size), hm⟩)
        case donex =>
          intro ys wx hBx hV
          have h209 : ys 209 = .bool false := hV 60 (by decide)
          obtain ⟨w7, hw7⟩ : ∃ w7, w7 = wx := ⟨_, rfl⟩
          rw [← hw7] at hBx ⊢
          have BZ := Lib.hid hBx
          have HZ := Lib.hid (HY.out.below hBx)
          clear hBx hV hw7
          rw [hFL10 ys]
          simp only [h209, List.drop_succ_cons, List.drop_zero]
          by_cases hk6 : k = 6
          · subst hk6
            go_wp2
            go_ret
            exact ⟨rfl, HZ.out.bel⟩
          · have c6 : ((k : Int) == 6) = false := by simp; omega
            clear hk6
            go_wp2
            apply with_fill [212, 213, 214, 215, 216, 217, 218, 219, 220, 221, 222, 223, 224, 225, 226, 227, 228, 229, 230, 231, 232, 233, 234, 235, 236, 237, 238, 239, 240, 241]
            case hFL => intro ys; simp only [List.getD_cons_succ, List.getD_cons_zero, fill, slots, List.filterMap_cons, List.filterMap_nil, id, List.foldl_cons, List.foldl_nil, Act.put, List.setIfInBounds_toArray, List.set_cons_succ, List.set_cons_zero]; exact rfl
            intro hFL11
            refine wp_region_is [212, 213, 214, 215, 216, 217, 218, 219, 220, 221, 222, 223, 224, 225, 226, 227, 228, 229, 230, 231, 232, 233, 234, 235, 236, 237, 238, 239, 240, 241] (fun w' => Below w7.heap.size w7 w')
              [.pointer (some ⟨P, 0, none⟩), .pointer (some ⟨P, 0, none⟩), .pointer (some ⟨P, 1, none⟩), .pointer (some ⟨q, 0, none⟩), .int .i64 (LF : Int), .pointer (some ⟨P, 0, none⟩), .pointer (some ⟨P, 0, none⟩), .pointer (some ⟨P, 3, none⟩), .pointer (some ⟨r, 0, none⟩), .pointer (some ⟨r, 0, none⟩), .pointer (some ⟨r, 1, none⟩), .pointer (some ⟨q', 0, none⟩), .int .i64 (LF : Int), .bool false, .bool false, .pointer (some ⟨P, 0, none⟩), .pointer (some ⟨P, 0, none⟩), .pointer (some ⟨P, 1, none⟩), .pointer (some ⟨q, 0, none⟩), .int .i64 (FE : Int), .pointer (some ⟨P, 0, none⟩), .pointer (some ⟨P, 0, none⟩), .pointer (some ⟨P, 3, none⟩), .pointer (some ⟨r, 0, none⟩), .pointer (some ⟨r, 0, none⟩), .pointer (some ⟨r, 1, none⟩), .pointer (some ⟨q', 0, none⟩), .int .i64 (FE : Int), .bool false, .bool false] (by kernel_rfl) (by kernel_rfl) rfl (by decide) (by simp) (Below.refl _ _).drew ?eachy ?doney
            case eachy => as_aux_lemma =>
              simp only [Each]
              repeat' (first | exact trivial | refine And.intro ?_ ?_)
              all_goals
                intro ys wx hBx hdeps
                simp only [Deps, Region.binds, List.getD_cons_zero, List.getD_cons_succ, forall_const, and_true] at hdeps
                have lk := HLO.out wx (bel2 BZ.out hBx)
                have p0 := lk.1
                have p1 := lk.2.1
                have p2 := lk.2.2.1
                have p3 := lk.2.2.2.1
                have p4 := lk.2.2.2.2.1
                have p5 := lk.2.2.2.2.2.1
                have p6 := lk.2.2.2.2.2.2.1
                have p7 := lk.2.2.2.2.2.2.2
                clear lk
                rw [hFL11 ys]
                try simp only [hdeps]
                first
                  | (go_wp2_with fail; exact ⟨_, rfl, rfl, hBx, Below.refl _ _⟩)
                  | (go_wp2_with (go_at_call 22; (with_reducible refine (HL1.out _ _ _ _ _ _ _ _ _ _ _ (HZ.out.pair.below hBx)).mono ?_); rintro e w3 ⟨rfl, hm⟩); exact ⟨_, rfl, rfl, hBx.trans (hm.mono hBx.size), hm⟩)
                  | (go_wp2_with (go_at_call 23; (with_reducible refine (HL2.out _ _ _ _ _ _ _ _ _ _ _ (HZ.out.pair.below hBx)).mono ?_); rintro e w3 ⟨rfl, hm⟩); exact ⟨_, rfl, rfl, hBx.trans (hm.mono hBx.size), hm⟩)
                  | (go_wp2_with (go_at_call 24; (with_reducible refine (HF1.out _ _ _ _ _ _ _ _ _ _ _ (HZ.out.pair.below hBx)).mono ?_); rintro e w3 ⟨rfl, hm⟩); exact ⟨_, rfl, rfl, hBx.trans (hm.mono hBx.size), hm⟩)
                  | (go_wp2_with (go_at_call 25; (with_reducible refine (HF2.out _ _ _ _ _ _ _ _ _ _ _ (HZ.out.pair.below hBx)).mono ?_); rintro e w3 ⟨rfl, rfl⟩); exact ⟨_, rfl, rfl, hBx, Below.refl _ _⟩)
            case doney => as_aux_lemma =>
              intro ys wx hBx hV
              have h241 : ys 241 = .bool false := hV 29 (by decide)
              have HQ := Lib.hid (HZ.out.below hBx)
              clear hBx hV
              rw [hFL11 ys]
              simp only [h241, List.drop_succ_cons, List.drop_zero]
              go_wp2
              go_roundw
              case rel => exact ⟨i + 1, x2, F2, G2, by go_num, by omega, by omega, HQ.out⟩
              case measure => simp [intOf]; omega
end Go.Proofs.YtcmjambbdfangaaGreat.Tape
