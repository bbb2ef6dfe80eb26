/-
  FlashPlays' walk: any calls on a device are answered as the document says.
-/
import Derived.Test.YtgcbdekdjdlfaaaFlashH
import Derived.Test.YtgcbdekdjdlfaaaPick
import Derived.Test.YtgcbdekdjdlfaaaGeomB
set_option linter.unusedVariables false
set_option linter.unusedSimpArgs false
namespace Go.Proofs.Ytgcbdekdjdlfaaa.Flash
open Go.RowKit
open Go.Proofs.Ytgcbdekdjdlfaaa.Own
open Tup Bytes Foot
open Go.Proofs.Ytgcbdekdjdlfaaa.Region (fill Then Deps Each wp_region_is wp_region_is_tail Deps2 Each2 Owes upd put wp_region_each3 slots)
/-- a step in memory: its numbers, the place of its mask -/
structure StM where
  t : St
  ma : Option Addr
  mc : Nat
def StM.cells (x : StM) : List Value := [.int .i64 x.t.what, .int .i64 x.t.a, .int .i64 x.t.b, .string x.t.s, .int .u8 (x.t.x.toNat : Int), .slice x.ma x.t.m.length x.mc, .bool x.t.near]
def flatS (l : List StM) : List Value := l.flatMap StM.cells
theorem flatS_get {l : List StM} {k : Nat} (h : k < l.length) {j : Nat} (hj : j < 7) : (flatS l)[k * 7 + j]? = l[k].cells[j]? := by
  induction l generalizing k with
  | nil => simp at h
  | cons x r ih =>
    cases k with
    | zero =>
      simp only [flatS, List.flatMap_cons, List.getElem_cons_zero]
      rw [List.getElem?_append_left (by simp [StM.cells]; omega), Nat.zero_mul, Nat.zero_add]
    | succ k =>
      have := ih (k := k) (by simpa using h)
      simp only [flatS, List.flatMap_cons, List.getElem_cons_succ] at this ⊢
      rw [List.getElem?_append_right (by simp [StM.cells]; omega), show (k + 1) * 7 + j - x.cells.length = k * 7 + j by simp [StM.cells]; omega]
      exact this
/-- what is asked of the steps in memory -/
structure Steps (w : World) (la : Option Addr) (l : List StM) : Prop where
  row : At w la (flatS l)
  text : ∀ x ∈ l, x.t.s.size ≤ maxLen
  mask : ∀ x ∈ l, Ints w x.ma x.t.m
  nums : ∀ x ∈ l, ∀ m ∈ x.t.m, m < 9223372036854775808
  len : ∀ x ∈ l, x.t.m.length ≤ maxLen
theorem Steps.get {w : World} {la : Option Addr} {l : List StM} (h : Steps w la l) {k : Nat} (hk : k < l.length) : ∃ b off, la = some ⟨b, off, none⟩ ∧ b < w.heap.size ∧ ∀ j, j < 7 → ∀ c, l[k].cells[j]? = some c → w.cell? ⟨b, off + k * 7 + j, none⟩ = some c := by
  rcases h.row with hn | ⟨b, off, ha, hl⟩
  · exfalso
    have h0 := flatS_get hk (show 0 < 7 by omega)
    rw [hn] at h0
    simp [StM.cells] at h0
  · have hlt : b < w.heap.size := by
      refine hl.lt ?_
      intro hn
      have h0 := flatS_get hk (show 0 < 7 by omega)
      rw [hn] at h0
      simp [StM.cells] at h0
    refine ⟨b, off, ha, hlt, fun j hj c hc => ?_⟩
    have := hl (k * 7 + j) c (by rw [flatS_get hk hj]; exact hc)
    rwa [← Nat.add_assoc] at this
/-- behind some of the operations of '!step(..) || !same(..)' -/
def PJ (w1 : World) (B p r : Nat) (d d' : Dev) (tab : List Value) (dd : Nat → Bool) (ys : Nat → Value) (wx : World) : Prop :=
  (∀ i, i < 25 → dd i = true → ys (52 + i) = tab.getD i undef) ∧ (dd 8 = true → dd 7 = true) ∧ (dd 7 = true → dd 6 = true)
  ∧ ∃ S R, Two wx p r (if dd 6 then d' else d) (if dd 6 then d' else d) S R ∧ Safe B w1 wx (both S R)
theorem PJ.tabs {w1 : World} {B p r : Nat} {d d' : Dev} {tab : List Value} {dd : Nat → Bool} {ys : Nat → Value} {wx : World} (h : PJ w1 B p r d d' tab dd ys wx) {i : Nat} {v : Value} (hv : v = tab.getD i undef) :
    ∀ j, j < 25 → upd dd i j = true → put ys (some (52 + i)) v (52 + j) = tab.getD j undef := by
  intro j hj hd
  by_cases e : j = i
  · subst e; rw [put_eq]; exact hv
  · rw [put_ne v (by omega)]
    rw [upd_ne e] at hd
    exact h.1 j hj hd
theorem PJ.plain {w1 : World} {B p r : Nat} {d d' : Dev} {tab : List Value} {dd : Nat → Bool} {ys : Nat → Value} {wx wy : World} (h : PJ w1 B p r d d' tab dd ys wx) {i : Nat} (h6 : i ≠ 6) (h7 : i = 7 → dd 6 = true) (h8 : i = 8 → dd 7 = true) {v : Value} (hv : v = tab.getD i undef) (hb : Below wx.heap.size wx wy) :
    PJ w1 B p r d d' tab (upd dd i) (put ys (some (52 + i)) v) wy := by
  refine ⟨h.tabs hv, fun x => ?_, fun x => ?_, ?_⟩
  · by_cases e : 7 = i
    · rw [e]; exact upd_eq _ _
    · rw [upd_ne e]
      by_cases e2 : 8 = i
      · exact h8 e2.symm
      · rw [upd_ne e2] at x; exact h.2.1 x
  · rw [upd_ne (fun e => h6 e.symm)]
    by_cases e2 : 7 = i
    · exact h7 e2.symm
    · rw [upd_ne e2] at x; exact h.2.2.1 x
  · rw [upd_ne (fun e => h6 e.symm)]
    obtain ⟨S, R, t, s⟩ := h.2.2.2
    exact ⟨S, R, t.below hb, s.below hb⟩
theorem PJ.step {w1 : World} {B p r : Nat} {d d' : Dev} {tab : List Value} {dd : Nat → Bool} {ys : Nat → Value} {wx wy : World} {S R : Nat → Prop} (h : PJ w1 B p r d d' tab dd ys wx) (t : Two wy p r d' d' S R) (s : Safe B w1 wy (both S R)) {v : Value} (hv : v = tab.getD 6 undef) :
    PJ w1 B p r d d' tab (upd dd 6) (put ys (some 58) v) wy := by
  refine ⟨h.tabs hv, fun x => ?_, fun x => upd_eq _ _, S, R, ?_⟩
  · rw [upd_ne (by omega)] at x ⊢; exact h.2.1 x
  · rw [upd_eq, if_pos rfl]; exact ⟨t, s⟩
end Go.Proofs.Ytgcbdekdjdlfaaa.Flash
