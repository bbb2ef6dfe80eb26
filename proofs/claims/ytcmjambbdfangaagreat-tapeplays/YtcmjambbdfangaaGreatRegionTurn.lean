/-
  A drawn region in which one call, or two in their order, turn memory; all other operations only read, or make new memory.
-/
import Derived.Test.YtcmjambbdfangaaGreatRunRegion
set_option linter.unusedVariables false
set_option linter.unusedSimpArgs false
namespace Go.Proofs.YtcmjambbdfangaaGreat.Region
open Go.RowKit

theorem upd_eq (d : Nat → Bool) (i : Nat) : upd d i i = true := by unfold upd; rw [if_pos rfl]
theorem upd_ne {d : Nat → Bool} {i j : Nat} (h : j ≠ i) : upd d i j = d j := by unfold upd; rw [if_neg h]
theorem upd_mono {d : Nat → Bool} {i j : Nat} (h : d j = true) : upd d i j = true := by unfold upd; split <;> simp_all
theorem put_eq (ys : Nat → Value) (s : Nat) (v : Value) : put ys (some s) v s = v := by simp [put]
theorem put_ne {ys : Nat → Value} {s t : Nat} (v : Value) (h : t ≠ s) : put ys (some s) v t = ys t := by simp [put, h]
/-- one call (the k-th operation) turns memory: C always, M0 ahead of it, M1 behind it -/
structure TJ (sl : List Nat) (tab : List Value) (k : Nat) (C M0 M1 : World → Prop) (dd : Nat → Bool) (ys : Nat → Value) (wx : World) : Prop where
  val : ∀ i, i < sl.length → dd i = true → ys (sl.getD i 0) = tab.getD i undef
  com : C wx
  m0 : dd k = false → M0 wx
  m1 : dd k = true → M1 wx
theorem put_slots {sl : List Nat} (hn : sl.Nodup) {tab : List Value} {dd : Nat → Bool} {ys : Nat → Value} (h : ∀ i, i < sl.length → dd i = true → ys (sl.getD i 0) = tab.getD i undef) {i : Nat} (hi : i < sl.length) {v : Value} (hv : v = tab.getD i undef) :
    ∀ j, j < sl.length → upd dd i j = true → put ys (some (sl.getD i 0)) v (sl.getD j 0) = tab.getD j undef := by
  intro j hj hd
  by_cases e : j = i
  · subst e; rw [put_eq]; exact hv
  · rw [put_ne v, h j hj (by rw [upd_ne e] at hd; exact hd)]
    intro h2
    rw [List.getD_eq_getElem?_getD, List.getD_eq_getElem?_getD, List.getElem?_eq_getElem hj, List.getElem?_eq_getElem hi] at h2
    exact e ((List.getElem_inj hn).1 h2)
theorem TJ.plain {sl : List Nat} {tab : List Value} {k : Nat} {C M0 M1 : World → Prop} {dd : Nat → Bool} {ys : Nat → Value} {wx wy : World} (h : TJ sl tab k C M0 M1 dd ys wx) (hn : sl.Nodup) {i : Nat} (hi : i < sl.length) (hk : i ≠ k) {v : Value} (hv : v = tab.getD i undef)
    (hC : C wy) (h0 : M0 wx → M0 wy) (h1 : M1 wx → M1 wy) : TJ sl tab k C M0 M1 (upd dd i) (put ys (some (sl.getD i 0)) v) wy :=
  ⟨put_slots hn h.val hi hv, hC, fun e => h0 (h.m0 (by rw [upd_ne (Ne.symm hk)] at e; exact e)), fun e => h1 (h.m1 (by rw [upd_ne (Ne.symm hk)] at e; exact e))⟩
theorem TJ.turn {sl : List Nat} {tab : List Value} {k : Nat} {C M0 M1 : World → Prop} {dd : Nat → Bool} {ys : Nat → Value} {wx wy : World} (h : TJ sl tab k C M0 M1 dd ys wx) (hn : sl.Nodup) (hi : k < sl.length) {v : Value} (hv : v = tab.getD k undef)
    (hC : C wy) (h1 : M1 wy) : TJ sl tab k C M0 M1 (upd dd k) (put ys (some (sl.getD k 0)) v) wy :=
  ⟨put_slots hn h.val hi hv, hC, fun e => by rw [upd_eq] at e; simp at e, fun _ => h1⟩
/-- two calls, the k-th and behind it the l-th operation -/
structure TJ2 (sl : List Nat) (tab : List Value) (k l : Nat) (C M0 M1 M2 : World → Prop) (dd : Nat → Bool) (ys : Nat → Value) (wx : World) : Prop where
  val : ∀ i, i < sl.length → dd i = true → ys (sl.getD i 0) = tab.getD i undef
  ord : dd l = true → dd k = true
  com : C wx
  m0 : dd k = false → M0 wx
  m1 : dd k = true → dd l = false → M1 wx
  m2 : dd l = true → M2 wx
theorem TJ2.plain {sl : List Nat} {tab : List Value} {k l : Nat} {C M0 M1 M2 : World → Prop} {dd : Nat → Bool} {ys : Nat → Value} {wx wy : World} (h : TJ2 sl tab k l C M0 M1 M2 dd ys wx) (hn : sl.Nodup) {i : Nat} (hi : i < sl.length) (hk : i ≠ k) (hl : i ≠ l) {v : Value} (hv : v = tab.getD i undef)
    (hC : C wy) (h0 : M0 wx → M0 wy) (h1 : M1 wx → M1 wy) (h2 : M2 wx → M2 wy) : TJ2 sl tab k l C M0 M1 M2 (upd dd i) (put ys (some (sl.getD i 0)) v) wy :=
  ⟨put_slots hn h.val hi hv, fun e => by rw [upd_ne (Ne.symm hl)] at e; rw [upd_ne (Ne.symm hk)]; exact h.ord e, hC, fun e => h0 (h.m0 (by rw [upd_ne (Ne.symm hk)] at e; exact e)),
    fun e f => h1 (h.m1 (by rw [upd_ne (Ne.symm hk)] at e; exact e) (by rw [upd_ne (Ne.symm hl)] at f; exact f)), fun e => h2 (h.m2 (by rw [upd_ne (Ne.symm hl)] at e; exact e))⟩
theorem TJ2.turn {sl : List Nat} {tab : List Value} {k l : Nat} {C M0 M1 M2 : World → Prop} {dd : Nat → Bool} {ys : Nat → Value} {wx wy : World} (h : TJ2 sl tab k l C M0 M1 M2 dd ys wx) (hn : sl.Nodup) (hi : k < sl.length) (hkl : k ≠ l) (hd : dd k = false) {v : Value} (hv : v = tab.getD k undef)
    (hC : C wy) (h1 : M1 wy) : TJ2 sl tab k l C M0 M1 M2 (upd dd k) (put ys (some (sl.getD k 0)) v) wy := by
  have hl : dd l = false := by
    cases e : dd l with
    | false => rfl
    | true => rw [h.ord e] at hd; simp at hd
  exact ⟨put_slots hn h.val hi hv, fun _ => upd_eq _ _, hC, fun e => by rw [upd_eq] at e; simp at e, fun _ _ => h1, fun e => by rw [upd_ne (Ne.symm hkl), hl] at e; simp at e⟩
theorem TJ2.turn2 {sl : List Nat} {tab : List Value} {k l : Nat} {C M0 M1 M2 : World → Prop} {dd : Nat → Bool} {ys : Nat → Value} {wx wy : World} (h : TJ2 sl tab k l C M0 M1 M2 dd ys wx) (hn : sl.Nodup) (hi : l < sl.length) (hkl : k ≠ l) (hd : dd k = true) {v : Value} (hv : v = tab.getD l undef)
    (hC : C wy) (h2 : M2 wy) : TJ2 sl tab k l C M0 M1 M2 (upd dd l) (put ys (some (sl.getD l 0)) v) wy :=
  ⟨put_slots hn h.val hi hv, fun _ => by rw [upd_ne hkl]; exact hd, hC, fun e => by rw [upd_ne hkl, hd] at e; simp at e, fun _ e => by rw [upd_eq] at e; simp at e, fun _ => h2⟩
/-- a drawn region's frame reckoned once -/
theorem with_fill {P : Program} {c : Code} {Q : Exit → Act → World → Prop} {a : Act} {w : World} (dst : List Nat) {FL : (Nat → Value) → Act} (hFL : ∀ ys, fill a dst ys = FL ys) (k : (∀ ys, fill a dst ys = FL ys) → c.wp P Q a w) : c.wp P Q a w := k hFL
end Go.Proofs.YtcmjambbdfangaaGreat.Region
