/-
  An argument that is a row of writes, opened.
-/
import Derived.Test.YtligapgjdpdihaaDoorRunBatchM
import Derived.Test.YtligapgjdpdihaaDoorRunCommon
import Derived.Deep.Slices
import Derived.ChangeSame
set_option linter.unusedVariables false
set_option linter.unusedSimpArgs false
namespace Go.Proofs.YtligapgjdpdihaaDoor.Batch
open Go.ChangeShapes Go.WideShapes Go.ChangeAt Go.RowKit
open Tup

/-- a write as a datum -/
def dW {H : Type} (x : Wr) : DataW H := .agg [.lit (.string x.key.data.toList), .lit (.bool x.del), .lit (.string x.val.data.toList)]
set_option maxRecDepth 100000 in
theorem trod_write {H : Type} {enc : TypeId × Value → H} {W : World} {base : Nat} {spare : Nat → Bool} {held : Bool} {n : Nat} {cs : List Value} {D : DataW H} {Pl : List MemPlace}
    (h : DataW.trod enc Tryd.prog W base spare held n 55 cs = some (D, Pl)) : ∃ x : Wr, cs = wrC x ∧ D = dW x ∧ x.key.size ≤ maxLen ∧ x.val.size ≤ maxLen := by
  have hC : Tryd.prog.cellsOf 55 = 3 := by kernel_rfl
  have c9 : Tryd.prog.cellsOf 9 = 1 := by kernel_rfl
  have c4 : Tryd.prog.cellsOf 4 = 1 := by kernel_rfl
  obtain ⟨xs, m, _, he, hl, hlen, hf⟩ := DataW.trod_struct Tryd.underlying55 h
  rw [hC] at hl
  match cs, hl with
  | [v0, v1, v2], _ =>
    match xs, hlen with
    | [y0, y1, y2], _ =>
      have f0 : DataW.trod enc Tryd.prog W base spare held m 9 [v0] = some y0 := by simpa [c9] using hf 0 _ rfl
      have f1 : DataW.trod enc Tryd.prog W base spare held m 4 [v1] = some y1 := by simpa [c4] using hf 1 _ rfl
      have f2 : DataW.trod enc Tryd.prog W base spare held m 9 [v2] = some y2 := by simpa [c9] using hf 2 _ rfl
      obtain ⟨s, e0, k0, z0⟩ := DataW.trod_string Tryd.underlying9 f0
      obtain ⟨b, e1, k1⟩ := DataW.trod_bool Tryd.underlying4 f1
      obtain ⟨t, e2, k2, z2⟩ := DataW.trod_string Tryd.underlying9 f2
      simp only [List.cons.injEq, and_true] at e0 e1 e2
      subst e0 e1 e2
      simp only [Prod.mk.injEq] at he
      refine ⟨⟨s, b, t⟩, rfl, ?_, z0, z2⟩
      rw [he.1]
      simp [dW, k0, k1, k2]
theorem add_place (b off j : Nat) : (⟨b, off, none⟩ : Addr).add j = ⟨b, off + j, none⟩ := by unfold Addr.add; split <;> simp_all
set_option maxRecDepth 100000 in
theorem open_writes {H : Type} {enc : TypeId × Value → H} {W : World} {base : Nat} {v : Value} {d : DataW H} {p : List MemPlace}
    (hv : Value.okWide Tryd.prog W .any base 25 v) (h : DataW.Trod enc Tryd.prog W 0 (fun _ => true) true 25 v d p) :
    ∃ (a : Option Addr) (cap : Nat) (l : List Wr), v = .slice a l.length cap ∧ WAt W a l ∧ l.length ≤ maxLen ∧ (∀ x ∈ l, x.key.size ≤ maxLen ∧ x.val.size ≤ maxLen) ∧ ((d = .nil ∧ l = []) ∨ ∃ sp, d = .slice (l.map dW) sp) := by
  have hC : Tryd.prog.cellsOf 55 = 3 := by kernel_rfl
  obtain ⟨a0, len0, cap0, rfl⟩ := okWide_slice Tryd.underlying25 hv
  obtain ⟨fuel, hf⟩ := h
  rcases Go.Deep.open_slice Tryd.underlying25 hf with ⟨hcs, hx⟩ | ⟨a, len, cap, m, n, D, Pl, hcs, _, hl, hm, hmm, hx, hi⟩
  · simp [Value.cells] at hcs
    obtain ⟨rfl, rfl, rfl⟩ := hcs
    simp only [Prod.mk.injEq] at hx
    exact ⟨none, 0, [], rfl, .inl rfl, by simp, by simp, .inl ⟨hx.1, rfl⟩⟩
  · simp [Value.cells] at hcs
    obtain ⟨rfl, rfl, rfl⟩ := hcs
    simp only [if_true] at hmm
    have key : ∀ i, i < len0 → ∃ x : Wr, W.cells? 0 (a.add (i * 3)) 3 = some (wrC x) ∧ D i = dW x ∧ x.key.size ≤ maxLen ∧ x.val.size ≤ maxLen := by
      intro i hil
      obtain ⟨cs', h1, h2⟩ := hi i (by omega)
      rw [hC] at h1
      obtain ⟨x, rfl, h3⟩ := trod_write h2
      exact ⟨x, h1, h3⟩
    let f : Nat → Wr := fun i => if hil : i < len0 then (key i hil).choose else default
    have hfs : ∀ i, (hil : i < len0) → W.cells? 0 (a.add (i * 3)) 3 = some (wrC (f i)) ∧ D i = dW (f i) ∧ (f i).key.size ≤ maxLen ∧ (f i).val.size ≤ maxLen := by
      intro i hil
      have := (key i hil).choose_spec
      simp only [f, hil, dif_pos]
      exact this
    have hlen : ((List.range len0).map f).length = len0 := by simp
    refine ⟨some a, cap0, (List.range len0).map f, by rw [hlen], ?_, by omega, ?_, .inr ⟨(List.range (m - len0)).map fun j => D (len0 + j), ?_⟩⟩
    · by_cases h0 : len0 = 0
      · subst h0; exact .inl rfl
      · obtain ⟨b, off, spot⟩ := a
        have hat : ∀ i, i < len0 → ∀ j c, (wrC (f i))[j]? = some c → W.cell? ((⟨b, off, spot⟩ : Addr).add (i * 3) |>.add j) = some c := by
          intro i hil j c hj
          obtain ⟨_, _, hc⟩ := World.cells?_some (hfs i hil).1
          have hj3 : j < 3 := (List.getElem?_eq_some_iff.1 hj).1
          rw [hc j hj3]; exact hj
        have hspot : spot = none := by
          have h1 := hat 0 (by omega) 0 _ rfl
          simpa [Addr.add] using World.cell?_spot h1
        subst hspot
        refine .inr ⟨b, off, rfl, fun j c hj => ?_⟩
        have hjl : j < len0 * 3 := by
          have := (List.getElem?_eq_some_iff.1 hj).1
          rw [flatW_length, hlen] at this; exact this
        have hd : j = j / 3 * 3 + j % 3 := by omega
        have hx3 : ((List.range len0).map f)[j / 3]? = some (f (j / 3)) := by
          rw [List.getElem?_map, List.getElem?_range (by omega)]; rfl
        obtain ⟨g0, g1, g2⟩ := flatW_at _ _ _ hx3
        have hr : (wrC (f (j / 3)))[j % 3]? = some c := by
          rcases (show j % 3 = 0 ∨ j % 3 = 1 ∨ j % 3 = 2 by omega) with h3 | h3 | h3
          · rw [hd, h3, Nat.add_zero, g0] at hj; rw [h3]; exact hj
          · rw [hd, h3, g1] at hj; rw [h3]; exact hj
          · rw [hd, h3, g2] at hj; rw [h3]; exact hj
        have := hat (j / 3) (by omega) (j % 3) c hr
        rw [add_place, add_place, Nat.add_assoc, ← hd] at this
        exact this
    · intro x hxm
      obtain ⟨i, hir, rfl⟩ := List.mem_map.1 hxm
      exact (hfs i (by simpa using hir)).2.2
    · simp only [Prod.mk.injEq] at hx
      rw [hx.1]
      congr 1
      rw [List.map_map]
      apply List.map_congr_left
      intro i hir
      exact (hfs i (by simpa using hir)).2.1
end Go.Proofs.YtligapgjdpdihaaDoor.Batch
