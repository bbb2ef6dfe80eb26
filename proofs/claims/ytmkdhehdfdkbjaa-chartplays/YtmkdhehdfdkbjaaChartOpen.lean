/-
  An argument that is a row of steps, opened.
-/
import Derived.Test.YtmkdhehdfdkbjaaChartLc
import Derived.Deep.Slices
import Derived.ChangeSame
import Derived.ChangeSlices
set_option linter.unusedVariables false
set_option linter.unusedSimpArgs false
namespace Go.Proofs.Ytmkdhehdfdkbjaa.Chart
open Go.ChangeShapes Go.WideShapes Go.ChangeAt Go.RowKit
open Tup

theorem add_place (b off j : Nat) : (⟨b, off, none⟩ : Addr).add j = ⟨b, off + j, none⟩ := by unfold Addr.add; split <;> simp_all
set_option maxRecDepth 100000 in
theorem step_cells {H : Type} {enc : TypeId × Value → H} {W : World} {base : Nat} {spare : Nat → Bool} {held : Bool} {n : Nat} {cs : List Value} {x : DataW H × List MemPlace}
    (h : DataW.trod enc Try.prog W base spare held n 35 cs = some x) : ∃ y : St, cs = y.cells := by
  have hC : Try.prog.cellsOf 35 = 5 := by kernel_rfl
  have ci : Try.prog.cellsOf 3 = 1 := by kernel_rfl
  have c4 : Try.prog.cellsOf 33 = 1 := by kernel_rfl
  have cb : Try.prog.cellsOf 4 = 1 := by kernel_rfl
  obtain ⟨xs, m, _, he, hl, hlen, hf⟩ := DataW.trod_struct Try.underlying35 h
  rw [hC] at hl
  match cs, hl with
  | [v0, v1, v2, v3, v4], _ =>
    match xs, hlen with
    | [y0, y1, y2, y3, y4], _ =>
      have f0 : DataW.trod enc Try.prog W base spare held m 3 [v0] = some y0 := by simpa [ci] using hf 0 _ rfl
      have f1 : DataW.trod enc Try.prog W base spare held m 3 [v1] = some y1 := by simpa [ci] using hf 1 _ rfl
      have f2 : DataW.trod enc Try.prog W base spare held m 3 [v2] = some y2 := by simpa [ci] using hf 2 _ rfl
      have f3 : DataW.trod enc Try.prog W base spare held m 33 [v3] = some y3 := by simpa [c4] using hf 3 _ rfl
      have f4 : DataW.trod enc Try.prog W base spare held m 4 [v4] = some y4 := by simpa [cb] using hf 4 _ rfl
      obtain ⟨a, e0, _⟩ := DataW.trod_int Try.underlying3 f0
      obtain ⟨b, e1, _⟩ := DataW.trod_int Try.underlying3 f1
      obtain ⟨c, e2, _⟩ := DataW.trod_int Try.underlying3 f2
      obtain ⟨k, e3, _, w3⟩ := DataW.trod_int Try.underlying33 f3
      obtain ⟨nb, e4, _⟩ := DataW.trod_bool Try.underlying4 f4
      simp only [List.cons.injEq, and_true] at e0 e1 e2 e3 e4
      have hk : 0 ≤ k ∧ k ≤ 4294967295 := by simpa [Lit.wf, IntKind.min, IntKind.max, IntKind.signed, IntKind.bits] using w3
      have hk2 : ((k.toNat : Nat) : Int) = k := by omega
      refine ⟨⟨a, b, c, k.toNat, nb⟩, ?_⟩
      simp only [St.cells, hk2, e0, e1, e2, e3, e4]
set_option maxRecDepth 100000 in
theorem open_steps {H : Type} {enc : TypeId × Value → H} {W : World} {base : Nat} {v : Value} {d : DataW H} {p : List MemPlace}
    (hv : Value.okWide Try.prog W .any base 24 v) (h : DataW.Trod enc Try.prog W 0 (fun _ => true) true 24 v d p) :
    ∃ (a : Option Addr) (cap : Nat) (l : List St), v = .slice a l.length cap ∧ At W a (flatS l) ∧ l.length ≤ maxLen := by
  have hC : Try.prog.cellsOf 35 = 5 := by kernel_rfl
  obtain ⟨a0, len0, cap0, rfl⟩ := okWide_slice Try.underlying24 hv
  obtain ⟨fuel, hf⟩ := h
  rcases Go.Deep.open_slice Try.underlying24 hf with ⟨hcs, hx⟩ | ⟨a, len, cap, m, n, D, Pl, hcs, _, hl, hm, hmm, hx, hi⟩
  · simp [Value.cells] at hcs
    obtain ⟨rfl, rfl, rfl⟩ := hcs
    exact ⟨none, 0, [], rfl, .inl rfl, by simp⟩
  · simp [Value.cells] at hcs
    obtain ⟨rfl, rfl, rfl⟩ := hcs
    simp only [if_true] at hmm
    have key : ∀ i, i < len0 → ∃ y : St, W.cells? 0 (a.add (i * 5)) 5 = some y.cells := by
      intro i hil
      obtain ⟨cs', h1, h2⟩ := hi i (by omega)
      rw [hC] at h1
      obtain ⟨y, rfl⟩ := step_cells h2
      exact ⟨y, h1⟩
    let z : St := ⟨0, 0, 0, 0, false⟩
    let f : Nat → St := fun i => if hil : i < len0 then (key i hil).choose else z
    have hfs : ∀ i, (hil : i < len0) → W.cells? 0 (a.add (i * 5)) 5 = some (f i).cells := by
      intro i hil
      have := (key i hil).choose_spec
      simp only [f, hil, dif_pos]
      exact this
    have hlen : ((List.range len0).map f).length = len0 := by simp
    refine ⟨some a, cap0, (List.range len0).map f, by rw [hlen], ?_, by omega⟩
    by_cases h0 : len0 = 0
    · subst h0; exact .inl rfl
    · obtain ⟨b, off, spot⟩ := a
      have hat : ∀ i, i < len0 → ∀ j c, (f i).cells[j]? = some c → W.cell? ((⟨b, off, spot⟩ : Addr).add (i * 5) |>.add j) = some c := by
        intro i hil j c hj
        obtain ⟨_, _, hc⟩ := World.cells?_some (hfs i hil)
        have hj3 : j < 5 := (List.getElem?_eq_some_iff.1 hj).1
        rw [hc j hj3]; exact hj
      have hspot : spot = none := by
        have h1 := hat 0 (by omega) 0 _ rfl
        simpa [Addr.add] using World.cell?_spot h1
      subst hspot
      refine .inr ⟨b, off, rfl, fun j c hj => ?_⟩
      have hjl : j < len0 * 5 := by
        have := (List.getElem?_eq_some_iff.1 hj).1
        rw [flatS_length, hlen] at this; exact this
      have hd : j = j / 5 * 5 + j % 5 := by omega
      have hk : j / 5 < ((List.range len0).map f).length := by rw [hlen]; omega
      have hg := flatS_get hk (show j % 5 < 5 by omega)
      rw [← hd, hj] at hg
      have hx7 : ((List.range len0).map f)[j / 5] = f (j / 5) := by simp
      rw [hx7] at hg
      have := hat (j / 5) (by omega) (j % 5) c hg.symm
      rw [add_place, add_place, Nat.add_assoc, ← hd] at this
      exact this
end Go.Proofs.Ytmkdhehdfdkbjaa.Chart
