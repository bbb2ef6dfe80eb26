/-
  An argument that is a row of steps, opened.
-/
import Derived.Test.YtcmjambbdfangaaGreatTapeLf
import Derived.Deep.Slices
import Derived.ChangeSame
import Derived.ChangeSlices
set_option linter.unusedVariables false
set_option linter.unusedSimpArgs false
namespace Go.Proofs.YtcmjambbdfangaaGreat.Tape
open Go.ChangeShapes Go.WideShapes Go.ChangeAt Go.RowKit
open CrcM (W)
open Crc (vl)
open Go.Proofs.YtcmjambbdfangaaGreat.Frame (Fr)
open Tup

theorem flatS_length (l : List St) : (flatS l).length = l.length * 7 := by
  induction l with
  | nil => rfl
  | cons x r ih => simp only [flatS, List.flatMap_cons, List.length_append] at ih ⊢; rw [ih]; simp [St.cells]; omega
theorem add_place (b off j : Nat) : (⟨b, off, none⟩ : Addr).add j = ⟨b, off + j, none⟩ := by unfold Addr.add; split <;> simp_all
set_option maxRecDepth 100000 in
theorem frame_cells {H : Type} {enc : TypeId × Value → H} {W0 : World} {base : Nat} {spare : Nat → Bool} {held : Bool} {n : Nat} {cs : List Value} {x : DataW H × List MemPlace}
    (h : DataW.trod enc Tryz.prog W0 base spare held n 31 cs = some x) : ∃ y : Fr, cs = fC y ∧ y.body.length ≤ maxLen := by
  have hC : Tryz.prog.cellsOf 31 = 4 := by kernel_rfl
  have ci : Tryz.prog.cellsOf 3 = 1 := by kernel_rfl
  have c4 : Tryz.prog.cellsOf 29 = 1 := by kernel_rfl
  have cs1 : Tryz.prog.cellsOf 9 = 1 := by kernel_rfl
  obtain ⟨xs, m, _, he, hl, hlen, hf⟩ := DataW.trod_struct Tryz.underlying31 h
  rw [hC] at hl
  match cs, hl with
  | [v0, v1, v2, v3], _ =>
    match xs, hlen with
    | [y0, y1, y2, y3], _ =>
      have f0 : DataW.trod enc Tryz.prog W0 base spare held m 3 [v0] = some y0 := by simpa [ci] using hf 0 _ rfl
      have f1 : DataW.trod enc Tryz.prog W0 base spare held m 29 [v1] = some y1 := by simpa [c4] using hf 1 _ rfl
      have f2 : DataW.trod enc Tryz.prog W0 base spare held m 29 [v2] = some y2 := by simpa [c4] using hf 2 _ rfl
      have f3 : DataW.trod enc Tryz.prog W0 base spare held m 9 [v3] = some y3 := by simpa [cs1] using hf 3 _ rfl
      obtain ⟨k, e0, _⟩ := DataW.trod_int Tryz.underlying3 f0
      obtain ⟨a, e1, _, w1⟩ := DataW.trod_int Tryz.underlying29 f1
      obtain ⟨b, e2, _, w2⟩ := DataW.trod_int Tryz.underlying29 f2
      obtain ⟨s, e3, _, z3⟩ := DataW.trod_string Tryz.underlying9 f3
      simp only [List.cons.injEq, and_true] at e0 e1 e2 e3
      subst e0 e1 e2 e3
      obtain ⟨a, rfl⟩ := Crc.word_of w1
      obtain ⟨b, rfl⟩ := Crc.word_of w2
      refine ⟨⟨k, a, b, s.data.toList⟩, ?_, by simpa using z3⟩
      unfold fC
      rw [Flash.bs_list]
set_option maxRecDepth 100000 in
theorem step_cells {H : Type} {enc : TypeId × Value → H} {W0 : World} {base : Nat} {spare : Nat → Bool} {held : Bool} {n : Nat} {cs : List Value} {x : DataW H × List MemPlace}
    (h : DataW.trod enc Tryz.prog W0 base spare held n 33 cs = some x) : ∃ y : St, cs = y.cells ∧ y.f.body.length ≤ maxLen := by
  have hC : Tryz.prog.cellsOf 33 = 7 := by kernel_rfl
  have ci : Tryz.prog.cellsOf 3 = 1 := by kernel_rfl
  have cf : Tryz.prog.cellsOf 31 = 4 := by kernel_rfl
  have cb : Tryz.prog.cellsOf 4 = 1 := by kernel_rfl
  obtain ⟨xs, m, _, he, hl, hlen, hf⟩ := DataW.trod_struct Tryz.underlying33 h
  rw [hC] at hl
  match cs, hl with
  | [v0, v1, v2, v3, v4, v5, v6], _ =>
    match xs, hlen with
    | [y0, y1, y2, y3], _ =>
      have f0 : DataW.trod enc Tryz.prog W0 base spare held m 3 [v0] = some y0 := by simpa [ci] using hf 0 _ rfl
      have f1 : DataW.trod enc Tryz.prog W0 base spare held m 3 [v1] = some y1 := by simpa [ci] using hf 1 _ rfl
      have f2 : DataW.trod enc Tryz.prog W0 base spare held m 31 [v2, v3, v4, v5] = some y2 := by simpa [cf] using hf 2 _ rfl
      have f3 : DataW.trod enc Tryz.prog W0 base spare held m 4 [v6] = some y3 := by simpa [cb] using hf 3 _ rfl
      obtain ⟨a, e0, _⟩ := DataW.trod_int Tryz.underlying3 f0
      obtain ⟨b, e1, _⟩ := DataW.trod_int Tryz.underlying3 f1
      obtain ⟨fr, e2, hfr⟩ := frame_cells f2
      obtain ⟨nb, e3, _⟩ := DataW.trod_bool Tryz.underlying4 f3
      unfold fC at e2
      simp only [List.cons.injEq, and_true] at e0 e1 e2 e3
      obtain ⟨e20, e21, e22, e23⟩ := e2
      refine ⟨⟨a, b, fr, nb⟩, ?_, hfr⟩
      simp only [St.cells, e0, e1, e20, e21, e22, e23, e3]
set_option maxRecDepth 100000 in
theorem open_steps {H : Type} {enc : TypeId × Value → H} {W : World} {base : Nat} {v : Value} {d : DataW H} {p : List MemPlace}
    (hv : Value.okWide Tryz.prog W .any base 24 v) (h : DataW.Trod enc Tryz.prog W 0 (fun _ => true) true 24 v d p) :
    ∃ (a : Option Addr) (cap : Nat) (l : List St), v = .slice a l.length cap ∧ Tup.At W a (flatS l) ∧ l.length ≤ maxLen ∧ ∀ s ∈ l, s.f.body.length ≤ maxLen := by
  have hC : Tryz.prog.cellsOf 33 = 7 := by kernel_rfl
  obtain ⟨a0, len0, cap0, rfl⟩ := okWide_slice Tryz.underlying24 hv
  obtain ⟨fuel, hf⟩ := h
  rcases Go.Deep.open_slice Tryz.underlying24 hf with ⟨hcs, hx⟩ | ⟨a, len, cap, m, n, D, Pl, hcs, _, hl, hm, hmm, hx, hi⟩
  · simp [Value.cells] at hcs
    obtain ⟨rfl, rfl, rfl⟩ := hcs
    exact ⟨none, 0, [], rfl, .inl rfl, by simp, by simp⟩
  · simp [Value.cells] at hcs
    obtain ⟨rfl, rfl, rfl⟩ := hcs
    simp only [if_true] at hmm
    have key : ∀ i, i < len0 → ∃ y : St, W.cells? 0 (a.add (i * 7)) 7 = some y.cells ∧ y.f.body.length ≤ maxLen := by
      intro i hil
      obtain ⟨cs', h1, h2⟩ := hi i (by omega)
      rw [hC] at h1
      obtain ⟨y, rfl, hy⟩ := step_cells h2
      exact ⟨y, h1, hy⟩
    let z : St := ⟨0, 0, ⟨0, 0#32, 0#32, []⟩, false⟩
    let f : Nat → St := fun i => if hil : i < len0 then (key i hil).choose else z
    have hfs : ∀ i, (hil : i < len0) → W.cells? 0 (a.add (i * 7)) 7 = some (f i).cells := by
      intro i hil
      have := (key i hil).choose_spec.1
      simp only [f, hil, dif_pos]
      exact this
    have hfb : ∀ i, (hil : i < len0) → (f i).f.body.length ≤ maxLen := by
      intro i hil
      have := (key i hil).choose_spec.2
      simp only [f, hil, dif_pos]
      exact this
    have hlen : ((List.range len0).map f).length = len0 := by simp
    refine ⟨some a, cap0, (List.range len0).map f, by rw [hlen], ?_, by omega, fun s hs => by
      obtain ⟨i, hi, rfl⟩ := List.mem_map.1 hs
      exact hfb i (List.mem_range.1 hi)⟩
    by_cases h0 : len0 = 0
    · subst h0; exact .inl rfl
    · obtain ⟨b, off, spot⟩ := a
      have hat : ∀ i, i < len0 → ∀ j c, (f i).cells[j]? = some c → W.cell? ((⟨b, off, spot⟩ : Addr).add (i * 7) |>.add j) = some c := by
        intro i hil j c hj
        obtain ⟨_, _, hc⟩ := World.cells?_some (hfs i hil)
        have hj3 : j < 7 := (List.getElem?_eq_some_iff.1 hj).1
        rw [hc j hj3]; exact hj
      have hspot : spot = none := by
        have h1 := hat 0 (by omega) 0 _ rfl
        simpa [Addr.add] using World.cell?_spot h1
      subst hspot
      refine .inr ⟨b, off, rfl, fun j c hj => ?_⟩
      have hjl : j < len0 * 7 := by
        have := (List.getElem?_eq_some_iff.1 hj).1
        rw [flatS_length, hlen] at this; exact this
      have hd : j = j / 7 * 7 + j % 7 := by omega
      have hk : j / 7 < ((List.range len0).map f).length := by rw [hlen]; omega
      have hg := flatS_get hk (show j % 7 < 7 by omega)
      rw [← hd, hj] at hg
      have hx7 : ((List.range len0).map f)[j / 7] = f (j / 7) := by simp
      rw [hx7] at hg
      have := hat (j / 7) (by omega) (j % 7) c hg.symm
      rw [add_place, add_place, Nat.add_assoc, ← hd] at this
      exact this
end Go.Proofs.YtcmjambbdfangaaGreat.Tape
