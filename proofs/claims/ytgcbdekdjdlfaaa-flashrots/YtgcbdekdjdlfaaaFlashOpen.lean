/-
  Arguments that are rows of numbers, rows of steps, opened.
-/
import Derived.Test.YtgcbdekdjdlfaaaFlashK
import Derived.Deep.Slices
import Derived.ChangeSame
import Derived.ChangeSlices
set_option linter.unusedVariables false
set_option linter.unusedSimpArgs false
namespace Go.Proofs.Ytgcbdekdjdlfaaa.Flash
open Go.ChangeShapes Go.WideShapes Go.ChangeAt Go.RowKit
open Tup

theorem add_place (b off j : Nat) : (⟨b, off, none⟩ : Addr).add j = ⟨b, off + j, none⟩ := by unfold Addr.add; split <;> simp_all
theorem int_lt {n : Int} (h : (Lit.int .i64 n).wf = true) : n < 9223372036854775808 := by
  have : -9223372036854775808 ≤ n ∧ n ≤ 9223372036854775807 := by simpa [Lit.wf, IntKind.min, IntKind.max, IntKind.signed, IntKind.bits] using h
  omega
theorem ints_cells {H : Type} {enc : TypeId × Value → H} {W : World} {base : Nat} {spare : Nat → Bool} {held : Bool} {n : Nat} {cs : List Value} {x : DataW H × List MemPlace}
    (h : DataW.trod enc Try.prog W base spare held n 37 cs = some x) : ∃ (a : Option Addr) (cap : Nat) (l : List Int), cs = [.slice a l.length cap] ∧ Ints W a l ∧ l.length ≤ maxLen ∧ ∀ m ∈ l, m < 9223372036854775808 := by
  have hC : Try.prog.cellsOf 3 = 1 := by kernel_rfl
  rcases Go.ChangeShapes.open_ints Try.underlying37 Try.underlying3 hC h with ⟨rfl, _⟩ | ⟨a, len, cap, zs, rfl, _, hl, hm, hz, _, hc, hw⟩
  · exact ⟨none, 0, [], rfl, .inl rfl, by simp, by simp⟩
  · have hlz : len ≤ zs.length := by rw [hz]; split <;> omega
    have hlen : (zs.take len).length = len := by rw [List.length_take]; omega
    refine ⟨some a, cap, zs.take len, by rw [hlen], ?_, by rw [hlen]; omega, fun m hm => int_lt (hw m (List.mem_of_mem_take hm))⟩
    by_cases h0 : len = 0
    · subst h0; exact .inl (by simp)
    · obtain ⟨b, off, spot⟩ := a
      have hspot : spot = none := by
        have h1 := hc 0 (by omega)
        simpa [Addr.add] using World.cell?_spot h1
      subst hspot
      refine .inr ⟨b, off, rfl, fun j c hj => ?_⟩
      have hj2 : j < len := by
        have := (List.getElem?_eq_some_iff.1 hj).1
        rw [List.length_map, hlen] at this; exact this
      have := hc j (by omega)
      rw [add_place] at this
      rw [this]
      rw [List.getElem?_map, List.getElem?_take_of_lt hj2, List.getElem?_eq_getElem (by omega)] at hj
      rw [List.getD_eq_getElem?_getD, List.getElem?_eq_getElem (by omega)]
      simpa using hj
theorem open_mask {H : Type} {enc : TypeId × Value → H} {W : World} {v : Value} {d : DataW H} {p : List MemPlace}
    (h : DataW.Trod enc Try.prog W 0 (fun _ => true) true 37 v d p) (hc : v.cells = #[v]) : ∃ (a : Option Addr) (cap : Nat) (l : List Int), v = .slice a l.length cap ∧ Ints W a l ∧ l.length ≤ maxLen ∧ ∀ m ∈ l, m < 9223372036854775808 := by
  obtain ⟨fuel, hf⟩ := h
  rw [hc] at hf
  obtain ⟨a, cap, l, e, r⟩ := ints_cells hf
  simp only [List.cons.injEq, and_true] at e
  exact ⟨a, cap, l, e, r⟩
set_option maxRecDepth 100000 in
theorem step_cells {H : Type} {enc : TypeId × Value → H} {W : World} {base : Nat} {spare : Nat → Bool} {held : Bool} {n : Nat} {cs : List Value} {x : DataW H × List MemPlace}
    (h : DataW.trod enc Try.prog W base spare held n 39 cs = some x) : ∃ y : StM, cs = y.cells ∧ y.t.s.size ≤ maxLen ∧ Ints W y.ma y.t.m ∧ (∀ m ∈ y.t.m, m < 9223372036854775808) ∧ y.t.m.length ≤ maxLen := by
  have hC : Try.prog.cellsOf 39 = 7 := by kernel_rfl
  have ci : Try.prog.cellsOf 3 = 1 := by kernel_rfl
  have c9 : Try.prog.cellsOf 9 = 1 := by kernel_rfl
  have c8 : Try.prog.cellsOf 5 = 1 := by kernel_rfl
  have cm : Try.prog.cellsOf 37 = 1 := by kernel_rfl
  have cb : Try.prog.cellsOf 4 = 1 := by kernel_rfl
  obtain ⟨xs, m, _, he, hl, hlen, hf⟩ := DataW.trod_struct Try.underlying39 h
  rw [hC] at hl
  match cs, hl with
  | [v0, v1, v2, v3, v4, v5, v6], _ =>
    match xs, hlen with
    | [y0, y1, y2, y3, y4, y5, y6], _ =>
      have f0 : DataW.trod enc Try.prog W base spare held m 3 [v0] = some y0 := by simpa [ci] using hf 0 _ rfl
      have f1 : DataW.trod enc Try.prog W base spare held m 3 [v1] = some y1 := by simpa [ci] using hf 1 _ rfl
      have f2 : DataW.trod enc Try.prog W base spare held m 3 [v2] = some y2 := by simpa [ci] using hf 2 _ rfl
      have f3 : DataW.trod enc Try.prog W base spare held m 9 [v3] = some y3 := by simpa [c9] using hf 3 _ rfl
      have f4 : DataW.trod enc Try.prog W base spare held m 5 [v4] = some y4 := by simpa [c8] using hf 4 _ rfl
      have f5 : DataW.trod enc Try.prog W base spare held m 37 [v5] = some y5 := by simpa [cm] using hf 5 _ rfl
      have f6 : DataW.trod enc Try.prog W base spare held m 4 [v6] = some y6 := by simpa [cb] using hf 6 _ rfl
      obtain ⟨a, e0, _⟩ := DataW.trod_int Try.underlying3 f0
      obtain ⟨b, e1, _⟩ := DataW.trod_int Try.underlying3 f1
      obtain ⟨c, e2, _⟩ := DataW.trod_int Try.underlying3 f2
      obtain ⟨s, e3, _, z3⟩ := DataW.trod_string Try.underlying9 f3
      obtain ⟨k, e4, _, w4⟩ := DataW.trod_int Try.underlying5 f4
      obtain ⟨ma, mc, l, e5, hI, hle, hnu⟩ := ints_cells f5
      obtain ⟨nb, e6, _⟩ := DataW.trod_bool Try.underlying4 f6
      simp only [List.cons.injEq, and_true] at e0 e1 e2 e3 e4 e5 e6
      have hk : 0 ≤ k ∧ k ≤ 255 := by simpa [Lit.wf, IntKind.min, IntKind.max, IntKind.signed, IntKind.bits] using w4
      have hk2 : ((UInt8.ofNat k.toNat).toNat : Int) = k := by
        rw [UInt8.toNat_ofNat_of_lt' (show k.toNat < 256 by omega)]; omega
      refine ⟨⟨⟨a, b, c, s, UInt8.ofNat k.toNat, l, nb⟩, ma, mc⟩, ?_, z3, hI, hnu, hle⟩
      simp only [StM.cells, hk2, e0, e1, e2, e3, e4, e5, e6]
set_option maxRecDepth 100000 in
theorem open_steps {H : Type} {enc : TypeId × Value → H} {W : World} {base : Nat} {v : Value} {d : DataW H} {p : List MemPlace}
    (hv : Value.okWide Try.prog W .any base 24 v) (h : DataW.Trod enc Try.prog W 0 (fun _ => true) true 24 v d p) :
    ∃ (a : Option Addr) (cap : Nat) (l : List StM), v = .slice a l.length cap ∧ Steps W a l ∧ l.length ≤ maxLen := by
  have hC : Try.prog.cellsOf 39 = 7 := by kernel_rfl
  obtain ⟨a0, len0, cap0, rfl⟩ := okWide_slice Try.underlying24 hv
  obtain ⟨fuel, hf⟩ := h
  rcases Go.Deep.open_slice Try.underlying24 hf with ⟨hcs, hx⟩ | ⟨a, len, cap, m, n, D, Pl, hcs, _, hl, hm, hmm, hx, hi⟩
  · simp [Value.cells] at hcs
    obtain ⟨rfl, rfl, rfl⟩ := hcs
    exact ⟨none, 0, [], rfl, ⟨.inl rfl, by simp, by simp, by simp, by simp⟩, by simp⟩
  · simp [Value.cells] at hcs
    obtain ⟨rfl, rfl, rfl⟩ := hcs
    simp only [if_true] at hmm
    have key : ∀ i, i < len0 → ∃ y : StM, W.cells? 0 (a.add (i * 7)) 7 = some y.cells ∧ y.t.s.size ≤ maxLen ∧ Ints W y.ma y.t.m ∧ (∀ m ∈ y.t.m, m < 9223372036854775808) ∧ y.t.m.length ≤ maxLen := by
      intro i hil
      obtain ⟨cs', h1, h2⟩ := hi i (by omega)
      rw [hC] at h1
      obtain ⟨y, rfl, h3⟩ := step_cells h2
      exact ⟨y, h1, h3⟩
    let z : StM := ⟨⟨0, 0, 0, ByteArray.empty, 0, [], false⟩, none, 0⟩
    let f : Nat → StM := fun i => if hil : i < len0 then (key i hil).choose else z
    have hfs : ∀ i, (hil : i < len0) → W.cells? 0 (a.add (i * 7)) 7 = some (f i).cells ∧ (f i).t.s.size ≤ maxLen ∧ Ints W (f i).ma (f i).t.m ∧ (∀ m ∈ (f i).t.m, m < 9223372036854775808) ∧ (f i).t.m.length ≤ maxLen := by
      intro i hil
      have := (key i hil).choose_spec
      simp only [f, hil, dif_pos]
      exact this
    have hlen : ((List.range len0).map f).length = len0 := by simp
    have hmem : ∀ x ∈ (List.range len0).map f, ∃ i, i < len0 ∧ x = f i := by
      intro x hx
      obtain ⟨i, hir, rfl⟩ := List.mem_map.1 hx
      exact ⟨i, by simpa using hir, rfl⟩
    refine ⟨some a, cap0, (List.range len0).map f, by rw [hlen], ⟨?_, ?_, ?_, ?_, ?_⟩, by omega⟩
    · by_cases h0 : len0 = 0
      · subst h0; exact .inl rfl
      · obtain ⟨b, off, spot⟩ := a
        have hat : ∀ i, i < len0 → ∀ j c, (f i).cells[j]? = some c → W.cell? ((⟨b, off, spot⟩ : Addr).add (i * 7) |>.add j) = some c := by
          intro i hil j c hj
          obtain ⟨_, _, hc⟩ := World.cells?_some (hfs i hil).1
          have hj3 : j < 7 := (List.getElem?_eq_some_iff.1 hj).1
          rw [hc j hj3]; exact hj
        have hspot : spot = none := by
          have h1 := hat 0 (by omega) 0 _ rfl
          simpa [Addr.add] using World.cell?_spot h1
        subst hspot
        refine .inr ⟨b, off, rfl, fun j c hj => ?_⟩
        have hfl : ∀ l : List StM, (flatS l).length = l.length * 7 := by
          intro l
          induction l with
          | nil => rfl
          | cons x r ih => simp only [flatS, List.flatMap_cons, List.length_append] at ih ⊢; rw [ih]; simp [StM.cells]; omega
        have hjl : j < len0 * 7 := by
          have := (List.getElem?_eq_some_iff.1 hj).1
          rw [hfl, hlen] at this; exact this
        have hd : j = j / 7 * 7 + j % 7 := by omega
        have hk : j / 7 < ((List.range len0).map f).length := by rw [hlen]; omega
        have hg := flatS_get hk (show j % 7 < 7 by omega)
        rw [← hd, hj] at hg
        have hx7 : ((List.range len0).map f)[j / 7] = f (j / 7) := by simp
        rw [hx7] at hg
        have := hat (j / 7) (by omega) (j % 7) c hg.symm
        rw [add_place, add_place, Nat.add_assoc, ← hd] at this
        exact this
    · intro x hx; obtain ⟨i, hil, rfl⟩ := hmem x hx; exact (hfs i hil).2.1
    · intro x hx; obtain ⟨i, hil, rfl⟩ := hmem x hx; exact (hfs i hil).2.2.1
    · intro x hx; obtain ⟨i, hil, rfl⟩ := hmem x hx; exact (hfs i hil).2.2.2.1
    · intro x hx; obtain ⟨i, hil, rfl⟩ := hmem x hx; exact (hfs i hil).2.2.2.2
end Go.Proofs.Ytgcbdekdjdlfaaa.Flash
