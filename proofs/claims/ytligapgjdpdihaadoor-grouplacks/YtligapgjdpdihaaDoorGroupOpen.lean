/-
  Arguments that are groups, rows of frames, opened.
-/
import Derived.Test.YtligapgjdpdihaaDoorRunGroupM
import Derived.Test.YtligapgjdpdihaaDoorBatchOpen
import Derived.Test.YtligapgjdpdihaaDoorFrameOpen
import Derived.Lib.SmallJoins
import Derived.ChangeArms
import Derived.Deep.Slices
import Derived.ChangeSame
set_option linter.unusedVariables false
set_option linter.unusedSimpArgs false
namespace Go.Proofs.YtligapgjdpdihaaDoor.Group
open Go.ChangeShapes Go.WideShapes Go.ChangeAt Go.RowKit
open Tup
open CrcM (W)
open Crc (vl)
open Go.Proofs.YtligapgjdpdihaaDoor.Frame (Fr fC)
open Flash (bs)
open Batch (Wr wrC dW trod_write flatW_at flatW_length add_place WAt)
set_option maxRecDepth 100000 in
theorem open_writes_at {H : Type} {enc : TypeId × Value → H} {W : World} {n0 : Nat} {v : Value} {x : DataW H × List MemPlace}
    (hf : DataW.trod enc Tryd.prog W 0 (fun _ => true) true n0 25 [v] = some x) :
    ∃ (a : Option Addr) (cap : Nat) (l : List Wr), v = .slice a l.length cap ∧ WAt W a l ∧ l.length ≤ maxLen := by
  have hC : Tryd.prog.cellsOf 55 = 3 := by kernel_rfl
  rcases Go.Deep.open_slice Tryd.underlying25 hf with ⟨hcs, hx⟩ | ⟨a, len0, cap0, m, n, D, Pl, hcs, _, hl, hm, hmm, hx, hi⟩
  · simp only [List.cons.injEq, and_true] at hcs
    exact ⟨none, 0, [], hcs, .inl rfl, by simp⟩
  · simp only [List.cons.injEq, and_true] at hcs
    subst hcs
    simp only [if_true] at hmm
    have key : ∀ i, i < len0 → ∃ x : Wr, W.cells? 0 (a.add (i * 3)) 3 = some (wrC x) ∧ D i = dW x ∧ x.key.size ≤ maxLen ∧ x.val.size ≤ maxLen := by
      intro i hil
      obtain ⟨cs', h1, h2⟩ := hi i (by omega)
      rw [hC] at h1
      obtain ⟨x, rfl, h3⟩ := trod_write h2
      exact ⟨x, h1, h3⟩
    let f : Nat → Wr := fun i => if hil : i < len0 then (key i hil).choose else default
    have hfs : ∀ i, (hil : i < len0) → W.cells? 0 (a.add (i * 3)) 3 = some (wrC (f i)) := by
      intro i hil
      have := (key i hil).choose_spec.1
      simp only [f, hil, dif_pos]
      exact this
    have hlen : ((List.range len0).map f).length = len0 := by simp
    refine ⟨some a, cap0, (List.range len0).map f, by rw [hlen], ?_, by omega⟩
    by_cases h0 : len0 = 0
    · subst h0; exact .inl rfl
    · obtain ⟨b, off, spot⟩ := a
      have hat : ∀ i, i < len0 → ∀ j c, (wrC (f i))[j]? = some c → W.cell? ((⟨b, off, spot⟩ : Addr).add (i * 3) |>.add j) = some c := by
        intro i hil j c hj
        obtain ⟨_, _, hc⟩ := World.cells?_some (hfs i hil)
        have hj3 : j < 3 := (List.getElem?_eq_some_iff.1 hj).1
        rw [hc j hj3]; exact hj
      have hspot : spot = none := by
        have h1 := hat 0 (by omega) 0 _ rfl
        simpa [Addr.add] using World.cell?_spot h1
      subst hspot
      refine .inr ⟨b, off, rfl, fun j c hj => ?_⟩
      have hjl : j < len0 * 3 := by
        have := (List.getElem?_eq_some_iff.1 hj).1
        rw [flatW_length, hlen] at this; exact this
      have hd : j = j / 3 * 3 + j % 3 := by omega
      have hx3 : ((List.range len0).map f)[j / 3]? = some (f (j / 3)) := by
        rw [List.getElem?_map, List.getElem?_range (by omega)]; rfl
      obtain ⟨g0, g1, g2⟩ := flatW_at _ _ _ hx3
      have hr : (wrC (f (j / 3)))[j % 3]? = some c := by
        rcases (show j % 3 = 0 ∨ j % 3 = 1 ∨ j % 3 = 2 by omega) with h3 | h3 | h3
        · rw [hd, h3, Nat.add_zero, g0] at hj; rw [h3]; exact hj
        · rw [hd, h3, g1] at hj; rw [h3]; exact hj
        · rw [hd, h3, g2] at hj; rw [h3]; exact hj
      have := hat (j / 3) (by omega) (j % 3) c hr
      rw [add_place, add_place, Nat.add_assoc, ← hd] at this
      exact this
set_option maxRecDepth 100000 in
theorem open_group {H : Type} {enc : TypeId × Value → H} {W0 : World} {base : Nat} {v : Value} {d : DataW H} {p : List MemPlace}
    (hv : Value.okWide Tryd.prog W0 .any base 27 v) (h : DataW.Trod enc Tryd.prog W0 0 (fun _ => true) true 27 v d p) :
    ∃ (x : Gp) (a : Option Addr) (cap : Nat), v = gpV x (.slice a x.wr.length cap) ∧ WAt W0 a x.wr ∧ x.wr.length ≤ maxLen := by
  obtain ⟨v0, v1, v2, v3, y0, y1, y2, y3, n, rfl, _, _, h0, h1, h2, h3⟩ := Go.Joins.open_agg4 Tryd.underlying27 (by kernel_rfl) (by kernel_rfl) hv h
  obtain ⟨a0, e0, _, w0⟩ := DataW.trod_int Tryd.underlying24 h0
  obtain ⟨a1, e1, _, w1⟩ := DataW.trod_int Tryd.underlying24 h1
  obtain ⟨a2, e2, _, w2⟩ := DataW.trod_int Tryd.underlying24 h2
  obtain ⟨a, cap, l, rfl, hl, hm⟩ := open_writes_at h3
  simp only [List.cons.injEq, and_true] at e0 e1 e2
  subst e0 e1 e2
  obtain ⟨s0, rfl⟩ := Crc.word_of w0
  obtain ⟨s1, rfl⟩ := Crc.word_of w1
  obtain ⟨s2, rfl⟩ := Crc.word_of w2
  exact ⟨⟨s0, s1, s2, l⟩, a, cap, rfl, hl, hm⟩
/-- a frame as a datum -/
def dF {H : Type} (x : Fr) : DataW H := .agg [.lit (.int .i64 x.kind), .lit (.int .u32 (vl x.a)), .lit (.int .u32 (vl x.b)), .lit (.string x.body)]
set_option maxRecDepth 100000 in
theorem trod_frame {H : Type} {enc : TypeId × Value → H} {W : World} {base : Nat} {spare : Nat → Bool} {held : Bool} {n : Nat} {cs : List Value} {D : DataW H} {Pl : List MemPlace}
    (h : DataW.trod enc Tryd.prog W base spare held n 49 cs = some (D, Pl)) : ∃ x : Fr, cs = fC x ∧ D = dF x ∧ x.body.length ≤ maxLen := by
  have hC : Tryd.prog.cellsOf 49 = 4 := by kernel_rfl
  have c3 : Tryd.prog.cellsOf 3 = 1 := by kernel_rfl
  have c9 : Tryd.prog.cellsOf 9 = 1 := by kernel_rfl
  have c4 : Tryd.prog.cellsOf 24 = 1 := by kernel_rfl
  obtain ⟨xs, m, _, he, hl, hlen, hf⟩ := DataW.trod_struct Tryd.underlying49 h
  rw [hC] at hl
  match cs, hl with
  | [v0, v1, v2, v3], _ =>
    match xs, hlen with
    | [y0, y1, y2, y3], _ =>
      have f0 : DataW.trod enc Tryd.prog W base spare held m 3 [v0] = some y0 := by simpa [c3] using hf 0 _ rfl
      have f1 : DataW.trod enc Tryd.prog W base spare held m 24 [v1] = some y1 := by simpa [c4] using hf 1 _ rfl
      have f2 : DataW.trod enc Tryd.prog W base spare held m 24 [v2] = some y2 := by simpa [c4] using hf 2 _ rfl
      have f3 : DataW.trod enc Tryd.prog W base spare held m 9 [v3] = some y3 := by simpa [c9] using hf 3 _ rfl
      obtain ⟨k, e0, k0, _⟩ := DataW.trod_int Tryd.underlying3 f0
      obtain ⟨a, e1, k1, w1⟩ := DataW.trod_int Tryd.underlying24 f1
      obtain ⟨b, e2, k2, w2⟩ := DataW.trod_int Tryd.underlying24 f2
      obtain ⟨s, e3, k3, z3⟩ := DataW.trod_string Tryd.underlying9 f3
      simp only [List.cons.injEq, and_true] at e0 e1 e2 e3
      subst e0 e1 e2 e3
      obtain ⟨a, rfl⟩ := Crc.word_of w1
      obtain ⟨b, rfl⟩ := Crc.word_of w2
      simp only [Prod.mk.injEq] at he
      refine ⟨⟨k, a, b, s.data.toList⟩, by unfold fC; rw [Flash.bs_list], ?_, by simpa using z3⟩
      rw [he.1]
      simp [dF, k0, k1, k2, k3]
set_option maxRecDepth 100000 in
theorem open_frames {H : Type} {enc : TypeId × Value → H} {W : World} {base : Nat} {v : Value} {d : DataW H} {p : List MemPlace}
    (hv : Value.okWide Tryd.prog W .any base 31 v) (h : DataW.Trod enc Tryd.prog W 0 (fun _ => true) true 31 v d p) :
    ∃ (a : Option Addr) (cap : Nat) (l : List Fr), v = .slice a l.length cap ∧ FAt W a l ∧ l.length ≤ maxLen ∧ l.length ≤ cap ∧ ((d = .nil ∧ l = []) ∨ ∃ sp, d = .slice (l.map dF) sp) := by
  have hC : Tryd.prog.cellsOf 49 = 4 := by kernel_rfl
  obtain ⟨a0, len0, cap0, rfl⟩ := okWide_slice Tryd.underlying31 hv
  obtain ⟨fuel, hf⟩ := h
  rcases Go.Deep.open_slice Tryd.underlying31 hf with ⟨hcs, hx⟩ | ⟨a, len, cap, m, n, D, Pl, hcs, _, hl, hm, hmm, hx, hi⟩
  · simp [Value.cells] at hcs
    obtain ⟨rfl, rfl, rfl⟩ := hcs
    simp only [Prod.mk.injEq] at hx
    exact ⟨none, 0, [], rfl, .inl rfl, by simp, by simp, .inl ⟨hx.1, rfl⟩⟩
  · simp [Value.cells] at hcs
    obtain ⟨rfl, rfl, rfl⟩ := hcs
    simp only [if_true] at hmm
    have key : ∀ i, i < len0 → ∃ x : Fr, W.cells? 0 (a.add (i * 4)) 4 = some (fC x) ∧ D i = dF x := by
      intro i hil
      obtain ⟨cs', h1, h2⟩ := hi i (by omega)
      rw [hC] at h1
      obtain ⟨x, rfl, h3, _⟩ := trod_frame h2
      exact ⟨x, h1, h3⟩
    let f : Nat → Fr := fun i => if hil : i < len0 then (key i hil).choose else Frame.zeroF
    have hfs : ∀ i, (hil : i < len0) → W.cells? 0 (a.add (i * 4)) 4 = some (fC (f i)) ∧ D i = dF (f i) := by
      intro i hil
      have := (key i hil).choose_spec
      simp only [f, hil, dif_pos]
      exact this
    have hlen : ((List.range len0).map f).length = len0 := by simp
    refine ⟨some a, cap0, (List.range len0).map f, by rw [hlen], ?_, by omega, by omega, .inr ⟨(List.range (m - len0)).map fun j => D (len0 + j), ?_⟩⟩
    · by_cases h0 : len0 = 0
      · subst h0; exact .inl rfl
      · obtain ⟨b, off, spot⟩ := a
        have hat : ∀ i, i < len0 → ∀ j c, (fC (f i))[j]? = some c → W.cell? ((⟨b, off, spot⟩ : Addr).add (i * 4) |>.add j) = some c := by
          intro i hil j c hj
          obtain ⟨_, _, hc⟩ := World.cells?_some (hfs i hil).1
          have hj3 : j < 4 := (List.getElem?_eq_some_iff.1 hj).1
          rw [hc j hj3]; exact hj
        have hspot : spot = none := by
          have h1 := hat 0 (by omega) 0 _ rfl
          simpa [Addr.add] using World.cell?_spot h1
        subst hspot
        refine .inr ⟨b, off, rfl, fun j c hj => ?_⟩
        have hjl : j < len0 * 4 := by
          have := (List.getElem?_eq_some_iff.1 hj).1
          rw [flatF_length, hlen] at this; exact this
        have hd : j = j / 4 * 4 + j % 4 := by omega
        have hx3 : ((List.range len0).map f)[j / 4]? = some (f (j / 4)) := by
          rw [List.getElem?_map, List.getElem?_range (by omega)]; rfl
        obtain ⟨g0, g1, g2, g3⟩ := flatF_at _ _ _ hx3
        have hr : (fC (f (j / 4)))[j % 4]? = some c := by
          rcases (show j % 4 = 0 ∨ j % 4 = 1 ∨ j % 4 = 2 ∨ j % 4 = 3 by omega) with h3 | h3 | h3 | h3
          · rw [hd, h3, Nat.add_zero, g0] at hj; rw [h3]; exact hj
          · rw [hd, h3, g1] at hj; rw [h3]; exact hj
          · rw [hd, h3, g2] at hj; rw [h3]; exact hj
          · rw [hd, h3, g3] at hj; rw [h3]; exact hj
        have := hat (j / 4) (by omega) (j % 4) c hr
        rw [add_place, add_place, Nat.add_assoc, ← hd] at this
        exact this
    · simp only [Prod.mk.injEq] at hx
      rw [hx.1]
      congr 1
      rw [List.map_map]
      apply List.map_congr_left
      intro i hir
      exact (hfs i (by simpa using hir)).2
end Go.Proofs.YtligapgjdpdihaaDoor.Group
