/-
  Small lemmas on worlds, and on slices of texts that came in. Nothing of the program's functions.
-/
import Derived.Test.YtmkdhehdfdkbjaaProg
import Derived.WalkKit
import Derived.Handy
import Derived.Lib.Hide
import Derived.ProofKit
import Derived.OpenShut
import Derived.WalkSmall
import Derived.SliceStrings
set_option linter.unusedVariables false
set_option linter.unusedSimpArgs false
namespace Go.Proofs.Ytmkdhehdfdkbjaa.Common
open Go.ChangeShapes Go.WideShapes Go.ChangeAt Go.RowKit

/-- a slice of texts in memory -/
def StrRow (w : World) (a : Option Addr) (ss : List ByteArray) : Prop :=
  ss = [] ∨ ∃ b off, a = some ⟨b, off, none⟩ ∧ ∀ i, i < ss.length → w.cell? ⟨b, off + i, none⟩ = some (.string (ss.getD i ByteArray.empty))

theorem open_strs {H : Type} {enc : TypeId × Value → H} {P : Program} {W : World} {base : Nat} {t e : TypeId} {v : Value} {d : DataW H} {p : List MemPlace}
    (ht : P.underlying t = some (.slice e)) (he : P.underlying e = some .string) (hc : P.cellsOf e = 1)
    (hv : Value.okWide P W .any base t v) (h : DataW.Trod enc P W 0 (fun _ => true) true t v d p) :
    ∃ (a : Option Addr) (cap : Nat) (ss : List ByteArray), v = .slice a ss.length cap ∧ StrRow W a ss ∧ ss.length ≤ maxLen ∧ (∀ s ∈ ss, s.size ≤ maxLen) ∧
      ((d = .nil ∧ ss = [] ∧ a = none ∧ cap = 0) ∨ ∃ sp, d = .slice (strs ss) sp) := by
  obtain ⟨a0, len0, cap0, rfl⟩ := okWide_slice ht hv
  obtain ⟨fuel, hf⟩ := h
  rcases open_strings ht he hc hf with ⟨hcs, hx⟩ | ⟨x, l, c, ss, hcs, _, hl, hm, hz, hx, hcell, hws⟩
  · simp [Value.cells] at hcs
    obtain ⟨rfl, rfl, rfl⟩ := hcs
    simp only [Prod.mk.injEq] at hx
    exact ⟨none, 0, [], rfl, .inl rfl, by simp, by simp, .inl ⟨hx.1, rfl, rfl, rfl⟩⟩
  · simp [Value.cells] at hcs
    obtain ⟨rfl, rfl, rfl⟩ := hcs
    simp at hz
    simp only [Prod.mk.injEq] at hx
    have hlen : (ss.take len0).length = len0 := by simp; omega
    refine ⟨some x, cap0, ss.take len0, by rw [hlen], ?_, by omega, fun s hs => hws s (List.mem_of_mem_take hs), .inr ⟨_, hx.1⟩⟩
    by_cases h0 : len0 = 0
    · left; simp [h0]
    · right
      obtain ⟨b, off, spot⟩ := x
      have hc0 := hcell 0 (by omega)
      have hspot : spot = none := by simpa [Addr.add] using World.cell?_spot hc0
      subst hspot
      refine ⟨b, off, rfl, fun i hi => ?_⟩
      have := hcell i (by omega)
      rw [show (⟨b, off, none⟩ : Addr).add i = ⟨b, off + i, none⟩ by unfold Addr.add; split <;> simp_all] at this
      rw [this, List.getD, List.getD, List.getElem?_take_of_lt (by omega)]

theorem StrRow.below {w w' : World} {a : Option Addr} {ss : List ByteArray} (h : StrRow w a ss) (hb : Below w.heap.size w w') (hlt : ∀ b off, a = some ⟨b, off, none⟩ → ss ≠ [] → b < w.heap.size) : StrRow w' a ss := by
  rcases h with h | ⟨b, off, ha, hc⟩
  · exact .inl h
  · by_cases hn : ss = []
    · exact .inl hn
    · exact .inr ⟨b, off, ha, fun i hi => by rw [hb.cell (p := ⟨b, off + i, none⟩) (hlt b off ha hn)]; exact hc i hi⟩
theorem StrRow.lt {w : World} {a : Option Addr} {ss : List ByteArray} (h : StrRow w a ss) : ∀ b off, a = some ⟨b, off, none⟩ → ss ≠ [] → b < w.heap.size := by
  intro b off ha hn
  rcases h with h | ⟨b', off', ha', hc⟩
  · exact absurd h hn
  · rw [ha] at ha'; simp at ha'; obtain ⟨rfl, rfl⟩ := ha'
    have h0 := hc 0 (by cases ss with | nil => exact absurd rfl hn | cons _ _ => simp)
    exact block_lt_of_cell h0
end Go.Proofs.Ytmkdhehdfdkbjaa.Common
