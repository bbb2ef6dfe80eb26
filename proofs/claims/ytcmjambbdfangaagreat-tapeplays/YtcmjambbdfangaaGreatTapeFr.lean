/-
  What the laws' frames answers.
-/
import Derived.Test.YtcmjambbdfangaaGreatRunFlashA
import Derived.Test.YtcmjambbdfangaaGreatRegionTurn
import Derived.Test.YtcmjambbdfangaaGreatRunTapeL
set_option linter.unusedVariables false
set_option linter.unusedSimpArgs false
namespace Go.Proofs.YtcmjambbdfangaaGreat.Tape
open Go.RowKit
open Go.Proofs.YtcmjambbdfangaaGreat.Own
open CrcM (W)
open Crc (vl wd)
open Flash (newD readD Dev FHas RHas programD eraseD flushD bs list_bs)
open Chart (newC pgC Ch CHas DHas openC takeC eraseC setC)
open Go.Proofs.YtcmjambbdfangaaGreat.Frame (Fr fV page bytesG)
open Tup Foot Bytes
open Go.Proofs.YtcmjambbdfangaaGreat.Region (fill Then Deps Each wp_region_is wp_region_is_tail wp_region_each wp_region_tail slots TJ TJ2 Each2 Deps2 wp_region_each3 upd put)

theorem shortT (s : ByteArray) (hs : s.size ≤ maxLen) (n : Nat) (hn : n ≤ 1000) (w : World) :
    Calls Tryz.prog 8 #[.string s, .int .i64 (n : Int)] w fun e w' => e = .returned (.string (bs (s.data.toList.take n))) ∧ w = w' := by
  unfold maxLen at hs
  obtain ⟨k, hk⟩ : ∃ k : Nat, (k : Int) = min (s.size : Int) (n : Int) := ⟨min s.size n, by omega⟩
  have hmn := fun w ts t => Txt.min2' (P := Tryz.prog) w ts t (s.size : Int) (n : Int) (k : Int) hk
  have hsl := Txt.cutS s.data.toList k (k : Int) rfl (by simp; omega)
  rw [Flash.bs_list] at hsl
  have HE := Lib.hid (show s.data.toList.take k = s.data.toList.take n by
    by_cases h : s.size ≤ n
    · rw [List.take_of_length_le (show s.data.toList.length ≤ n by simpa using h), List.take_of_length_le (by simp; omega)]
    · rw [show k = n by omega])
  clear hk
  go_enter Tryz.func8, Tryz.ntmps8
  go_wp2
  go_ret
  rw [HE.out]
  exact ⟨rfl, rfl⟩
def StrAt (w : World) (a : Option Addr) (l : List ByteArray) : Prop := Tup.At w a (l.map (.string ·))
theorem StrAt.get {w : World} {a : Option Addr} {l : List ByteArray} (h : StrAt w a l) {k : Nat} (hk : k < l.length) : ∃ b off, a = some ⟨b, off, none⟩ ∧ b < w.heap.size ∧ w.cell? ⟨b, off + k, none⟩ = some (.string (l.getD k ⟨#[]⟩)) := by
  have hg : (l.map (Value.string ·))[k]? = some (.string (l.getD k ⟨#[]⟩)) := by rw [List.getElem?_map, List.getElem?_eq_getElem hk, List.getD_eq_getElem?_getD, List.getElem?_eq_getElem hk]; rfl
  rcases h with hn | ⟨b, off, ha, hl⟩
  · rw [hn] at hg; simp at hg
  · exact ⟨b, off, ha, block_lt_of_cell (hl _ _ hg), hl _ _ hg⟩
theorem StrAt.below {w w' : World} {a : Option Addr} {l : List ByteArray} (h : StrAt w a l) (g : Below w.heap.size w w') : StrAt w' a l := Tup.At.below h g
/-- the values of operations some of which make a row of one -/
def SV (tab : List Value) (B : List (Nat × List Value)) : Nat → Value → World → Prop := fun i v w => match B.lookup i with
  | some cs => ∃ g, v = .slice (some ⟨g, 0, none⟩) 1 1 ∧ Lies w g 0 cs ∧ g < w.heap.size
  | none => v = tab.getD i undef
theorem lies_below {w w' : World} {g : Nat} {cs : List Value} (h : Lies w g 0 cs) (hg : g < w.heap.size) (b : Below w.heap.size w w') : Lies w' g 0 cs := fun j c hj => by
  rw [b.cell (p := ⟨g, 0 + j, none⟩) hg]; exact h j c hj
theorem SV.mono (tab : List Value) (B : List (Nat × List Value)) : ∀ i v w w', SV tab B i v w → Below w.heap.size w w' → SV tab B i v w' := by
  intro i v w w' h hb
  unfold SV at h ⊢
  split
  · rename_i cs e
    rw [e] at h
    obtain ⟨g, h1, h2, h3⟩ := h
    exact ⟨g, h1, lies_below h2 h3 hb, Nat.lt_of_lt_of_le h3 hb.size⟩
  · rename_i e
    rw [e] at h; exact h
end Go.Proofs.YtcmjambbdfangaaGreat.Tape
