/-
  The walk of GroupBack.
-/
import Derived.Test.YtligapgjdpdihaaGreatDoorGroupLawsB
set_option linter.unusedVariables false
set_option linter.unusedSimpArgs false
namespace Go.Proofs.YtligapgjdpdihaaGreatDoor.Group
open Go.RowKit
open CrcM (W)
open Crc (le4 sumOf vl wd putS)
open Flash (bs bs_size bs_list list_bs cut)
open Go.Proofs.YtligapgjdpdihaaGreatDoor.Frame (Fr zeroF fV fC bel2 below_drewN)
open Piece (pieceR isSeqB)
open Tup Bytes Own
open Geom (Gm gV rightG mostG needG Small right_small smallG small_small)
open Batch (Wr WAt WMine Tb bytesW layB rightW readW writesOf makeW)
open Go.Proofs.YtligapgjdpdihaaGreatDoor.Region (fill Then Deps Each wp_region_is wp_region_is_tail wp_region_each wp_region_tail)
theorem fm_of {w : World} {base : Nat} {v : Value} {l : List Fr} (h : w.ownsRow base 29 4 v l.length (flatF l)) : FMine w base v l := h
theorem fm_cap {w : World} {base : Nat} {a : Option Addr} {c : Nat} {l : List Fr} (h : FMine w base (.slice a l.length c) l) : l.length ≤ c := by
  obtain ⟨a', c', e, _, hc⟩ := h.slice
  simp only [Value.slice.injEq] at e
  obtain ⟨_, _, rfl⟩ := e
  exact hc
end Go.Proofs.YtligapgjdpdihaaGreatDoor.Group
