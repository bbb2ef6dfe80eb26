/-
  DERIVED. GIVEN WITH THE SEED: THE CARDS: each row of YtligapgjdpdihaaGreatDoorRows.lean that lists a variable, with what it lists TIED to the program's text (the seventh form; the later family's looks); each row that meets fmt, with fmt's text TOLD by the authors' own Lean function (tested against real Go, not proved from fmt's source: count such statements apart). THE CARD IS WHAT COUNTS. Prove the row's statement (the work); the ties are given (YtligapgjdpdihaaGreatDoorTie.lean); close each card by the builder's one call (the guide's Derived/Test/ToyasCard.lean, 'card_holds'). Laid BY PROGRAM, IN A SANDBOX (cutbox-door.mjs). By AI agents, Wed Nov 11 2026. No macro, syntax, notation, axiom, sorry.
-/
import Derived.Test.YtligapgjdpdihaaGreatDoorRows
import GoSem.ClaimSeven
namespace Go.Proofs.YtligapgjdpdihaaGreatDoor
namespace Rows

/-- THE TIED CARD OF 'cachepotlaw10.GroupBent'. -/
def groupBentCard : Claim7 := { stood := { row := groupBentRow, standIns := [], harness := (true, "022445762c606191ce4c155f59497e5b87c1723b64a73ef32fcb7cab528e62af"), looks := true }, kinds := [], alts := [], laidByText := true, laidKinds := [.data, .pinned], laidTests := true, laidLooks := .later }
def GroupBentCardSaid : Prop := Claim7.holds Tryz.pinned (.plain (OpenSpec.ofChange groupBentSpec)) groupBentCard

/-- THE SECOND FORM's CARD OF 'cachepotlaw10.GroupBent'. -/
def groupBentUptoCard : Claim7 := { stood := { row := groupBentUptoRow, standIns := [], harness := (true, "022445762c606191ce4c155f59497e5b87c1723b64a73ef32fcb7cab528e62af"), looks := true }, kinds := [], alts := [], laidByText := true, laidKinds := [.data, .pinned], laidTests := true, laidLooks := .later }
def GroupBentUptoCardSaid : Prop := Claim7.holds Tryz.pinned (.plain (OpenSpec.upto groupBentSpec)) groupBentUptoCard
end Rows
end Go.Proofs.YtligapgjdpdihaaGreatDoor
