/-
  No cell of these rows narrows 'for every input' (looked for: loops, veiled, ifaces, maps, wideKeys, modest, calm, conditions, laid).
  DERIVED. THE GIVEN ROWS OF THIS SEAT. 6 by the template 'for every input the law returns true; each argument reads behind the call as it read before'; 0 by the template 'total and deterministic' (their statements: YtfponjonbhnmlaaTotals.lean).
  GIVEN WITH THE SEED: the statements are not yours to turn. If you find one false, say at which input.
  Laid BY PROGRAM, IN A SANDBOX (cutbox-rows.mjs): the forced cells as the released guide's own fill.sh prints them over the translation f7c8016a328862a1… (all of the seat's roots in one cut). By AI agents, Wed Nov 11 2026. No macro, syntax, notation, axiom, sorry.
-/
import Derived.Test.YtfponjonbhnmlaaChecked
import GoSem.Claim
import GoSem.ClaimJoined
import GoSem.ClaimMapViews
import Derived.JoinedTies
import Derived.KernelRfl
namespace Go.Proofs.Ytfponjonbhnmlaa
/- THE CELL 'sum', in the pinned program and in every row, IS THE sha256 OF THE DUMP (.gsa) THAT YtfponjonbhnmlaaProg.lean LOADS. Nothing in Lean hashes anything: it is a label: what it is worth is what the hold of that sum in a sandbox is worth. -/
noncomputable def Try.pinned : Pinned := { name := "ytfponjonbhnmlaa", sum := "f7c8016a328862a142d33ef8335a648a75fd4803055a2385ef00324d82898afb", checked := Try.checked }
namespace Rows
def none {H : Type} : Left H := { results := [], args := [] }

/-- 'cachepotlaw3.GlobRight': WHATEVER THE INPUT: true; the input reads as it did. -/
def globRightSpec : ChangeSpec := { name := "globRight", fn := fun _ => fun
  | [d] => { results := [.lit (.bool true)], args := [d] }
  | _ => none }
def globRightRow : OpenClaim := { program := "ytfponjonbhnmlaa", sum := "f7c8016a328862a142d33ef8335a648a75fd4803055a2385ef00324d82898afb", func := "cachepot/cachepotlaw3.GlobRight", spec := "globRight", inPlace := ["internal/bytealg.IndexByteString", "internal/bytealg.IndexString", "internal/abi.NoEscape"], named := ["internal/bytealg.MaxLen"], apart := false }
def GlobRightSaid : Prop := globRightRow.holds Try.pinned (OpenSpec.ofChange globRightSpec)

/-- ITS FALSE NEIGHBOUR: 'it returns false'. Refute it at one input. -/
def globRightWrong : ChangeSpec := { name := "globRight", fn := fun _ => fun
  | [d] => { results := [.lit (.bool false)], args := [d] }
  | _ => none }
def GlobRightWrongFalsely : Prop := globRightRow.holds Try.pinned (OpenSpec.ofChange globRightWrong)

/-- 'cachepotlaw3.GlobMatches': WHATEVER THE INPUT: true; the input reads as it did. -/
def globMatchesSpec : ChangeSpec := { name := "globMatches", fn := fun _ => fun
  | [d1, d2] => { results := [.lit (.bool true)], args := [d1, d2] }
  | _ => none }
def globMatchesRow : OpenClaim := { program := "ytfponjonbhnmlaa", sum := "f7c8016a328862a142d33ef8335a648a75fd4803055a2385ef00324d82898afb", func := "cachepot/cachepotlaw3.GlobMatches", spec := "globMatches", inPlace := ["internal/bytealg.IndexByteString", "internal/bytealg.IndexString", "internal/abi.NoEscape"], named := ["internal/bytealg.MaxLen"], apart := false }
def GlobMatchesSaid : Prop := globMatchesRow.holds Try.pinned (OpenSpec.ofChange globMatchesSpec)

/-- ITS FALSE NEIGHBOUR: 'it returns false'. Refute it at one input. -/
def globMatchesWrong : ChangeSpec := { name := "globMatches", fn := fun _ => fun
  | [d1, d2] => { results := [.lit (.bool false)], args := [d1, d2] }
  | _ => none }
def GlobMatchesWrongFalsely : Prop := globMatchesRow.holds Try.pinned (OpenSpec.ofChange globMatchesWrong)

/-- 'cachepotlaw3.GlobPlains': WHATEVER THE INPUT: true; the input reads as it did. -/
def globPlainsSpec : ChangeSpec := { name := "globPlains", fn := fun _ => fun
  | [d] => { results := [.lit (.bool true)], args := [d] }
  | _ => none }
def globPlainsRow : OpenClaim := { program := "ytfponjonbhnmlaa", sum := "f7c8016a328862a142d33ef8335a648a75fd4803055a2385ef00324d82898afb", func := "cachepot/cachepotlaw3.GlobPlains", spec := "globPlains", inPlace := ["internal/abi.NoEscape", "internal/bytealg.IndexByteString", "internal/bytealg.IndexString"], named := ["internal/bytealg.MaxLen"], apart := false }
def GlobPlainsSaid : Prop := globPlainsRow.holds Try.pinned (OpenSpec.ofChange globPlainsSpec)

/-- ITS FALSE NEIGHBOUR: 'it returns false'. Refute it at one input. -/
def globPlainsWrong : ChangeSpec := { name := "globPlains", fn := fun _ => fun
  | [d] => { results := [.lit (.bool false)], args := [d] }
  | _ => none }
def GlobPlainsWrongFalsely : Prop := globPlainsRow.holds Try.pinned (OpenSpec.ofChange globPlainsWrong)

/-- 'cachepotlaw3.GlobStars': WHATEVER THE INPUT: true; the input reads as it did. -/
def globStarsSpec : ChangeSpec := { name := "globStars", fn := fun _ => fun
  | [d1, d2, d3] => { results := [.lit (.bool true)], args := [d1, d2, d3] }
  | _ => none }
def globStarsRow : OpenClaim := { program := "ytfponjonbhnmlaa", sum := "f7c8016a328862a142d33ef8335a648a75fd4803055a2385ef00324d82898afb", func := "cachepot/cachepotlaw3.GlobStars", spec := "globStars", inPlace := ["internal/bytealg.IndexByteString", "internal/bytealg.IndexString", "internal/abi.NoEscape"], named := ["internal/bytealg.MaxLen"], apart := false }
def GlobStarsSaid : Prop := globStarsRow.holds Try.pinned (OpenSpec.ofChange globStarsSpec)

/-- ITS FALSE NEIGHBOUR: 'it returns false'. Refute it at one input. -/
def globStarsWrong : ChangeSpec := { name := "globStars", fn := fun _ => fun
  | [d1, d2, d3] => { results := [.lit (.bool false)], args := [d1, d2, d3] }
  | _ => none }
def GlobStarsWrongFalsely : Prop := globStarsRow.holds Try.pinned (OpenSpec.ofChange globStarsWrong)

/-- 'cachepotlaw3.GlobCounts': WHATEVER THE INPUT: true; the input reads as it did. -/
def globCountsSpec : ChangeSpec := { name := "globCounts", fn := fun _ => fun
  | [d1, d2] => { results := [.lit (.bool true)], args := [d1, d2] }
  | _ => none }
def globCountsRow : OpenClaim := { program := "ytfponjonbhnmlaa", sum := "f7c8016a328862a142d33ef8335a648a75fd4803055a2385ef00324d82898afb", func := "cachepot/cachepotlaw3.GlobCounts", spec := "globCounts", inPlace := ["internal/bytealg.IndexByteString", "internal/bytealg.IndexString", "internal/abi.NoEscape"], named := ["internal/bytealg.MaxLen"], apart := false }
def GlobCountsSaid : Prop := globCountsRow.holds Try.pinned (OpenSpec.ofChange globCountsSpec)

/-- ITS FALSE NEIGHBOUR: 'it returns false'. Refute it at one input. -/
def globCountsWrong : ChangeSpec := { name := "globCounts", fn := fun _ => fun
  | [d1, d2] => { results := [.lit (.bool false)], args := [d1, d2] }
  | _ => none }
def GlobCountsWrongFalsely : Prop := globCountsRow.holds Try.pinned (OpenSpec.ofChange globCountsWrong)

/-- 'cachepotlaw3.GlobSets': WHATEVER THE INPUT: true; the input reads as it did. -/
def globSetsSpec : ChangeSpec := { name := "globSets", fn := fun _ => fun
  | [d1, d2, d3] => { results := [.lit (.bool true)], args := [d1, d2, d3] }
  | _ => none }
def globSetsRow : OpenClaim := { program := "ytfponjonbhnmlaa", sum := "f7c8016a328862a142d33ef8335a648a75fd4803055a2385ef00324d82898afb", func := "cachepot/cachepotlaw3.GlobSets", spec := "globSets", inPlace := ["internal/bytealg.IndexByteString", "internal/bytealg.IndexString", "internal/abi.NoEscape"], named := ["internal/bytealg.MaxLen"], apart := false }
def GlobSetsSaid : Prop := globSetsRow.holds Try.pinned (OpenSpec.ofChange globSetsSpec)

/-- ITS FALSE NEIGHBOUR: 'it returns false'. Refute it at one input. -/
def globSetsWrong : ChangeSpec := { name := "globSets", fn := fun _ => fun
  | [d1, d2, d3] => { results := [.lit (.bool false)], args := [d1, d2, d3] }
  | _ => none }
def GlobSetsWrongFalsely : Prop := globSetsRow.holds Try.pinned (OpenSpec.ofChange globSetsWrong)

/- THE SECOND FORM. 'bulk': how many values and letters a reading holds, each counted each time it is reached (what is shared counts as often as it is met; a slice's spare places count too). A statement '..UptoSaid' is the law's where the arguments, and the package variables that the reading takes, are together of bulk at most 1048576: NARROWER than '..Said'. Prove '..Said' where nothing that the law and all that it calls make is longer than what came in: it says more and counts as full. Else prove '..UptoSaid'. A law counts once. -/
mutual
def uptoBulk {H : Type} : DataW H → Nat
  | .lit (.string bytes) => bytes.length + 1
  | .lit _ => 1
  | .nil => 1
  | .ptr d => uptoBulk d + 1
  | .slice elems spare => uptoBulkAll elems + uptoBulkAll spare + 1
  | .agg parts => uptoBulkAll parts + 1
  | .iface _ d => uptoBulk d + 1
  | .map entries => uptoBulkEntries entries + 1
  | .held _ => 1
def uptoBulkAll {H : Type} : List (DataW H) → Nat
  | [] => 0
  | d :: r => uptoBulk d + uptoBulkAll r
def uptoBulkEntries {H : Type} : List (Lit × DataW H) → Nat
  | [] => 0
  | x :: r => uptoBulkEntry x + uptoBulkEntries r
def uptoBulkEntry {H : Type} : Lit × DataW H → Nat
  | (.string bytes, d) => bytes.length + uptoBulk d + 1
  | (_, d) => uptoBulk d + 1
 end
def uptoSmall : (H : Type) → List (DataW H) → Bool := fun _ ds => decide (uptoBulkAll ds ≤ 1048576)
def OpenSpec.upto (s : _root_.Go.ChangeSpec) : _root_.Go.OpenSpec := { _root_.Go.OpenSpec.ofChange s with cond := some uptoSmall }

/-- 'cachepotlaw3.GlobRight', WHERE WHAT IT READS IS OF BULK AT MOST 1048576: true; the input reads as it did. -/
def globRightUptoRow : OpenClaim := { program := "ytfponjonbhnmlaa", sum := "f7c8016a328862a142d33ef8335a648a75fd4803055a2385ef00324d82898afb", func := "cachepot/cachepotlaw3.GlobRight", spec := "globRight", inPlace := ["internal/bytealg.IndexByteString", "internal/bytealg.IndexString", "internal/abi.NoEscape"], named := ["internal/bytealg.MaxLen"], apart := false, narrowed := true }
def GlobRightUptoSaid : Prop := globRightUptoRow.holds Try.pinned (OpenSpec.upto globRightSpec)

/-- 'cachepotlaw3.GlobMatches', WHERE WHAT IT READS IS OF BULK AT MOST 1048576: true; the input reads as it did. -/
def globMatchesUptoRow : OpenClaim := { program := "ytfponjonbhnmlaa", sum := "f7c8016a328862a142d33ef8335a648a75fd4803055a2385ef00324d82898afb", func := "cachepot/cachepotlaw3.GlobMatches", spec := "globMatches", inPlace := ["internal/bytealg.IndexByteString", "internal/bytealg.IndexString", "internal/abi.NoEscape"], named := ["internal/bytealg.MaxLen"], apart := false, narrowed := true }
def GlobMatchesUptoSaid : Prop := globMatchesUptoRow.holds Try.pinned (OpenSpec.upto globMatchesSpec)

/-- 'cachepotlaw3.GlobPlains', WHERE WHAT IT READS IS OF BULK AT MOST 1048576: true; the input reads as it did. -/
def globPlainsUptoRow : OpenClaim := { program := "ytfponjonbhnmlaa", sum := "f7c8016a328862a142d33ef8335a648a75fd4803055a2385ef00324d82898afb", func := "cachepot/cachepotlaw3.GlobPlains", spec := "globPlains", inPlace := ["internal/abi.NoEscape", "internal/bytealg.IndexByteString", "internal/bytealg.IndexString"], named := ["internal/bytealg.MaxLen"], apart := false, narrowed := true }
def GlobPlainsUptoSaid : Prop := globPlainsUptoRow.holds Try.pinned (OpenSpec.upto globPlainsSpec)

/-- 'cachepotlaw3.GlobStars', WHERE WHAT IT READS IS OF BULK AT MOST 1048576: true; the input reads as it did. -/
def globStarsUptoRow : OpenClaim := { program := "ytfponjonbhnmlaa", sum := "f7c8016a328862a142d33ef8335a648a75fd4803055a2385ef00324d82898afb", func := "cachepot/cachepotlaw3.GlobStars", spec := "globStars", inPlace := ["internal/bytealg.IndexByteString", "internal/bytealg.IndexString", "internal/abi.NoEscape"], named := ["internal/bytealg.MaxLen"], apart := false, narrowed := true }
def GlobStarsUptoSaid : Prop := globStarsUptoRow.holds Try.pinned (OpenSpec.upto globStarsSpec)

/-- 'cachepotlaw3.GlobCounts', WHERE WHAT IT READS IS OF BULK AT MOST 1048576: true; the input reads as it did. -/
def globCountsUptoRow : OpenClaim := { program := "ytfponjonbhnmlaa", sum := "f7c8016a328862a142d33ef8335a648a75fd4803055a2385ef00324d82898afb", func := "cachepot/cachepotlaw3.GlobCounts", spec := "globCounts", inPlace := ["internal/bytealg.IndexByteString", "internal/bytealg.IndexString", "internal/abi.NoEscape"], named := ["internal/bytealg.MaxLen"], apart := false, narrowed := true }
def GlobCountsUptoSaid : Prop := globCountsUptoRow.holds Try.pinned (OpenSpec.upto globCountsSpec)

/-- 'cachepotlaw3.GlobSets', WHERE WHAT IT READS IS OF BULK AT MOST 1048576: true; the input reads as it did. -/
def globSetsUptoRow : OpenClaim := { program := "ytfponjonbhnmlaa", sum := "f7c8016a328862a142d33ef8335a648a75fd4803055a2385ef00324d82898afb", func := "cachepot/cachepotlaw3.GlobSets", spec := "globSets", inPlace := ["internal/bytealg.IndexByteString", "internal/bytealg.IndexString", "internal/abi.NoEscape"], named := ["internal/bytealg.MaxLen"], apart := false, narrowed := true }
def GlobSetsUptoSaid : Prop := globSetsUptoRow.holds Try.pinned (OpenSpec.upto globSetsSpec)

end Rows
end Go.Proofs.Ytfponjonbhnmlaa
