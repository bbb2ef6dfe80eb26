/-
  What the walks of the laws of chapter 10 share.
-/
import Derived.Test.YtligapgjdpdihaaGreatDoorGroupLaws
import Derived.Test.YtligapgjdpdihaaGreatDoorRunGroupMath
import Derived.Test.YtligapgjdpdihaaGreatDoorRunRefGroupB
import Derived.Test.YtligapgjdpdihaaGreatDoorRefGroupD
import Derived.Test.YtligapgjdpdihaaGreatDoorRunGeomA
set_option linter.unusedVariables false
set_option linter.unusedSimpArgs false
namespace Go.Proofs.YtligapgjdpdihaaGreatDoor.Group
open Go.RowKit
open CrcM (W)
open Crc (le4 sumOf vl wd putS)
open Flash (bs bs_size bs_list list_bs cut)
open Go.Proofs.YtligapgjdpdihaaGreatDoor.Frame (Fr zeroF fV fC bel2 below_drewN)
open Piece (pieceR isSeqB)
open Tup Bytes Own
open Geom (Gm gV rightG mostG needG Small right_small smallG small_small)
open Batch (Wr WAt WMine Tb bytesW layB rightW readW writesOf makeW)
open Go.Proofs.YtligapgjdpdihaaGreatDoor.Region (fill Then Deps Each wp_region_is wp_region_is_tail wp_region_each wp_region_tail)
theorem wat_of {w : World} {base : Nat} {e : TypeId} {a : Option Addr} {n m c : Nat} {M : List Wr} (h : w.ownsRow base e 3 (.slice a m c) n (Batch.flatW M)) : WAt w a M := At.of_owns h
theorem fat_of {w : World} {base : Nat} {e : TypeId} {a : Option Addr} {n m c : Nat} {M : List Fr} (h : w.ownsRow base e 4 (.slice a m c) n (flatF M)) : FAt w a M := At.of_owns h
theorem read_few (b : ByteArray) : (readW b).1.length ≤ 8 := by
  by_cases h : (readW b).2 = 0
  · have := (Batch.read_once (b := b) (l := (readW b).1) (by rw [← h])).2
    exact (Batch.rightW_ok this).2.1
  · rw [Batch.read_err (b := b) (l := (readW b).1) (c := (readW b).2) rfl h]; simp
theorem join_mine {P : Program} {f : FuncId} {args : Array Value} {w : World} {r : Gp × Nat} (h : Calls P f args w (JoinSays r w)) :
    Calls P f args w fun e w' => ∃ va vc, e = .returned (.tuple #[gpV r.1 (.slice va r.1.wr.length vc), .int .i64 (r.2 : Int)]) ∧ WMine w' w.heap.size (.slice va r.1.wr.length vc) r.1.wr ∧ Below w.heap.size w w' :=
  h.mono fun e w' ⟨v, he, hown, hb⟩ => by
    obtain ⟨va, vc, rfl⟩ := owns_slice hown
    exact ⟨va, vc, he, hown, hb⟩
theorem cut_mine {P : Program} {f : FuncId} {args : Array Value} {w : World} {r : List Fr × Nat} (h : Calls P f args w (CutSays r w)) :
    Calls P f args w fun e w' => ∃ va vc, e = .returned (.tuple #[.slice va r.1.length vc, .int .i64 (r.2 : Int)]) ∧ FMine w' w.heap.size (.slice va r.1.length vc) r.1 ∧ Below w.heap.size w w' :=
  (cut_slice h).mono fun e w' ⟨va, vc, he, hown, _, _, hb⟩ => ⟨va, vc, he, hown, hb⟩
theorem sameF_below {P : Program} {f : FuncId} {args : Array Value} {w : World} {v : Value} (h : Calls P f args w fun e w' => e = .returned v ∧ ∃ n, w' = w.drewN n) : Calls P f args w fun e w' => e = .returned v ∧ Below w.heap.size w w' :=
  h.mono fun _ _ ⟨he, hq⟩ => ⟨he, Crc.belD hq⟩
theorem join_few (l : List Fr) : (joinG l).1.wr.length ≤ 1000000 := by
  unfold joinG
  split
  · simp [zeroGp]
  split
  · simp [zeroGp]
  split
  · simp [zeroGp]
  split
  · simp [zeroGp]
  · show (readW (bs (textsF (headF l)))).1.length ≤ 1000000
    have := read_few (bs (textsF (headF l)))
    omega
theorem cut_len (g : Gm) (x : Gp) : (cutG g x).1.length ≤ 1000000 := by
  by_cases h : (cutG g x).2 = 0
  · obtain ⟨b, hb, he⟩ := cut_ok (g := g) (x := x) (l := (cutG g x).1) (by rw [← h])
    rw [he]
    have := frames_few hb
    omega
  · rw [cut_none h]; simp
theorem shaped_mine {P : Program} {f : FuncId} {args : Array Value} {w : World} {x : Gp} (h : Calls P f args w fun e w' => ∃ va vc, e = .returned (gpV x (.slice va x.wr.length vc)) ∧ WAt w' va x.wr ∧ WMine w' w.heap.size (.slice va x.wr.length vc) x.wr ∧ Below w.heap.size w w') :
    Calls P f args w fun e w' => ∃ va vc, e = .returned (gpV x (.slice va x.wr.length vc)) ∧ WMine w' w.heap.size (.slice va x.wr.length vc) x.wr ∧ Below w.heap.size w w' :=
  h.mono fun e w' ⟨va, vc, he, _, hown, hb⟩ => ⟨va, vc, he, hown, hb⟩
theorem shaped_few (x : Gp) : (shapedG x).wr.length ≤ 6 := by
  show (makeW (writesOf x.wr 6)).length ≤ 6
  rw [Batch.make_len]
  have h1 := Batch.keys_len (l := writesOf x.wr 6)
  have h2 := writes_six x.wr
  omega
theorem shaped_key (x : Gp) : ∀ y ∈ (shapedG x).wr, y.key.size ≤ 8796093022208 := by
  intro y hy
  have hk : y.key ∈ (makeW (writesOf x.wr 6)).map (·.key) := List.mem_map.2 ⟨y, hy, rfl⟩
  rw [Batch.make_keys] at hk
  have h2 := ((Batch.keys_spec (writesOf x.wr 6)).2 y.key).1 hk
  obtain ⟨z, hz, hzk⟩ := List.mem_map.1 h2
  rw [← hzk]
  exact writes_key x.wr 6 z hz
end Go.Proofs.YtligapgjdpdihaaGreatDoor.Group
