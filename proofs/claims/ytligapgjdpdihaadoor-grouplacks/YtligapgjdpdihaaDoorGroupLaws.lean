/-
  The walk of the laws of chapter 10: alive.
-/
import Derived.Test.YtligapgjdpdihaaDoorGroupXe
import Derived.Test.YtligapgjdpdihaaDoorRunGroupXh
import Derived.Test.YtligapgjdpdihaaDoorRunGroupMath
set_option linter.unusedVariables false
set_option linter.unusedSimpArgs false
namespace Go.Proofs.YtligapgjdpdihaaDoor.Group
open Go.RowKit
open CrcM (W)
open Crc (le4 sumOf vl wd putS)
open Flash (bs bs_size bs_list list_bs cut)
open Go.Proofs.YtligapgjdpdihaaDoor.Frame (Fr zeroF fV fC bel2 below_drewN)
open Piece (pieceR isSeqB)
open Tup Bytes Own
open Geom (Gm gV rightG mostG needG Small right_small smallG small_small)
open Batch (Wr WAt WMine Tb bytesW layB rightW readW writesOf makeW)
open Go.Proofs.YtligapgjdpdihaaDoor.Region (fill Then Deps Each wp_region_is wp_region_is_tail wp_region_each wp_region_tail)
def gA : Gm := ⟨32, 4, 4⟩
def xA : Gp := ⟨2#32, 1#32, 2#32, [⟨⟨#[97]⟩, false, ⟨#[98]⟩⟩]⟩
theorem cutA : cutG gA xA = (framesG gA xA [1, 0, 1, 97, 1, 98], 0) := by
  unfold cutG
  rw [show bytesW xA.wr = (⟨#[1, 0, 1, 97, 1, 98]⟩, 0) by decide +kernel, if_neg (by decide), if_neg (by simp), if_neg (by decide +kernel), if_neg (by decide)]
theorem lenA : (framesG gA xA [1, 0, 1, 97, 1, 98]).length = 2 := by rw [framesG_len]; rfl
theorem joinA : joinG (framesG gA xA [1, 0, 1, 97, 1, 98]) = (xA, 0) := by
  obtain ⟨b, hb, he⟩ := cut_ok cutA
  rw [he]; exact join_frames hb
theorem small_body {g : Gm} {x : Gp} {b : List UInt8} (h : CutOk g x b) : ∀ f ∈ framesG g x b, f.body.length ≤ 1048576 := by
  obtain ⟨_, _, h1, h2, _⟩ := h.sizes
  intro f hf
  unfold framesG at hf
  rcases List.mem_append.1 hf with hf | hf
  · unfold partsF partsTo at hf
    obtain ⟨k, _, rfl⟩ := List.mem_map.1 hf
    show (cut b (k * roomN g) (roomN g)).length ≤ _
    unfold cut
    rw [List.length_take, List.length_drop]; omega
  · rw [List.mem_singleton.1 hf]
    show (Piece.four _ _ _ _).length ≤ _
    simp [Piece.four, CrcM.put]
theorem frames_few {g : Gm} {x : Gp} {b : List UInt8} (h : CutOk g x b) : (framesG g x b).length ≤ 1000 := by
  obtain ⟨r1, _, h1, h2, h3, h4, _⟩ := h.sizes
  rw [framesG_len]
  have h5 := (partsN_spec (r := roomN g) (n := b.length) (by omega) (partsN (roomN g) b.length - 1)).2 (by omega)
  have h6 : (partsN (roomN g) b.length - 1) * 17 ≤ (partsN (roomN g) b.length - 1) * roomN g := Nat.mul_le_mul_left _ r1
  omega
theorem wat_two (w : World) (o : Obj) (t : TypeId) (k : ByteArray) (d : Bool) (v : ByteArray) : WAt ((w.alloc o).alloc (.cells #[.string k, .bool d, .string v] t)) (some ⟨w.heap.size + 1, 0, none⟩) [⟨k, d, v⟩] := Or.inr ⟨w.heap.size + 1, 0, rfl, Batch.lies_two w o _ t⟩
set_option maxRecDepth 100000 in
set_option maxHeartbeats 8000000 in
theorem alive_any (w : World) (hT : Tb w) : Calls Tryd.prog 14 #[] w fun e w' => e = .returned (.bool true) ∧ Below w.heap.size w w' := by
  have HT := Lib.hid hT
  have HC : Hid (∀ w, Tb w → ∀ a, WAt w a [⟨⟨#[97]⟩, false, ⟨#[98]⟩⟩] → Calls Tryd.prog 12 #[.agg #[.int .i64 32, .int .i64 4, .int .i64 4], .agg #[.int .u32 2, .int .u32 1, .int .u32 2, .slice a 1 1]] w fun e w' => ∃ va vc, e = .returned (.tuple #[.slice va 2 vc, .int .i64 0]) ∧ FAt w' va (framesG gA xA [1, 0, 1, 97, 1, 98]) ∧ 2 ≤ vc ∧ Below w.heap.size w w') := fun w hT a hr => by
    have h := cut_slice (cut_any gA xA a 1 (by decide) (fun y hy => by rw [List.mem_singleton.1 hy]; decide) w hT hr)
    rw [cutA] at h
    exact h.mono fun e w' ⟨va, vc, he, _, h1, h2, hb⟩ => ⟨va, vc, by rw [lenA] at he; exact he, h1, by rw [lenA] at h2; exact h2, hb⟩
  have HJ : Hid (∀ w, Tb w → ∀ a c, FAt w a (framesG gA xA [1, 0, 1, 97, 1, 98]) → 2 ≤ c → Calls Tryd.prog 16 #[.slice a 2 c] w fun e w' => ∃ vb vd, e = .returned (.tuple #[.agg #[.int .u32 2, .int .u32 1, .int .u32 2, .slice vb 1 vd], .int .i64 0]) ∧ Below w.heap.size w w') := fun w hT a c hr hc => by
    obtain ⟨b, hb, he⟩ := cut_ok cutA
    have h := join_slice (join_any a (framesG gA xA [1, 0, 1, 97, 1, 98]) c (by rw [lenA]; omega) (by rw [he]; exact small_body hb) (by rw [lenA]; exact hc) w hT hr)
    rw [joinA, lenA] at h
    exact h.mono fun e w' ⟨vb, vd, he, _, hb⟩ => ⟨vb, vd, he, hb⟩
  generalize framesG gA xA [1, 0, 1, 97, 1, 98] = FA at *
  go_enter Tryd.func14, Tryd.ntmps14
  go_wp2_with (first
    | (go_at_call 12; go_loud ((with_reducible refine (HC.out _ (Batch.Tb.below HT.out (bel2 (Geom.bel_alloc _ _) (Geom.bel_alloc _ _))) _ (wat_two _ _ _ _ _ _)).mono ?_); rintro e w2 ⟨va, vc, rfl, hat, hvc, bz⟩; obtain ⟨w1, hw1⟩ : ∃ wx, wx = ((w.alloc (.cells #[.int .i64 32, .int .i64 4, .int .i64 4] 23)).alloc (.cells #[.string ⟨#[97]⟩, .bool false, .string ⟨#[98]⟩] 55)) := ⟨_, rfl⟩; have bw1 := Lib.hid (show Below w.heap.size w w1 by rw [hw1]; exact (bel2 (Geom.bel_alloc _ _) (Geom.bel_alloc _ _))); have zw1 := Lib.hid (show w.heap.size + 2 ≤ w1.heap.size by rw [hw1]; simp); have vw1g := Lib.hid (show Var w1 (w.heap.size) 23 [.int .i64 32, .int .i64 4, .int .i64 4] by rw [hw1]; exact ((Var.new w 23 [.int .i64 32, .int .i64 4, .int .i64 4]).alloc _)); have hbel : Below w1.heap.size w1 w2 := (by rw [hw1]; exact bz); clear bz; have bw2 := Lib.hid (bel2 bw1.out hbel); have zw2 := Lib.hid hbel.size; have vw2g := Lib.hid (vw1g.out.below hbel vw1g.out.lt); clear hbel; have HFA := Lib.hid hat; clear hat))
    | (go_at_call 16; go_loud ((with_reducible refine (HJ.out _ (Batch.Tb.below HT.out bw2.out) va vc HFA.out hvc).mono ?_); rintro e w3 ⟨vb, vd, rfl, bz⟩; have hbel : Below w2.heap.size w2 w3 := (by exact bz); clear bz; have bw3 := Lib.hid (bel2 bw2.out hbel); have zw3 := Lib.hid hbel.size; have vw3g := Lib.hid (vw2g.out.below hbel vw2g.out.lt); clear hbel; have vf1 := (show Var (w3.alloc (.cells #[.int .u32 2, .int .u32 1, .int .u32 2, .slice vb 1 vd] 27)) (w3.heap.size) 27 [.int .u32 2, .int .u32 1, .int .u32 2, .slice vb 1 vd] from (Var.new w3 27 [.int .u32 2, .int .u32 1, .int .u32 2, .slice vb 1 vd])); have c2 := vf1.cell (j := 0) rfl; have c3 := vf1.cell (j := 1) rfl; have c4 := vf1.cell (j := 2) rfl; have c5 := vf1.cell (j := 3) rfl; clear vf1)))
  go_ret
  exact ⟨rfl, (bel2 bw3.out (Geom.bel_alloc _ _))⟩
end Go.Proofs.YtligapgjdpdihaaDoor.Group
