/-
  What the document's own page, FrameBytes answer.
-/
import Derived.Test.YtdbfclngllhdlaaFrameM
import Derived.Test.YtdbfclngllhdlaaTxt
import Derived.Test.YtdbfclngllhdlaaGeomA
import Derived.Test.YtdbfclngllhdlaaRegionTail
import Derived.Deep.QuietTactic
import Derived.BigQuiet
import Derived.Laws.ResultCell
set_option linter.unusedVariables false
set_option linter.unusedSimpArgs false
namespace Go.Proofs.Ytdbfclngllhdlaa.Frame
open Go.RowKit
open CrcM (W)
open Crc (le4 sumOf vl wd putS)
open Flash (bs bs_size bs_list list_bs)
open Tup Bytes
open Go.Proofs.Ytdbfclngllhdlaa.Region (fill Then Deps Each wp_region_is wp_region_is_tail wp_region_each wp_region_tail)

theorem below_drewN (w : World) (k : Nat) : Below w.heap.size w (w.drewN k) := ⟨rfl, rfl, rfl, Nat.le_refl _, fun _ _ => rfl⟩
theorem bel2 {a w1 w2 : World} (h : Below a.heap.size a w1) (k : Below w1.heap.size w1 w2) : Below a.heap.size a w2 := h.trans (k.mono h.size)
/-- a frame as a value -/
def fV (f : Fr) : Value := .agg #[.int .i64 f.kind, .int .u32 (vl f.a), .int .u32 (vl f.b), .string (bs f.body)]
def fC (f : Fr) : List Value := [.int .i64 f.kind, .int .u32 (vl f.a), .int .u32 (vl f.b), .string (bs f.body)]
/-- a slice of these bytes, somewhere -/
def BytesAt (w : World) (v : Value) (l : List UInt8) : Prop := ∃ g c, v = .slice (some ⟨g, 0, none⟩) l.length c ∧ Row8 w g l
theorem BytesAt.below {w w' : World} {v : Value} {l : List UInt8} (h : BytesAt w v l) (hb : Below w.heap.size w w') : BytesAt w' v l := by
  obtain ⟨g, c, e, r⟩ := h
  exact ⟨g, c, e, r.below hb⟩
/-- the values of a region's operations, some of them rows of bytes -/
def VB (tab : List Value) (bts : List (Nat × List UInt8)) : Nat → Value → World → Prop := fun i v w => match bts.lookup i with | some l => BytesAt w v l | none => v = tab.getD i undef
theorem VB.mono (tab : List Value) (bts : List (Nat × List UInt8)) : ∀ i v w w', VB tab bts i v w → Below w.heap.size w w' → VB tab bts i v w' := by
  intro i v w w' h hb
  unfold VB at h ⊢
  split <;> rename_i e
  · rw [e] at h; exact BytesAt.below h hb
  · rw [e] at h; exact h
theorem row_new (w : World) (t : TypeId) (l : List UInt8) : Row8 (w.alloc (.cells (l.map fun c => Value.int .u8 (c.toNat : Int)).toArray t)) w.heap.size l := fun j hj => by
  refine ⟨?_, ?_⟩
  · have := (lies_new w (l.map fun c => Value.int .u8 (c.toNat : Int)) t) j (.int .u8 ((l.getD j 0).toNat : Int)) (by rw [List.getElem?_map, List.getElem?_eq_getElem hj, List.getD_eq_getElem?_getD, List.getElem?_eq_getElem hj]; rfl)
    rwa [Nat.zero_add] at this
  · exact (Var.new w t (l.map fun c => Value.int .u8 (c.toNat : Int))).frozen j
theorem mask255 (n : Nat) (h : n < 4294967296) : bits .and .u32 (n : Int) 255 = ((n % 256 : Nat) : Int) := by
  have := u32_and_nat n 255 h (by decide)
  rw [show n &&& 255 = n % 256 from Nat.and_two_pow_sub_one_eq_mod n 8] at this
  exact this
theorem i64_and255 (n : Int) : bits .and .i64 n 255 = n % 256 := by
  have h255 : (BitVec.ofInt 64 255).toNat = 2 ^ 8 - 1 := by decide
  have key : (BitVec.ofInt 64 n &&& BitVec.ofInt 64 255).toNat = (n % ((2 ^ 64 : Nat) : Int)).toNat % 2 ^ 8 := by
    rw [BitVec.toNat_and, BitVec.toNat_ofInt, h255, Nat.and_two_pow_sub_one_eq_mod]
  show IntKind.i64.wrap ((BitVec.ofInt 64 n &&& BitVec.ofInt 64 255).toNat : Nat) = n % 256
  rw [key, IntKind.wrap_i64]
  omega
set_option maxRecDepth 100000 in
theorem refPut_any (x : W) (w : World) :
    Calls Try.prog 18 #[.int .u32 (vl x)] w fun e w' => e = .returned (.string (putS x)) ∧ Below w.heap.size w w' := by
  have hx := x.isLt
  obtain ⟨n, hn⟩ : ∃ n, n = x.toNat := ⟨_, rfl⟩
  have hv : vl x = (n : Int) := by unfold vl; rw [hn]
  rw [← hn] at hx
  have m0 := mask255 n hx
  have m1 := mask255 (n / 256) (by omega)
  have m2 := mask255 (n / 65536) (by omega)
  obtain ⟨n0, h0⟩ : ∃ n0, n0 = n % 256 := ⟨_, rfl⟩
  obtain ⟨n1, h1⟩ : ∃ n1, n1 = n / 256 % 256 := ⟨_, rfl⟩
  obtain ⟨n2, h2⟩ : ∃ n2, n2 = n / 65536 % 256 := ⟨_, rfl⟩
  obtain ⟨n3, h3⟩ : ∃ n3, n3 = n / 16777216 := ⟨_, rfl⟩
  rw [← h0] at m0
  rw [← h1] at m1
  rw [← h2] at m2
  have d1 : (n : Int) / 256 = ((n / 256 : Nat) : Int) := rfl
  have d2 : (n : Int) / 65536 = ((n / 65536 : Nat) : Int) := rfl
  have d3 : (n : Int) / 16777216 = (n3 : Int) := by rw [h3]; rfl
  rw [← d1] at m1
  rw [← d2] at m2
  have l0 : n0 < 256 := by omega
  have l1 : n1 < 256 := by omega
  have l2 : n2 < 256 := by omega
  have l3 : n3 < 256 := by omega
  have HE := Lib.hid (show putS x = bs [u8 n0, u8 n1, u8 n2, u8 n3] by
    unfold putS bs CrcM.put u8
    rw [← hn, h0, h1, h2, h3]
    rw [Nat.mod_eq_of_lt (show n / 16777216 < 256 by omega)])
  rw [hv]
  have htx := (row_new w 5 [u8 n0, u8 n1, u8 n2, u8 n3]).text (P := Try.prog) 66 9 5 4 Try.underlying66 Try.underlying5 Try.underlying9 4 rfl
  simp only [List.map_cons, List.map_nil, u8_int l0, u8_int l1, u8_int l2, u8_int l3] at htx
  have HB := Lib.hid (Geom.bel_alloc w (.cells #[.int .u8 (n0 : Int), .int .u8 (n1 : Int), .int .u8 (n2 : Int), .int .u8 (n3 : Int)] 5))
  clear hv hn h0 h1 h2 h3 d1 d2
  go_enter Try.func18, Try.ntmps18
  go_wp2
  go_ret
  rw [HE.out]
  exact ⟨rfl, HB.out⟩
end Go.Proofs.Ytdbfclngllhdlaa.Frame
