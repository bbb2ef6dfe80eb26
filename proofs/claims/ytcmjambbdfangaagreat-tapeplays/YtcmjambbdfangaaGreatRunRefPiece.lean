/-
  Joined texts: RefPiece, PieceXa, PieceXb, PieceXc, PieceX, RefFrameC, RefFrameD.
-/
import Derived.Test.YtcmjambbdfangaaGreatRunFrameM
import Derived.Test.YtcmjambbdfangaaGreatRunRefFrame
import Derived.Test.YtcmjambbdfangaaGreatRunRegion
import Derived.Test.YtcmjambbdfangaaGreatRunTup
/-
  What the document's own PieceRight answers.
-/
set_option linter.unusedVariables false
set_option linter.unusedSimpArgs false
namespace Go.Proofs.YtcmjambbdfangaaGreat.Piece
open Go.RowKit
open CrcM (W)
open Crc (le4 sumOf vl wd putS)
open Flash (bs bs_size bs_list list_bs)
open Go.Proofs.YtcmjambbdfangaaGreat.Frame (Fr zeroF fV bel2 below_drewN)
open Tup Bytes Own

theorem eqI (a b : Int) : (a == b) = decide (a = b) := by rw [Bool.eq_iff_iff]; simp
theorem neI (a b : Int) : (a != b) = !decide (a = b) := by unfold bne; rw [eqI]
theorem isSeq_false {a : W} (h : decide (vl a < 1) = true ∨ decide (2147483647 < vl a) = true) : isSeqB a = false := by
  unfold isSeqB
  rcases h with h | h <;> simp only [decide_eq_true_eq] at h <;> simp <;> omega
theorem isSeq_true {a : W} (h : decide (vl a < 1) = false) (h2 : decide (2147483647 < vl a) = false) : isSeqB a = true := by
  simp only [decide_eq_false_iff_not] at h h2
  unfold isSeqB
  simp; omega
theorem pieceR_not {f : Fr} (h : isSeqB f.a = false) : pieceR f = false := by unfold pieceR; rw [h]; rfl
theorem pieceR_at {f : Fr} (h : isSeqB f.a = true) : pieceR f = (if f.kind = 1 then f.body.isEmpty else if f.kind = 2 then !f.body.isEmpty else if f.kind = 3 then sealR f.a f.b f.body else if f.kind = 4 then floorR f.a f.body else false) := by unfold pieceR; rw [h]; rfl
theorem bs_toList (l : List UInt8) : (bs l).toList = l := by rw [ByteArray.toList_eq]; rfl
theorem bs_empty (l : List UInt8) : ((bs l).toList == ([] : List UInt8)) = l.isEmpty := by
  rw [bs_toList]
  cases l <;> rfl
end Go.Proofs.YtcmjambbdfangaaGreat.Piece
/-
  What package piece's small functions answer: isSeq, right, Kind, body, sealOf, floorOf, checked, AsPart, AsSeal, AsFloor.
-/
set_option linter.unusedVariables false
set_option linter.unusedSimpArgs false
namespace Go.Proofs.YtcmjambbdfangaaGreat.Piece
open Go.RowKit
open CrcM (W)
open Crc (le4 sumOf vl wd putS)
open Flash (bs bs_size bs_list list_bs)
open Go.Proofs.YtcmjambbdfangaaGreat.Frame (Fr zeroF fV bel2 below_drewN)
open Tup Bytes Own
open Go.Proofs.YtcmjambbdfangaaGreat.Region (fill Then Deps Each wp_region_is wp_region_is_tail wp_region_each wp_region_tail)

def headV (e r : W) : Value := .agg #[.int .u32 (vl e), .int .u32 (vl r)]
def partV (s a : W) (t : List UInt8) : Value := .agg #[.int .u32 (vl s), .int .u32 (vl a), .string (bs t)]
def sealV (s p v f u z : W) : Value := .agg #[.int .u32 (vl s), .int .u32 (vl p), .int .u32 (vl v), .int .u32 (vl f), .int .u32 (vl u), .int .u32 (vl z)]
def floorV (s g f : W) : Value := .agg #[.int .u32 (vl s), .int .u32 (vl g), .int .u32 (vl f)]
/-- a piece as a value -/
def pcV : Pc → Value
  | .none => .nilIface
  | .head e r => .iface 125 (headV e r)
  | .part s a t => .iface 144 (partV s a t)
  | .fin s p v f u z => .iface 146 (sealV s p v f u z)
  | .floor s g f => .iface 148 (floorV s g f)
def partR (s : W) (t : List UInt8) : Bool := isSeqB s && !t.isEmpty
def sealPR (s p v f z : W) : Bool := isSeqB s && decide (0 < vl p) && decide (vl v < vl s) && decide (1 ≤ vl f) && decide (vl f ≤ vl s) && decide (0 < vl z)
def floorPR (s f : W) : Bool := isSeqB s && decide (vl f ≤ vl s)
theorem isSeq_any (x : W) (w : World) : Calls Tryz.prog 115 #[.int .u32 (vl x)] w fun e w' => e = .returned (.bool (isSeqB x)) ∧ w = w' := by
  unfold isSeqB
  generalize vl x = v
  cases h1 : decide (1 ≤ v) <;> cases h2 : decide (v ≤ 2147483647)
  all_goals
    go_enter Tryz.func115, Tryz.ntmps115
    go_wp2
    go_ret
    exact ⟨rfl, rfl⟩
theorem headRight_any (e r : W) (w : World) : Calls Tryz.prog 103 #[headV e r] w fun e' w' => e' = .returned (.bool (isSeqB e)) ∧ Below w.heap.size w w' := by
  have HS := Lib.hid (fun w => isSeq_any e w)
  unfold headV
  generalize isSeqB e = B at *
  go_enter Tryz.func103, Tryz.ntmps103
  go_wp2_with (go_at_call 115; (with_reducible refine (HS.out _).mono ?_); rintro e w5 ⟨rfl, rfl⟩)
  go_ret
  exact ⟨rfl, Geom.bel_alloc _ _⟩
theorem partRight_any (s a : W) (t : List UInt8) (w : World) : Calls Tryz.prog 105 #[partV s a t] w fun e' w' => e' = .returned (.bool (partR s t)) ∧ Below w.heap.size w w' := by
  have HS := Lib.hid (fun w => isSeq_any s w)
  unfold partV partR
  have hem := bs_empty t
  obtain ⟨B, hB⟩ : ∃ B, B = bs t := ⟨_, rfl⟩
  rw [← hB] at hem ⊢
  clear hB
  generalize isSeqB s = q at *
  generalize t.isEmpty = z at *
  cases q <;> cases z
  all_goals
    go_enter Tryz.func105, Tryz.ntmps105
    go_wp2_with (go_at_call 115; (with_reducible refine (HS.out _).mono ?_); rintro e w5 ⟨rfl, rfl⟩)
    go_ret
    exact ⟨rfl, Geom.bel_alloc _ _⟩
theorem sealRight_any (s p v f u z : W) (w : World) : Calls Tryz.prog 107 #[sealV s p v f u z] w fun e' w' => e' = .returned (.bool (sealPR s p v f z)) ∧ Below w.heap.size w w' := by
  have HS := Lib.hid (fun w => isSeq_any s w)
  unfold sealV
  have HR := Lib.hid (show sealPR s p v f z = (isSeqB s && decide (0 < vl p) && decide (vl v < vl s) && decide (1 ≤ vl f) && decide (vl f ≤ vl s) && decide (0 < vl z)) from rfl)
  generalize isSeqB s = q at *
  obtain ⟨S, hS⟩ : ∃ S, S = sealPR s p v f z := ⟨_, rfl⟩
  rw [← hS] at HR ⊢
  clear hS
  generalize vl s = s at *
  generalize vl p = p at *
  generalize vl v = v at *
  generalize vl f = f at *
  generalize vl u = u at *
  generalize vl z = z at *
  have hc : q = false ∨ (q = true ∧ decide (0 < p) = false) ∨ (q = true ∧ decide (0 < p) = true ∧ decide (v < s) = false) ∨ (q = true ∧ decide (0 < p) = true ∧ decide (v < s) = true ∧ decide (1 ≤ f) = false) ∨ (q = true ∧ decide (0 < p) = true ∧ decide (v < s) = true ∧ decide (1 ≤ f) = true ∧ decide (f ≤ s) = false) ∨ (q = true ∧ decide (0 < p) = true ∧ decide (v < s) = true ∧ decide (1 ≤ f) = true ∧ decide (f ≤ s) = true ∧ decide (0 < z) = false) ∨ (q = true ∧ decide (0 < p) = true ∧ decide (v < s) = true ∧ decide (1 ≤ f) = true ∧ decide (f ≤ s) = true ∧ decide (0 < z) = true) := by
    cases q <;> cases decide (0 < p) <;> cases decide (v < s) <;> cases decide (1 ≤ f) <;> cases decide (f ≤ s) <;> cases decide (0 < z) <;> simp
  rcases hc with rfl | ⟨rfl, t2⟩ | ⟨rfl, t2, t3⟩ | ⟨rfl, t2, t3, t4⟩ | ⟨rfl, t2, t3, t4, t5⟩ | ⟨rfl, t2, t3, t4, t5, t6⟩ | ⟨rfl, t2, t3, t4, t5, t6⟩
  all_goals
    go_enter Tryz.func107, Tryz.ntmps107
    go_wp2_with (go_at_call 115; (with_reducible refine (HS.out _).mono ?_); rintro e w5 ⟨rfl, rfl⟩)
    go_ret
    rw [HR.out]
    refine ⟨?_, Geom.bel_alloc _ _⟩
    first | rfl | (simp only [*, Bool.and_true, Bool.and_false, Bool.true_and, Bool.false_and]; rfl)
theorem floorRight_any (s g f : W) (w : World) : Calls Tryz.prog 110 #[floorV s g f] w fun e' w' => e' = .returned (.bool (floorPR s f)) ∧ Below w.heap.size w w' := by
  have HS := Lib.hid (fun w => isSeq_any s w)
  unfold floorV floorPR
  generalize isSeqB s = q at *
  generalize vl s = s at *
  generalize vl g = g at *
  generalize vl f = f at *
  cases q <;> cases h : decide (f ≤ s)
  all_goals
    go_enter Tryz.func110, Tryz.ntmps110
    go_wp2_with (go_at_call 115; (with_reducible refine (HS.out _).mono ?_); rintro e w5 ⟨rfl, rfl⟩)
    go_ret
    exact ⟨rfl, Geom.bel_alloc _ _⟩
theorem headKind_any (e r : W) (w : World) : Calls Tryz.prog 104 #[headV e r] w fun e' w' => e' = .returned (.int .i64 1) ∧ Below w.heap.size w w' := by
  unfold headV
  go_enter Tryz.func104, Tryz.ntmps104
  go_wp2
  go_ret
  exact ⟨rfl, Geom.bel_alloc _ _⟩
theorem partKind_any (s a : W) (t : List UInt8) (w : World) : Calls Tryz.prog 106 #[partV s a t] w fun e' w' => e' = .returned (.int .i64 2) ∧ Below w.heap.size w w' := by
  unfold partV
  go_enter Tryz.func106, Tryz.ntmps106
  go_wp2
  go_ret
  exact ⟨rfl, Geom.bel_alloc _ _⟩
theorem sealKind_any (s p v f u z : W) (w : World) : Calls Tryz.prog 108 #[sealV s p v f u z] w fun e' w' => e' = .returned (.int .i64 3) ∧ Below w.heap.size w w' := by
  unfold sealV
  go_enter Tryz.func108, Tryz.ntmps108
  go_wp2
  go_ret
  exact ⟨rfl, Geom.bel_alloc _ _⟩
theorem floorKind_any (s g f : W) (w : World) : Calls Tryz.prog 111 #[floorV s g f] w fun e' w' => e' = .returned (.int .i64 4) ∧ Below w.heap.size w w' := by
  unfold floorV
  go_enter Tryz.func111, Tryz.ntmps111
  go_wp2
  go_ret
  exact ⟨rfl, Geom.bel_alloc _ _⟩
theorem wd_le4 (l : List UInt8) (k : Nat) : vl (wd (le4 l k)) = le4 l k := by
  have h : ∀ j, (0 : Int) ≤ ((l.getD j 0).toNat : Int) ∧ ((l.getD j 0).toNat : Int) ≤ 255 := fun j => by have := (l.getD j 0).toNat_lt; omega
  have h0 := h k; have h1 := h (k + 1); have h2 := h (k + 2); have h3 := h (k + 3)
  refine Crc.vl_wd ?_ ?_ <;> unfold le4 <;> omega
/-- a number of a text, 0 where there are not four bytes -/
def getZ (l : List UInt8) (k : Nat) : W := if k + 4 ≤ l.length then wd (le4 l k) else 0#32
theorem getZ_any (l : List UInt8) (hl : l.length ≤ maxLen) (k : Nat) (hk : k ≤ 1000) (x : Int) (hx : x = (k : Int)) (w : World) : Calls Tryz.prog 98 #[.string (bs l), .int .i64 x] w fun e w' => e = .returned (.tuple #[.int .u32 (vl (getZ l k)), .bool (decide (k + 4 ≤ l.length))]) ∧ Below w.heap.size w w' := by
  subst hx
  unfold getZ
  by_cases h : k + 4 ≤ l.length
  · rw [if_pos h, decide_eq_true h]
    have := Crc.get_yes (bs l) (by rw [bs_size]; exact hl) k (by rw [bs_size]; exact h) w
    rw [list_bs] at this
    refine this.mono ?_
    rintro e w' ⟨rfl, n, rfl⟩
    refine ⟨?_, Crc.belD ⟨n, rfl⟩⟩
    rw [wd_le4]
  · rw [if_neg h, decide_eq_false h]
    refine (Crc.get_few (bs l) (by rw [bs_size]; exact hl) (k : Int) (by omega) (by omega) (by rw [bs_size]; omega) w).mono ?_
    rintro e w' ⟨rfl, rfl⟩
    exact ⟨rfl, Below.refl _ _⟩
def sealOfF (f : Fr) : Value := sealV f.a f.b (getZ f.body 0) (getZ f.body 4) (getZ f.body 8) (getZ f.body 12)
def floorOfF (f : Fr) : Value := floorV f.a f.b (getZ f.body 0)
def checkedF (r : Bool) (f : Fr) : Fr × Nat := if r = true then (f, 0) else (zeroF, 2)
set_option maxRecDepth 100000 in
theorem checked_any (r : Bool) (f : Fr) (w : World) : Calls Tryz.prog 102 #[.bool r, fV f] w fun e w' => e = .returned (.tuple #[fV (checkedF r f).1, .int .i64 ((checkedF r f).2 : Int)]) ∧ Below w.heap.size w w' := by
  obtain ⟨kd, a, b, body⟩ := f
  unfold checkedF
  cases r
  · rw [if_neg (by simp)]
    unfold fV
    simp only [zeroF]
    go_enter Tryz.func102, Tryz.ntmps102
    go_wp2
    refine bodyPost_ret (v := .tuple #[.agg #[.int .i64 0, .int .u32 0, .int .u32 0, .string ⟨#[]⟩], .int .i64 2]) (by rw [results_cell_tmp rfl]; simp [go_sem]) rfl ?_
    exact ⟨rfl, bel2 (Geom.bel_alloc _ _) (Geom.bel_alloc _ _)⟩
  · rw [if_pos rfl]
    unfold fV
    simp only
    obtain ⟨B, hB⟩ : ∃ B, B = bs body := ⟨_, rfl⟩
    rw [← hB]
    clear hB
    go_enter Tryz.func102, Tryz.ntmps102
    go_wp2
    refine bodyPost_ret (v := .tuple #[.agg #[.int .i64 kd, .int .u32 (vl a), .int .u32 (vl b), .string B], .int .i64 0]) (by rw [results_cell_tmp rfl]; simp [go_sem]) rfl ?_
    exact ⟨rfl, bel2 (Geom.bel_alloc _ _) (Geom.bel_alloc _ _)⟩
theorem taHead_nil (w : World) : (Instr.typeAssert .nilIface 141 125 true).run Tryz.prog w = .ok (.tuple #[.agg #[.int .u32 0, .int .u32 0], .bool false]) w := by kernel_rfl
theorem taHead_Head (v : Value) (w : World) : (Instr.typeAssert (.iface 125 v) 141 125 true).run Tryz.prog w = .ok (.tuple #[v, .bool true]) w := by kernel_rfl
theorem taHead_Part (v : Value) (w : World) : (Instr.typeAssert (.iface 144 v) 141 125 true).run Tryz.prog w = .ok (.tuple #[.agg #[.int .u32 0, .int .u32 0], .bool false]) w := by kernel_rfl
theorem taHead_Seal (v : Value) (w : World) : (Instr.typeAssert (.iface 146 v) 141 125 true).run Tryz.prog w = .ok (.tuple #[.agg #[.int .u32 0, .int .u32 0], .bool false]) w := by kernel_rfl
theorem taHead_Floor (v : Value) (w : World) : (Instr.typeAssert (.iface 148 v) 141 125 true).run Tryz.prog w = .ok (.tuple #[.agg #[.int .u32 0, .int .u32 0], .bool false]) w := by kernel_rfl
theorem taPart_nil (w : World) : (Instr.typeAssert .nilIface 141 144 true).run Tryz.prog w = .ok (.tuple #[.agg #[.int .u32 0, .int .u32 0, .string ⟨#[]⟩], .bool false]) w := by kernel_rfl
theorem taPart_Head (v : Value) (w : World) : (Instr.typeAssert (.iface 125 v) 141 144 true).run Tryz.prog w = .ok (.tuple #[.agg #[.int .u32 0, .int .u32 0, .string ⟨#[]⟩], .bool false]) w := by kernel_rfl
theorem taPart_Part (v : Value) (w : World) : (Instr.typeAssert (.iface 144 v) 141 144 true).run Tryz.prog w = .ok (.tuple #[v, .bool true]) w := by kernel_rfl
theorem taPart_Seal (v : Value) (w : World) : (Instr.typeAssert (.iface 146 v) 141 144 true).run Tryz.prog w = .ok (.tuple #[.agg #[.int .u32 0, .int .u32 0, .string ⟨#[]⟩], .bool false]) w := by kernel_rfl
theorem taPart_Floor (v : Value) (w : World) : (Instr.typeAssert (.iface 148 v) 141 144 true).run Tryz.prog w = .ok (.tuple #[.agg #[.int .u32 0, .int .u32 0, .string ⟨#[]⟩], .bool false]) w := by kernel_rfl
theorem taSeal_nil (w : World) : (Instr.typeAssert .nilIface 141 146 true).run Tryz.prog w = .ok (.tuple #[.agg #[.int .u32 0, .int .u32 0, .int .u32 0, .int .u32 0, .int .u32 0, .int .u32 0], .bool false]) w := by kernel_rfl
theorem taSeal_Head (v : Value) (w : World) : (Instr.typeAssert (.iface 125 v) 141 146 true).run Tryz.prog w = .ok (.tuple #[.agg #[.int .u32 0, .int .u32 0, .int .u32 0, .int .u32 0, .int .u32 0, .int .u32 0], .bool false]) w := by kernel_rfl
theorem taSeal_Part (v : Value) (w : World) : (Instr.typeAssert (.iface 144 v) 141 146 true).run Tryz.prog w = .ok (.tuple #[.agg #[.int .u32 0, .int .u32 0, .int .u32 0, .int .u32 0, .int .u32 0, .int .u32 0], .bool false]) w := by kernel_rfl
theorem taSeal_Seal (v : Value) (w : World) : (Instr.typeAssert (.iface 146 v) 141 146 true).run Tryz.prog w = .ok (.tuple #[v, .bool true]) w := by kernel_rfl
theorem taSeal_Floor (v : Value) (w : World) : (Instr.typeAssert (.iface 148 v) 141 146 true).run Tryz.prog w = .ok (.tuple #[.agg #[.int .u32 0, .int .u32 0, .int .u32 0, .int .u32 0, .int .u32 0, .int .u32 0], .bool false]) w := by kernel_rfl
theorem taFloor_nil (w : World) : (Instr.typeAssert .nilIface 141 148 true).run Tryz.prog w = .ok (.tuple #[.agg #[.int .u32 0, .int .u32 0, .int .u32 0], .bool false]) w := by kernel_rfl
theorem taFloor_Head (v : Value) (w : World) : (Instr.typeAssert (.iface 125 v) 141 148 true).run Tryz.prog w = .ok (.tuple #[.agg #[.int .u32 0, .int .u32 0, .int .u32 0], .bool false]) w := by kernel_rfl
theorem taFloor_Part (v : Value) (w : World) : (Instr.typeAssert (.iface 144 v) 141 148 true).run Tryz.prog w = .ok (.tuple #[.agg #[.int .u32 0, .int .u32 0, .int .u32 0], .bool false]) w := by kernel_rfl
theorem taFloor_Seal (v : Value) (w : World) : (Instr.typeAssert (.iface 146 v) 141 148 true).run Tryz.prog w = .ok (.tuple #[.agg #[.int .u32 0, .int .u32 0, .int .u32 0], .bool false]) w := by kernel_rfl
theorem taFloor_Floor (v : Value) (w : World) : (Instr.typeAssert (.iface 148 v) 141 148 true).run Tryz.prog w = .ok (.tuple #[v, .bool true]) w := by kernel_rfl

/-- a variable, where another one is written -/
theorem Var.othr2 {w : World} {k : Nat} {t : TypeId} {cs : List Value} (h : Var w k t cs) (p : Addr) (v : Value) (hp : k ≠ p.block) : Var (w.setCell p v) k t cs := (Foot.Grows.set (S := fun j => j = p.block) w p v rfl).var h hp
end Go.Proofs.YtcmjambbdfangaaGreat.Piece
/-
  What package piece's AsPart, AsSeal, AsFloor, sealOf and body answer.
-/
set_option linter.unusedVariables false
set_option linter.unusedSimpArgs false
namespace Go.Proofs.YtcmjambbdfangaaGreat.Piece
open Go.RowKit
open CrcM (W)
open Crc (le4 sumOf vl wd putS)
open Flash (bs bs_size bs_list list_bs)
open Go.Proofs.YtcmjambbdfangaaGreat.Frame (Fr zeroF fV bel2 below_drewN)
open Tup Bytes Own
open Go.Proofs.YtcmjambbdfangaaGreat.Region (fill Then Deps Each wp_region_is wp_region_is_tail wp_region_each wp_region_tail)
def asPartV : Pc → Value
  | .part s a t => partV s a t
  | _ => .agg #[.int .u32 0, .int .u32 0, .string ⟨#[]⟩]
def isPartP : Pc → Bool
  | .part _ _ _ => true
  | _ => false
def asSealV : Pc → Value
  | .fin s p v f u z => sealV s p v f u z
  | _ => .agg #[.int .u32 0, .int .u32 0, .int .u32 0, .int .u32 0, .int .u32 0, .int .u32 0]
def isSealP : Pc → Bool
  | .fin _ _ _ _ _ _ => true
  | _ => false
def asFloorV : Pc → Value
  | .floor s g f => floorV s g f
  | _ => .agg #[.int .u32 0, .int .u32 0, .int .u32 0]
def isFloorP : Pc → Bool
  | .floor _ _ _ => true
  | _ => false
set_option maxRecDepth 100000 in
set_option maxHeartbeats 8000000 in
theorem sealBody_any (s p v f u z : W) (w : World) : Calls Tryz.prog 109 #[sealV s p v f u z] w fun e' w' => e' = .returned (.string (bs (four v f u z))) ∧ Below w.heap.size w w' := by
  have HPv := Lib.hid (fun w => Crc.put_any v w)
  obtain ⟨Tv, hTv⟩ : ∃ T, T = putS v := ⟨_, rfl⟩
  rw [← hTv] at HPv
  have sv : Tv.size = 4 := by rw [hTv]; rfl
  have HPf := Lib.hid (fun w => Crc.put_any f w)
  obtain ⟨Tf, hTf⟩ : ∃ T, T = putS f := ⟨_, rfl⟩
  rw [← hTf] at HPf
  have sf : Tf.size = 4 := by rw [hTf]; rfl
  have HPu := Lib.hid (fun w => Crc.put_any u w)
  obtain ⟨Tu, hTu⟩ : ∃ T, T = putS u := ⟨_, rfl⟩
  rw [← hTu] at HPu
  have su : Tu.size = 4 := by rw [hTu]; rfl
  have HPz := Lib.hid (fun w => Crc.put_any z w)
  obtain ⟨Tz, hTz⟩ : ∃ T, T = putS z := ⟨_, rfl⟩
  rw [← hTz] at HPz
  have sz : Tz.size = 4 := by rw [hTz]; rfl
  have HE := Lib.hid (show bs (four v f u z) = Tv ++ Tf ++ Tu ++ Tz by
    rw [hTv, hTf, hTu, hTz]
    apply ByteArray.ext
    simp only [ByteArray.data_append]
    unfold putS four bs
    simp)
  rw [HE.out]
  unfold sealV
  have HV := Lib.hid (Var.new w 146 [.int .u32 (vl s), .int .u32 (vl p), .int .u32 (vl v), .int .u32 (vl f), .int .u32 (vl u), .int .u32 (vl z)])
  clear hTv hTf hTu hTz
  go_enter Tryz.func109, Tryz.ntmps109
  go_wp2
  obtain ⟨w1, hw1⟩ : ∃ w1, w1 = w.alloc (.cells #[.int .u32 (vl s), .int .u32 (vl p), .int .u32 (vl v), .int .u32 (vl f), .int .u32 (vl u), .int .u32 (vl z)] 146) := ⟨_, rfl⟩
  have HB1 := Lib.hid (show Below w.heap.size w w1 by rw [hw1]; exact Geom.bel_alloc _ _)
  rw [show w.alloc (.cells ([.int .u32 (vl s), .int .u32 (vl p), .int .u32 (vl v), .int .u32 (vl f), .int .u32 (vl u), .int .u32 (vl z)] : List Value).toArray 146) = w1 from hw1.symm] at HV
  rw [← hw1]
  clear hw1
  refine wp_region_is [3, 4, 5, 6, 7, 8, 9, 10, 11, 12, 13, 14, 15, 16, 17, 2] (fun w' => Below w1.heap.size w1 w')
    [.pointer (some ⟨w.heap.size, 2, none⟩), .int .u32 (vl v), .string Tv, .pointer (some ⟨w.heap.size, 3, none⟩), .int .u32 (vl f), .string Tf, .string (Tv ++ Tf), .pointer (some ⟨w.heap.size, 4, none⟩), .int .u32 (vl u), .string Tu, .string (Tv ++ Tf ++ Tu), .pointer (some ⟨w.heap.size, 5, none⟩), .int .u32 (vl z), .string Tz, .string (Tv ++ Tf ++ Tu ++ Tz), .string (Tv ++ Tf ++ Tu ++ Tz)] (by kernel_rfl) (by kernel_rfl) rfl (by decide) (by simp) (Below.refl _ _).drew ?each ?done
  case each =>
    simp only [Each]
    repeat' (first | exact trivial | refine And.intro ?_ ?_)
    all_goals
      intro ys wx hBx hdeps
      simp only [Deps, Region.binds, List.getD_cons_zero, List.getD_cons_succ, forall_const, and_true] at hdeps
      have q2 := (HV.out.below hBx HV.out.lt).cell (j := 2) rfl
      have q3 := (HV.out.below hBx HV.out.lt).cell (j := 3) rfl
      have q4 := (HV.out.below hBx HV.out.lt).cell (j := 4) rfl
      have q5 := (HV.out.below hBx HV.out.lt).cell (j := 5) rfl
      simp only [hdeps, fill, List.foldl_cons, List.foldl_nil, Act.put, List.setIfInBounds_toArray, List.set_cons_succ, List.set_cons_zero]
      first
        | (go_wp2_with fail; exact ⟨_, rfl, rfl, hBx, Below.refl _ _⟩)
        | (go_wp2_with (go_at_call 67; (with_reducible refine (HPv.out _).mono ?_); rintro e w3 ⟨rfl, hm⟩); exact ⟨_, rfl, rfl, hBx.trans (hm.mono hBx.size), hm⟩)
        | (go_wp2_with (go_at_call 67; (with_reducible refine (HPf.out _).mono ?_); rintro e w3 ⟨rfl, hm⟩); exact ⟨_, rfl, rfl, hBx.trans (hm.mono hBx.size), hm⟩)
        | (go_wp2_with (go_at_call 67; (with_reducible refine (HPu.out _).mono ?_); rintro e w3 ⟨rfl, hm⟩); exact ⟨_, rfl, rfl, hBx.trans (hm.mono hBx.size), hm⟩)
        | (go_wp2_with (go_at_call 67; (with_reducible refine (HPz.out _).mono ?_); rintro e w3 ⟨rfl, hm⟩); exact ⟨_, rfl, rfl, hBx.trans (hm.mono hBx.size), hm⟩)
  case done =>
    intro ys wx hBx hV
    have h2 : ys 2 = .string (Tv ++ Tf ++ Tu ++ Tz) := hV 15 (by decide)
    simp only [h2, fill, List.drop_succ_cons, List.drop_zero, List.foldl_cons, List.foldl_nil, Act.put, List.setIfInBounds_toArray, List.set_cons_succ, List.set_cons_zero]
    go_wp2
    go_ret
    exact ⟨rfl, bel2 HB1.out hBx⟩
end Go.Proofs.YtcmjambbdfangaaGreat.Piece
/-
  What package piece's Of answers.
-/
set_option linter.unusedVariables false
set_option linter.unusedSimpArgs false
namespace Go.Proofs.YtcmjambbdfangaaGreat.Piece
open Go.RowKit
open CrcM (W)
open Crc (le4 sumOf vl wd putS)
open Flash (bs bs_size bs_list list_bs)
open Go.Proofs.YtcmjambbdfangaaGreat.Frame (Fr zeroF fV bel2 below_drewN)
open Tup Bytes Own
open Go.Proofs.YtcmjambbdfangaaGreat.Region (fill Then Deps Each wp_region_is wp_region_is_tail wp_region_each wp_region_tail)
theorem okSeal {a b : W} {l : List UInt8} (h : ((l.length : Int) == 16) = true) : sealPR a b (getZ l 0) (getZ l 4) (getZ l 12) = (isSeqB a && sealR a b l) := by
  have hl : l.length = 16 := by rw [beq_iff_eq] at h; omega
  have hb := Crc.vl_range b
  have e0 : vl (getZ l 0) = le4 l 0 := by unfold getZ; rw [if_pos (by omega), wd_le4]
  have e4 : vl (getZ l 4) = le4 l 4 := by unfold getZ; rw [if_pos (by omega), wd_le4]
  have e12 : vl (getZ l 12) = le4 l 12 := by unfold getZ; rw [if_pos (by omega), wd_le4]
  have p12 : 0 ≤ le4 l 12 := by rw [← wd_le4]; exact (Crc.vl_range _).1
  unfold sealPR sealR
  rw [e0, e4, e12, h, neI, neI]
  have q1 : decide (0 < vl b) = !decide (vl b = 0) := by rw [← decide_not, decide_eq_decide]; omega
  have q2 : decide (0 < le4 l 12) = !decide (le4 l 12 = 0) := by rw [← decide_not, decide_eq_decide]; omega
  rw [q1, q2]
  cases isSeqB a <;> cases decide (vl b = 0) <;> cases decide (le4 l 0 < vl a) <;> cases decide (1 ≤ le4 l 4) <;> cases decide (le4 l 4 ≤ vl a) <;> cases decide (le4 l 12 = 0) <;> rfl
theorem okFloor {a : W} {l : List UInt8} (h : ((l.length : Int) == 4) = true) : floorPR a (getZ l 0) = (isSeqB a && floorR a l) := by
  have hl : l.length = 4 := by rw [beq_iff_eq] at h; omega
  have e0 : vl (getZ l 0) = le4 l 0 := by unfold getZ; rw [if_pos (by omega), wd_le4]
  unfold floorPR floorR
  rw [e0, h]
  rfl
theorem rightS {a b : W} {l : List UInt8} (h : ((l.length : Int) == 16) = true) : pieceR ⟨3, a, b, l⟩ = sealPR a b (getZ l 0) (getZ l 4) (getZ l 12) := by rw [okSeal h]; rfl
theorem rightS_not {a b : W} {l : List UInt8} (h : ((l.length : Int) == 16) = false) : pieceR ⟨3, a, b, l⟩ = false := by
  show (isSeqB a && sealR a b l) = false
  unfold sealR; rw [h]; cases isSeqB a <;> cases vl b != 0 <;> rfl
theorem rightF {a b : W} {l : List UInt8} (h : ((l.length : Int) == 4) = true) : pieceR ⟨4, a, b, l⟩ = floorPR a (getZ l 0) := by rw [okFloor h]; rfl
theorem rightF_not {a b : W} {l : List UInt8} (h : ((l.length : Int) == 4) = false) : pieceR ⟨4, a, b, l⟩ = false := by
  show (isSeqB a && floorR a l) = false
  unfold floorR; rw [h]; cases isSeqB a <;> rfl
theorem getZ_at {l : List UInt8} {k : Nat} (h : k + 4 ≤ l.length) : getZ l k = wd (le4 l k) := by unfold getZ; rw [if_pos h]
theorem ofF_val {f : Fr} {p : Pc} (h : pieceR f = true) (hp : pcOf f = p) : ofF f = (p, 0) := by rw [ofF_ok h, hp]
end Go.Proofs.YtcmjambbdfangaaGreat.Piece
/-
  What package piece's Frame answers.
-/
set_option linter.unusedVariables false
set_option linter.unusedSimpArgs false
namespace Go.Proofs.YtcmjambbdfangaaGreat.Piece
open Go.RowKit
open CrcM (W)
open Crc (le4 sumOf vl wd putS)
open Flash (bs bs_size bs_list list_bs)
open Go.Proofs.YtcmjambbdfangaaGreat.Frame (Fr zeroF fV bel2 below_drewN)
open Tup Bytes Own
open Go.Proofs.YtcmjambbdfangaaGreat.Region (fill Then Deps Each wp_region_is wp_region_is_tail wp_region_each wp_region_tail)
theorem frameR_head (e r : W) : pieceR (pcFrame (.head e r)) = isSeqB e := by show (isSeqB e && true) = _; rw [Bool.and_true]
theorem frameR_part (s a : W) (t : List UInt8) : pieceR (pcFrame (.part s a t)) = partR s t := rfl
theorem getZ_put (x : W) (l : List UInt8) : getZ (CrcM.put x.toNat ++ l) 0 = x := by
  unfold getZ
  rw [if_pos (by simp [CrcM.put])]
  have h : le4 (CrcM.put x.toNat ++ l) 0 = vl x := by
    have hx := x.isLt
    unfold le4 CrcM.put vl
    simp only [List.cons_append, List.nil_append, List.getD_cons_zero, List.getD_cons_succ, Nat.zero_add]
    simp
    omega
  rw [h, Crc.wd_vl]
theorem getZ_skip (x : W) (l : List UInt8) (k : Nat) : getZ (CrcM.put x.toNat ++ l) (k + 4) = getZ l k := by
  unfold getZ
  have h : (k + 4 + 4 ≤ (CrcM.put x.toNat ++ l).length) = (k + 4 ≤ l.length) := by
    simp [CrcM.put]
  simp only [h]
  rfl
theorem frameR_fin (s p v f u z : W) : pieceR (pcFrame (.fin s p v f u z)) = sealPR s p v f z := by
  show pieceR ⟨3, s, p, four v f u z⟩ = _
  rw [rightS (by rfl)]
  unfold four
  have e0 : getZ (CrcM.put v.toNat ++ (CrcM.put f.toNat ++ (CrcM.put u.toNat ++ CrcM.put z.toNat))) 0 = v := getZ_put _ _
  have e4 : getZ (CrcM.put v.toNat ++ (CrcM.put f.toNat ++ (CrcM.put u.toNat ++ CrcM.put z.toNat))) 4 = f := by rw [show (4 : Nat) = 0 + 4 from rfl, getZ_skip, getZ_put]
  have e12 : getZ (CrcM.put v.toNat ++ (CrcM.put f.toNat ++ (CrcM.put u.toNat ++ CrcM.put z.toNat))) 12 = z := by
    rw [show (12 : Nat) = 8 + 4 from rfl, getZ_skip, show (8 : Nat) = 4 + 4 from rfl, getZ_skip, show (4 : Nat) = 0 + 4 from rfl, getZ_skip]
    have := getZ_put z []
    rwa [List.append_nil] at this
  rw [e0, e4, e12]
theorem frameR_floor (s g f : W) : pieceR (pcFrame (.floor s g f)) = floorPR s f := by
  show pieceR ⟨4, s, g, CrcM.put f.toNat⟩ = _
  rw [rightF (by rfl)]
  have := getZ_put f []
  rw [List.append_nil] at this
  rw [this]
set_option maxRecDepth 100000 in
set_option maxHeartbeats 8000000 in
theorem frame_head (e r : W) (w : World) : Calls Tryz.prog 85 #[pcV (.head e r)] w fun e' w' => e' = .returned (.tuple #[fV (frameP (.head e r)).1, .int .i64 ((frameP (.head e r)).2 : Int)]) ∧ Below w.heap.size w w' := by
  have HR := Lib.hid (fun w => headRight_any e r w)
  have HK := Lib.hid (fun w => headKind_any e r w)
  have HC := Lib.hid (fun w => checked_any (isSeqB e) ⟨1, e, r, []⟩ w)
  have HE := Lib.hid (show frameP (.head e r) = checkedF (isSeqB e) ⟨1, e, r, []⟩ by
    unfold frameP checkedF
    rw [frameR_head]; rfl)
  rw [HE.out]
  generalize (checkedF (isSeqB e) ⟨1, e, r, []⟩).2 = cd at *
  obtain ⟨fk, fa, fb, fd, hf⟩ : ∃ fk fa fb fd, (checkedF (isSeqB e) ⟨1, e, r, []⟩).1 = ⟨fk, fa, fb, fd⟩ := ⟨_, _, _, _, rfl⟩
  rw [hf] at HC ⊢
  clear hf
  generalize isSeqB e = q at *
  have HA0 := Lib.hid (taHead_Head (.agg #[.int .u32 (vl e), .int .u32 (vl r)]))
  unfold headV at HR HK
  unfold fV at HC ⊢
  simp only at HC ⊢
  rw [show pcV (.head e r) = .iface 125 (.agg #[.int .u32 (vl e), .int .u32 (vl r)]) from rfl]
  obtain ⟨FB, hFB⟩ : ∃ FB, FB = bs fd := ⟨_, rfl⟩
  rw [← hFB] at HC ⊢
  rw [show bs [] = ⟨#[]⟩ from rfl] at HC
  have ta0 := HA0.out
  have hsz1 : (w.alloc (.cells #[.int .i64 0, .int .u32 0, .int .u32 0, .string ⟨#[]⟩] 31)).heap.size = w.heap.size + 1 := by simp
  obtain ⟨w1, hw1⟩ : ∃ w1, w1 = (w.alloc (.cells #[.int .i64 0, .int .u32 0, .int .u32 0, .string ⟨#[]⟩] 31)).alloc (.cells #[.int .u32 (vl e), .int .u32 (vl r)] 125) := ⟨_, rfl⟩
  have HB1 := Lib.hid (show Below w.heap.size w w1 by rw [hw1]; exact bel2 (Geom.bel_alloc _ _) (Geom.bel_alloc _ _))
  have HF1 := Lib.hid (show Var w1 w.heap.size 31 [.int .i64 0, .int .u32 0, .int .u32 0, .string ⟨#[]⟩] by rw [hw1]; exact (Var.new w _ _).alloc _)
  have HP1 := Lib.hid (show Var w1 (w.heap.size + 1) 125 [.int .u32 (vl e), .int .u32 (vl r)] by
    have := Var.new (w.alloc (.cells #[.int .i64 0, .int .u32 0, .int .u32 0, .string ⟨#[]⟩] 31)) 125 [.int .u32 (vl e), .int .u32 (vl r)]
    rw [hsz1] at this
    rw [hw1]; exact this)
  clear hFB
  go_enter Tryz.func85, Tryz.ntmps85
  go_wp2
  rw [← hw1]
  clear hw1 HA0
  refine wp_region_is_tail 12 [12, 13, 14, 15, 16, 17, 18, 19, 20, 21, 22, 23] (fun w' => Below w1.heap.size w1 w')
    [.agg #[.int .u32 (vl e), .int .u32 (vl r)], .bool q, .agg #[.int .u32 (vl e), .int .u32 (vl r)], .int .i64 1, .pointer (some ⟨w.heap.size + 1, 0, none⟩), .int .u32 (vl e), .pointer (some ⟨w.heap.size + 1, 1, none⟩), .int .u32 (vl r), .agg #[.int .i64 1, .int .u32 (vl e), .int .u32 (vl r), .string ⟨#[]⟩], .tuple #[.agg #[.int .i64 fk, .int .u32 (vl fa), .int .u32 (vl fb), .string FB], .int .i64 (cd : Int)], .agg #[.int .i64 fk, .int .u32 (vl fa), .int .u32 (vl fb), .string FB], .int .i64 (cd : Int)] (by kernel_rfl) (by kernel_rfl) (by kernel_rfl) (by decide) rfl (by decide) (by simp) (Below.refl _ _).drew ?each ?done
  case each =>
    simp only [List.take_succ_cons, List.take_zero, Each]
    repeat' (first | exact trivial | refine And.intro ?_ ?_)
    all_goals
      intro ys wx hBx hdeps
      simp only [Deps, Region.binds, List.getD_cons_zero, List.getD_cons_succ, forall_const, and_true] at hdeps
      have q0 := (HP1.out.below hBx HP1.out.lt).cell (j := 0) rfl
      have q1 := (HP1.out.below hBx HP1.out.lt).cell (j := 1) rfl
      simp only [hdeps, fill, List.foldl_cons, List.foldl_nil, Act.put, List.setIfInBounds_toArray, List.set_cons_succ, List.set_cons_zero]
      first
        | (go_wp2_with fail; exact ⟨_, rfl, rfl, hBx, Below.refl _ _⟩)
        | (go_wp2_with (go_at_call 103; (with_reducible refine (HR.out _).mono ?_); rintro e w3 ⟨rfl, hm⟩); exact ⟨_, rfl, rfl, hBx.trans (hm.mono hBx.size), hm⟩)
        | (go_wp2_with (go_at_call 104; (with_reducible refine (HK.out _).mono ?_); rintro e w3 ⟨rfl, hm⟩); exact ⟨_, rfl, rfl, hBx.trans (hm.mono hBx.size), hm⟩)
        | (go_wp2_with (go_at_call 102; (with_reducible refine (HC.out _).mono ?_); rintro e w3 ⟨rfl, hm⟩); exact ⟨_, rfl, rfl, hBx.trans (hm.mono hBx.size), hm⟩)
  case done =>
    intro ys wx hBx hV
    have h22 : ys 22 = .agg #[.int .i64 fk, .int .u32 (vl fa), .int .u32 (vl fb), .string FB] := hV 10 (by decide)
    have h23 : ys 23 = .int .i64 (cd : Int) := hV 11 (by decide)
    have vf := HF1.out.below hBx HF1.out.lt
    have k0 := vf.cell (j := 0) rfl
    have k1 := vf.cell (j := 1) rfl
    have k2 := vf.cell (j := 2) rfl
    have k3 := vf.cell (j := 3) rfl
    have f0 := vf.frozen 0
    have f1 := vf.frozen 1
    have f2 := vf.frozen 2
    have f3 := vf.frozen 3
    have vr := (((vf.set 0 (.int .i64 fk)).set 1 (.int .u32 (vl fa))).set 2 (.int .u32 (vl fb))).set 3 (.string FB)
    clear hV
    simp only [h22, h23, fill, List.drop_succ_cons, List.drop_zero, List.foldl_cons, List.foldl_nil, Act.put, List.setIfInBounds_toArray, List.set_cons_succ, List.set_cons_zero]
    go_wp2
    have z0 := vr.cell (j := 0) rfl
    have z1 := vr.cell (j := 1) rfl
    have z2 := vr.cell (j := 2) rfl
    have z3 := vr.cell (j := 3) rfl
    clear vr vf k0 k1 k2 k3 f0 f1 f2 f3
    refine bodyPost_ret (v := .tuple #[.agg #[.int .i64 fk, .int .u32 (vl fa), .int .u32 (vl fb), .string FB], .int .i64 (cd : Int)]) (by rw [results_cell_tmp rfl]; simp [go_sem, z0, z1, z2, z3]) rfl ?_
    exact ⟨rfl, ((((bel2 HB1.out hBx).setCell (p := ⟨w.heap.size, 0, none⟩) (Nat.le_refl _) _).setCell (p := ⟨w.heap.size, 1, none⟩) (Nat.le_refl _) _).setCell (p := ⟨w.heap.size, 2, none⟩) (Nat.le_refl _) _).setCell (p := ⟨w.heap.size, 3, none⟩) (Nat.le_refl _) _⟩
set_option maxRecDepth 100000 in
set_option maxHeartbeats 8000000 in
theorem frame_part (s a : W) (t : List UInt8) (w : World) : Calls Tryz.prog 85 #[pcV (.part s a t)] w fun e' w' => e' = .returned (.tuple #[fV (frameP (.part s a t)).1, .int .i64 ((frameP (.part s a t)).2 : Int)]) ∧ Below w.heap.size w w' := by
  have HR := Lib.hid (fun w => partRight_any s a t w)
  have HK := Lib.hid (fun w => partKind_any s a t w)
  have HC := Lib.hid (fun w => checked_any (partR s t) ⟨2, s, a, t⟩ w)
  have HE := Lib.hid (show frameP (.part s a t) = checkedF (partR s t) ⟨2, s, a, t⟩ by
    unfold frameP checkedF
    rw [frameR_part]; rfl)
  rw [HE.out]
  generalize (checkedF (partR s t) ⟨2, s, a, t⟩).2 = cd at *
  obtain ⟨fk, fa, fb, fd, hf⟩ : ∃ fk fa fb fd, (checkedF (partR s t) ⟨2, s, a, t⟩).1 = ⟨fk, fa, fb, fd⟩ := ⟨_, _, _, _, rfl⟩
  rw [hf] at HC ⊢
  clear hf
  generalize partR s t = q at *
  have HA0 := Lib.hid (taHead_Part (.agg #[.int .u32 (vl s), .int .u32 (vl a), .string (bs t)]))
  have HA1 := Lib.hid (taPart_Part (.agg #[.int .u32 (vl s), .int .u32 (vl a), .string (bs t)]))
  unfold partV at HR HK
  unfold fV at HC ⊢
  simp only at HC ⊢
  rw [show pcV (.part s a t) = .iface 144 (.agg #[.int .u32 (vl s), .int .u32 (vl a), .string (bs t)]) from rfl]
  obtain ⟨FB, hFB⟩ : ∃ FB, FB = bs fd := ⟨_, rfl⟩
  rw [← hFB] at HC ⊢
  obtain ⟨T, hT⟩ : ∃ T, T = bs t := ⟨_, rfl⟩
  rw [← hT] at HR HK HC ⊢
  rw [← hT] at HA0
  rw [← hT] at HA1
  clear hT
  have ta0 := HA0.out
  have ta1 := HA1.out
  have hsz1 : (w.alloc (.cells #[.int .i64 0, .int .u32 0, .int .u32 0, .string ⟨#[]⟩] 31)).heap.size = w.heap.size + 1 := by simp
  obtain ⟨w1, hw1⟩ : ∃ w1, w1 = (w.alloc (.cells #[.int .i64 0, .int .u32 0, .int .u32 0, .string ⟨#[]⟩] 31)).alloc (.cells #[.int .u32 (vl s), .int .u32 (vl a), .string T] 144) := ⟨_, rfl⟩
  have HB1 := Lib.hid (show Below w.heap.size w w1 by rw [hw1]; exact bel2 (Geom.bel_alloc _ _) (Geom.bel_alloc _ _))
  have HF1 := Lib.hid (show Var w1 w.heap.size 31 [.int .i64 0, .int .u32 0, .int .u32 0, .string ⟨#[]⟩] by rw [hw1]; exact (Var.new w _ _).alloc _)
  have HP1 := Lib.hid (show Var w1 (w.heap.size + 1) 144 [.int .u32 (vl s), .int .u32 (vl a), .string T] by
    have := Var.new (w.alloc (.cells #[.int .i64 0, .int .u32 0, .int .u32 0, .string ⟨#[]⟩] 31)) 144 [.int .u32 (vl s), .int .u32 (vl a), .string T]
    rw [hsz1] at this
    rw [hw1]; exact this)
  clear hFB
  go_enter Tryz.func85, Tryz.ntmps85
  go_wp2
  rw [← hw1]
  clear hw1 HA0
  refine wp_region_is_tail 14 [27, 28, 29, 30, 31, 32, 33, 34, 35, 36, 37, 38, 39, 40] (fun w' => Below w1.heap.size w1 w')
    [.agg #[.int .u32 (vl s), .int .u32 (vl a), .string T], .bool q, .agg #[.int .u32 (vl s), .int .u32 (vl a), .string T], .int .i64 2, .pointer (some ⟨w.heap.size + 1, 0, none⟩), .int .u32 (vl s), .pointer (some ⟨w.heap.size + 1, 1, none⟩), .int .u32 (vl a), .pointer (some ⟨w.heap.size + 1, 2, none⟩), .string T, .agg #[.int .i64 2, .int .u32 (vl s), .int .u32 (vl a), .string T], .tuple #[.agg #[.int .i64 fk, .int .u32 (vl fa), .int .u32 (vl fb), .string FB], .int .i64 (cd : Int)], .agg #[.int .i64 fk, .int .u32 (vl fa), .int .u32 (vl fb), .string FB], .int .i64 (cd : Int)] (by kernel_rfl) (by kernel_rfl) (by kernel_rfl) (by decide) rfl (by decide) (by simp) (Below.refl _ _).drew ?each ?done
  case each =>
    simp only [List.take_succ_cons, List.take_zero, Each]
    repeat' (first | exact trivial | refine And.intro ?_ ?_)
    all_goals
      intro ys wx hBx hdeps
      simp only [Deps, Region.binds, List.getD_cons_zero, List.getD_cons_succ, forall_const, and_true] at hdeps
      have q0 := (HP1.out.below hBx HP1.out.lt).cell (j := 0) rfl
      have q1 := (HP1.out.below hBx HP1.out.lt).cell (j := 1) rfl
      have q2 := (HP1.out.below hBx HP1.out.lt).cell (j := 2) rfl
      simp only [hdeps, fill, List.foldl_cons, List.foldl_nil, Act.put, List.setIfInBounds_toArray, List.set_cons_succ, List.set_cons_zero]
      first
        | (go_wp2_with fail; exact ⟨_, rfl, rfl, hBx, Below.refl _ _⟩)
        | (go_wp2_with (go_at_call 105; (with_reducible refine (HR.out _).mono ?_); rintro e w3 ⟨rfl, hm⟩); exact ⟨_, rfl, rfl, hBx.trans (hm.mono hBx.size), hm⟩)
        | (go_wp2_with (go_at_call 106; (with_reducible refine (HK.out _).mono ?_); rintro e w3 ⟨rfl, hm⟩); exact ⟨_, rfl, rfl, hBx.trans (hm.mono hBx.size), hm⟩)
        | (go_wp2_with (go_at_call 102; (with_reducible refine (HC.out _).mono ?_); rintro e w3 ⟨rfl, hm⟩); exact ⟨_, rfl, rfl, hBx.trans (hm.mono hBx.size), hm⟩)
  case done =>
    intro ys wx hBx hV
    have h39 : ys 39 = .agg #[.int .i64 fk, .int .u32 (vl fa), .int .u32 (vl fb), .string FB] := hV 12 (by decide)
    have h40 : ys 40 = .int .i64 (cd : Int) := hV 13 (by decide)
    have vf := HF1.out.below hBx HF1.out.lt
    have k0 := vf.cell (j := 0) rfl
    have k1 := vf.cell (j := 1) rfl
    have k2 := vf.cell (j := 2) rfl
    have k3 := vf.cell (j := 3) rfl
    have f0 := vf.frozen 0
    have f1 := vf.frozen 1
    have f2 := vf.frozen 2
    have f3 := vf.frozen 3
    have vr := (((vf.set 0 (.int .i64 fk)).set 1 (.int .u32 (vl fa))).set 2 (.int .u32 (vl fb))).set 3 (.string FB)
    clear hV
    simp only [h39, h40, fill, List.drop_succ_cons, List.drop_zero, List.foldl_cons, List.foldl_nil, Act.put, List.setIfInBounds_toArray, List.set_cons_succ, List.set_cons_zero]
    go_wp2
    have z0 := vr.cell (j := 0) rfl
    have z1 := vr.cell (j := 1) rfl
    have z2 := vr.cell (j := 2) rfl
    have z3 := vr.cell (j := 3) rfl
    clear vr vf k0 k1 k2 k3 f0 f1 f2 f3
    refine bodyPost_ret (v := .tuple #[.agg #[.int .i64 fk, .int .u32 (vl fa), .int .u32 (vl fb), .string FB], .int .i64 (cd : Int)]) (by rw [results_cell_tmp rfl]; simp [go_sem, z0, z1, z2, z3]) rfl ?_
    exact ⟨rfl, ((((bel2 HB1.out hBx).setCell (p := ⟨w.heap.size, 0, none⟩) (Nat.le_refl _) _).setCell (p := ⟨w.heap.size, 1, none⟩) (Nat.le_refl _) _).setCell (p := ⟨w.heap.size, 2, none⟩) (Nat.le_refl _) _).setCell (p := ⟨w.heap.size, 3, none⟩) (Nat.le_refl _) _⟩
set_option maxRecDepth 100000 in
set_option maxHeartbeats 8000000 in
theorem frame_fin (s p v f u z : W) (w : World) : Calls Tryz.prog 85 #[pcV (.fin s p v f u z)] w fun e' w' => e' = .returned (.tuple #[fV (frameP (.fin s p v f u z)).1, .int .i64 ((frameP (.fin s p v f u z)).2 : Int)]) ∧ Below w.heap.size w w' := by
  have HR := Lib.hid (fun w => sealRight_any s p v f u z w)
  have HK := Lib.hid (fun w => sealKind_any s p v f u z w)
  have HC := Lib.hid (fun w => checked_any (sealPR s p v f z) ⟨3, s, p, four v f u z⟩ w)
  have HB4 := Lib.hid (fun w => sealBody_any s p v f u z w)
  have HE := Lib.hid (show frameP (.fin s p v f u z) = checkedF (sealPR s p v f z) ⟨3, s, p, four v f u z⟩ by
    unfold frameP checkedF
    rw [frameR_fin]; rfl)
  rw [HE.out]
  generalize (checkedF (sealPR s p v f z) ⟨3, s, p, four v f u z⟩).2 = cd at *
  obtain ⟨fk, fa, fb, fd, hf⟩ : ∃ fk fa fb fd, (checkedF (sealPR s p v f z) ⟨3, s, p, four v f u z⟩).1 = ⟨fk, fa, fb, fd⟩ := ⟨_, _, _, _, rfl⟩
  rw [hf] at HC ⊢
  clear hf
  generalize sealPR s p v f z = q at *
  have HA0 := Lib.hid (taHead_Seal (.agg #[.int .u32 (vl s), .int .u32 (vl p), .int .u32 (vl v), .int .u32 (vl f), .int .u32 (vl u), .int .u32 (vl z)]))
  have HA1 := Lib.hid (taPart_Seal (.agg #[.int .u32 (vl s), .int .u32 (vl p), .int .u32 (vl v), .int .u32 (vl f), .int .u32 (vl u), .int .u32 (vl z)]))
  have HA2 := Lib.hid (taSeal_Seal (.agg #[.int .u32 (vl s), .int .u32 (vl p), .int .u32 (vl v), .int .u32 (vl f), .int .u32 (vl u), .int .u32 (vl z)]))
  unfold sealV at HR HK HB4
  unfold fV at HC ⊢
  simp only at HC ⊢
  rw [show pcV (.fin s p v f u z) = .iface 146 (.agg #[.int .u32 (vl s), .int .u32 (vl p), .int .u32 (vl v), .int .u32 (vl f), .int .u32 (vl u), .int .u32 (vl z)]) from rfl]
  obtain ⟨FB, hFB⟩ : ∃ FB, FB = bs fd := ⟨_, rfl⟩
  rw [← hFB] at HC ⊢
  obtain ⟨T4, hT4⟩ : ∃ T, T = bs (four v f u z) := ⟨_, rfl⟩
  rw [← hT4] at HB4 HC
  clear hT4
  have ta0 := HA0.out
  have ta1 := HA1.out
  have ta2 := HA2.out
  have hsz1 : (w.alloc (.cells #[.int .i64 0, .int .u32 0, .int .u32 0, .string ⟨#[]⟩] 31)).heap.size = w.heap.size + 1 := by simp
  obtain ⟨w1, hw1⟩ : ∃ w1, w1 = (w.alloc (.cells #[.int .i64 0, .int .u32 0, .int .u32 0, .string ⟨#[]⟩] 31)).alloc (.cells #[.int .u32 (vl s), .int .u32 (vl p), .int .u32 (vl v), .int .u32 (vl f), .int .u32 (vl u), .int .u32 (vl z)] 146) := ⟨_, rfl⟩
  have HB1 := Lib.hid (show Below w.heap.size w w1 by rw [hw1]; exact bel2 (Geom.bel_alloc _ _) (Geom.bel_alloc _ _))
  have HF1 := Lib.hid (show Var w1 w.heap.size 31 [.int .i64 0, .int .u32 0, .int .u32 0, .string ⟨#[]⟩] by rw [hw1]; exact (Var.new w _ _).alloc _)
  have HP1 := Lib.hid (show Var w1 (w.heap.size + 1) 146 [.int .u32 (vl s), .int .u32 (vl p), .int .u32 (vl v), .int .u32 (vl f), .int .u32 (vl u), .int .u32 (vl z)] by
    have := Var.new (w.alloc (.cells #[.int .i64 0, .int .u32 0, .int .u32 0, .string ⟨#[]⟩] 31)) 146 [.int .u32 (vl s), .int .u32 (vl p), .int .u32 (vl v), .int .u32 (vl f), .int .u32 (vl u), .int .u32 (vl z)]
    rw [hsz1] at this
    rw [hw1]; exact this)
  clear hFB
  go_enter Tryz.func85, Tryz.ntmps85
  go_wp2
  rw [← hw1]
  clear hw1 HA0
  refine wp_region_is_tail 14 [44, 45, 46, 47, 48, 49, 50, 51, 52, 53, 54, 55, 56, 57] (fun w' => Below w1.heap.size w1 w')
    [.agg #[.int .u32 (vl s), .int .u32 (vl p), .int .u32 (vl v), .int .u32 (vl f), .int .u32 (vl u), .int .u32 (vl z)], .bool q, .agg #[.int .u32 (vl s), .int .u32 (vl p), .int .u32 (vl v), .int .u32 (vl f), .int .u32 (vl u), .int .u32 (vl z)], .int .i64 3, .pointer (some ⟨w.heap.size + 1, 0, none⟩), .int .u32 (vl s), .pointer (some ⟨w.heap.size + 1, 1, none⟩), .int .u32 (vl p), .agg #[.int .u32 (vl s), .int .u32 (vl p), .int .u32 (vl v), .int .u32 (vl f), .int .u32 (vl u), .int .u32 (vl z)], .string T4, .agg #[.int .i64 3, .int .u32 (vl s), .int .u32 (vl p), .string T4], .tuple #[.agg #[.int .i64 fk, .int .u32 (vl fa), .int .u32 (vl fb), .string FB], .int .i64 (cd : Int)], .agg #[.int .i64 fk, .int .u32 (vl fa), .int .u32 (vl fb), .string FB], .int .i64 (cd : Int)] (by kernel_rfl) (by kernel_rfl) (by kernel_rfl) (by decide) rfl (by decide) (by simp) (Below.refl _ _).drew ?each ?done
  case each =>
    simp only [List.take_succ_cons, List.take_zero, Each]
    repeat' (first | exact trivial | refine And.intro ?_ ?_)
    all_goals
      intro ys wx hBx hdeps
      simp only [Deps, Region.binds, List.getD_cons_zero, List.getD_cons_succ, forall_const, and_true] at hdeps
      have q0 := (HP1.out.below hBx HP1.out.lt).cell (j := 0) rfl
      have q1 := (HP1.out.below hBx HP1.out.lt).cell (j := 1) rfl
      have q2 := (HP1.out.below hBx HP1.out.lt).cell (j := 2) rfl
      have q3 := (HP1.out.below hBx HP1.out.lt).cell (j := 3) rfl
      have q4 := (HP1.out.below hBx HP1.out.lt).cell (j := 4) rfl
      have q5 := (HP1.out.below hBx HP1.out.lt).cell (j := 5) rfl
      simp only [hdeps, fill, List.foldl_cons, List.foldl_nil, Act.put, List.setIfInBounds_toArray, List.set_cons_succ, List.set_cons_zero]
      first
        | (go_wp2_with fail; exact ⟨_, rfl, rfl, hBx, Below.refl _ _⟩)
        | (go_wp2_with (go_at_call 107; (with_reducible refine (HR.out _).mono ?_); rintro e w3 ⟨rfl, hm⟩); exact ⟨_, rfl, rfl, hBx.trans (hm.mono hBx.size), hm⟩)
        | (go_wp2_with (go_at_call 108; (with_reducible refine (HK.out _).mono ?_); rintro e w3 ⟨rfl, hm⟩); exact ⟨_, rfl, rfl, hBx.trans (hm.mono hBx.size), hm⟩)
        | (go_wp2_with (go_at_call 102; (with_reducible refine (HC.out _).mono ?_); rintro e w3 ⟨rfl, hm⟩); exact ⟨_, rfl, rfl, hBx.trans (hm.mono hBx.size), hm⟩)
        | (go_wp2_with (go_at_call 109; (with_reducible refine (HB4.out _).mono ?_); rintro e w3 ⟨rfl, hm⟩); exact ⟨_, rfl, rfl, hBx.trans (hm.mono hBx.size), hm⟩)
  case done =>
    intro ys wx hBx hV
    have h56 : ys 56 = .agg #[.int .i64 fk, .int .u32 (vl fa), .int .u32 (vl fb), .string FB] := hV 12 (by decide)
    have h57 : ys 57 = .int .i64 (cd : Int) := hV 13 (by decide)
    have vf := HF1.out.below hBx HF1.out.lt
    have k0 := vf.cell (j := 0) rfl
    have k1 := vf.cell (j := 1) rfl
    have k2 := vf.cell (j := 2) rfl
    have k3 := vf.cell (j := 3) rfl
    have f0 := vf.frozen 0
    have f1 := vf.frozen 1
    have f2 := vf.frozen 2
    have f3 := vf.frozen 3
    have vr := (((vf.set 0 (.int .i64 fk)).set 1 (.int .u32 (vl fa))).set 2 (.int .u32 (vl fb))).set 3 (.string FB)
    clear hV
    simp only [h56, h57, fill, List.drop_succ_cons, List.drop_zero, List.foldl_cons, List.foldl_nil, Act.put, List.setIfInBounds_toArray, List.set_cons_succ, List.set_cons_zero]
    go_wp2
    have z0 := vr.cell (j := 0) rfl
    have z1 := vr.cell (j := 1) rfl
    have z2 := vr.cell (j := 2) rfl
    have z3 := vr.cell (j := 3) rfl
    clear vr vf k0 k1 k2 k3 f0 f1 f2 f3
    refine bodyPost_ret (v := .tuple #[.agg #[.int .i64 fk, .int .u32 (vl fa), .int .u32 (vl fb), .string FB], .int .i64 (cd : Int)]) (by rw [results_cell_tmp rfl]; simp [go_sem, z0, z1, z2, z3]) rfl ?_
    exact ⟨rfl, ((((bel2 HB1.out hBx).setCell (p := ⟨w.heap.size, 0, none⟩) (Nat.le_refl _) _).setCell (p := ⟨w.heap.size, 1, none⟩) (Nat.le_refl _) _).setCell (p := ⟨w.heap.size, 2, none⟩) (Nat.le_refl _) _).setCell (p := ⟨w.heap.size, 3, none⟩) (Nat.le_refl _) _⟩
set_option maxRecDepth 100000 in
set_option maxHeartbeats 8000000 in
theorem frame_floor (s g f : W) (w : World) : Calls Tryz.prog 85 #[pcV (.floor s g f)] w fun e' w' => e' = .returned (.tuple #[fV (frameP (.floor s g f)).1, .int .i64 ((frameP (.floor s g f)).2 : Int)]) ∧ Below w.heap.size w w' := by
  have HR := Lib.hid (fun w => floorRight_any s g f w)
  have HK := Lib.hid (fun w => floorKind_any s g f w)
  have HC := Lib.hid (fun w => checked_any (floorPR s f) ⟨4, s, g, CrcM.put f.toNat⟩ w)
  have HB4 : Hid (∀ w, Calls Tryz.prog 67 #[.int .u32 (vl f)] w fun e' w' => e' = .returned (.string (bs (CrcM.put f.toNat))) ∧ Below w.heap.size w w') := fun w => Crc.put_any f w
  have HE := Lib.hid (show frameP (.floor s g f) = checkedF (floorPR s f) ⟨4, s, g, CrcM.put f.toNat⟩ by
    unfold frameP checkedF
    rw [frameR_floor]; rfl)
  rw [HE.out]
  generalize (checkedF (floorPR s f) ⟨4, s, g, CrcM.put f.toNat⟩).2 = cd at *
  obtain ⟨fk, fa, fb, fd, hf⟩ : ∃ fk fa fb fd, (checkedF (floorPR s f) ⟨4, s, g, CrcM.put f.toNat⟩).1 = ⟨fk, fa, fb, fd⟩ := ⟨_, _, _, _, rfl⟩
  rw [hf] at HC ⊢
  clear hf
  generalize floorPR s f = q at *
  have HA0 := Lib.hid (taHead_Floor (.agg #[.int .u32 (vl s), .int .u32 (vl g), .int .u32 (vl f)]))
  have HA1 := Lib.hid (taPart_Floor (.agg #[.int .u32 (vl s), .int .u32 (vl g), .int .u32 (vl f)]))
  have HA2 := Lib.hid (taSeal_Floor (.agg #[.int .u32 (vl s), .int .u32 (vl g), .int .u32 (vl f)]))
  have HA3 := Lib.hid (taFloor_Floor (.agg #[.int .u32 (vl s), .int .u32 (vl g), .int .u32 (vl f)]))
  unfold floorV at HR HK
  unfold fV at HC ⊢
  simp only at HC ⊢
  rw [show pcV (.floor s g f) = .iface 148 (.agg #[.int .u32 (vl s), .int .u32 (vl g), .int .u32 (vl f)]) from rfl]
  obtain ⟨FB, hFB⟩ : ∃ FB, FB = bs fd := ⟨_, rfl⟩
  rw [← hFB] at HC ⊢
  obtain ⟨T4, hT4⟩ : ∃ T, T = bs (CrcM.put f.toNat) := ⟨_, rfl⟩
  rw [← hT4] at HB4 HC
  clear hT4
  have ta0 := HA0.out
  have ta1 := HA1.out
  have ta2 := HA2.out
  have ta3 := HA3.out
  have hsz1 : (w.alloc (.cells #[.int .i64 0, .int .u32 0, .int .u32 0, .string ⟨#[]⟩] 31)).heap.size = w.heap.size + 1 := by simp
  obtain ⟨w1, hw1⟩ : ∃ w1, w1 = (w.alloc (.cells #[.int .i64 0, .int .u32 0, .int .u32 0, .string ⟨#[]⟩] 31)).alloc (.cells #[.int .u32 (vl s), .int .u32 (vl g), .int .u32 (vl f)] 148) := ⟨_, rfl⟩
  have HB1 := Lib.hid (show Below w.heap.size w w1 by rw [hw1]; exact bel2 (Geom.bel_alloc _ _) (Geom.bel_alloc _ _))
  have HF1 := Lib.hid (show Var w1 w.heap.size 31 [.int .i64 0, .int .u32 0, .int .u32 0, .string ⟨#[]⟩] by rw [hw1]; exact (Var.new w _ _).alloc _)
  have HP1 := Lib.hid (show Var w1 (w.heap.size + 1) 148 [.int .u32 (vl s), .int .u32 (vl g), .int .u32 (vl f)] by
    have := Var.new (w.alloc (.cells #[.int .i64 0, .int .u32 0, .int .u32 0, .string ⟨#[]⟩] 31)) 148 [.int .u32 (vl s), .int .u32 (vl g), .int .u32 (vl f)]
    rw [hsz1] at this
    rw [hw1]; exact this)
  clear hFB
  go_enter Tryz.func85, Tryz.ntmps85
  go_wp2
  rw [← hw1]
  clear hw1 HA0
  refine wp_region_is_tail 15 [61, 62, 63, 64, 65, 66, 67, 68, 69, 70, 71, 72, 73, 74, 75] (fun w' => Below w1.heap.size w1 w')
    [.agg #[.int .u32 (vl s), .int .u32 (vl g), .int .u32 (vl f)], .bool q, .agg #[.int .u32 (vl s), .int .u32 (vl g), .int .u32 (vl f)], .int .i64 4, .pointer (some ⟨w.heap.size + 1, 0, none⟩), .int .u32 (vl s), .pointer (some ⟨w.heap.size + 1, 1, none⟩), .int .u32 (vl g), .pointer (some ⟨w.heap.size + 1, 2, none⟩), .int .u32 (vl f), .string T4, .agg #[.int .i64 4, .int .u32 (vl s), .int .u32 (vl g), .string T4], .tuple #[.agg #[.int .i64 fk, .int .u32 (vl fa), .int .u32 (vl fb), .string FB], .int .i64 (cd : Int)], .agg #[.int .i64 fk, .int .u32 (vl fa), .int .u32 (vl fb), .string FB], .int .i64 (cd : Int)] (by kernel_rfl) (by kernel_rfl) (by kernel_rfl) (by decide) rfl (by decide) (by simp) (Below.refl _ _).drew ?each ?done
  case each =>
    simp only [List.take_succ_cons, List.take_zero, Each]
    repeat' (first | exact trivial | refine And.intro ?_ ?_)
    all_goals
      intro ys wx hBx hdeps
      simp only [Deps, Region.binds, List.getD_cons_zero, List.getD_cons_succ, forall_const, and_true] at hdeps
      have q0 := (HP1.out.below hBx HP1.out.lt).cell (j := 0) rfl
      have q1 := (HP1.out.below hBx HP1.out.lt).cell (j := 1) rfl
      have q2 := (HP1.out.below hBx HP1.out.lt).cell (j := 2) rfl
      simp only [hdeps, fill, List.foldl_cons, List.foldl_nil, Act.put, List.setIfInBounds_toArray, List.set_cons_succ, List.set_cons_zero]
      first
        | (go_wp2_with fail; exact ⟨_, rfl, rfl, hBx, Below.refl _ _⟩)
        | (go_wp2_with (go_at_call 110; (with_reducible refine (HR.out _).mono ?_); rintro e w3 ⟨rfl, hm⟩); exact ⟨_, rfl, rfl, hBx.trans (hm.mono hBx.size), hm⟩)
        | (go_wp2_with (go_at_call 111; (with_reducible refine (HK.out _).mono ?_); rintro e w3 ⟨rfl, hm⟩); exact ⟨_, rfl, rfl, hBx.trans (hm.mono hBx.size), hm⟩)
        | (go_wp2_with (go_at_call 102; (with_reducible refine (HC.out _).mono ?_); rintro e w3 ⟨rfl, hm⟩); exact ⟨_, rfl, rfl, hBx.trans (hm.mono hBx.size), hm⟩)
        | (go_wp2_with (go_at_call 67; (with_reducible refine (HB4.out _).mono ?_); rintro e w3 ⟨rfl, hm⟩); exact ⟨_, rfl, rfl, hBx.trans (hm.mono hBx.size), hm⟩)
  case done =>
    intro ys wx hBx hV
    have h74 : ys 74 = .agg #[.int .i64 fk, .int .u32 (vl fa), .int .u32 (vl fb), .string FB] := hV 13 (by decide)
    have h75 : ys 75 = .int .i64 (cd : Int) := hV 14 (by decide)
    have vf := HF1.out.below hBx HF1.out.lt
    have k0 := vf.cell (j := 0) rfl
    have k1 := vf.cell (j := 1) rfl
    have k2 := vf.cell (j := 2) rfl
    have k3 := vf.cell (j := 3) rfl
    have f0 := vf.frozen 0
    have f1 := vf.frozen 1
    have f2 := vf.frozen 2
    have f3 := vf.frozen 3
    have vr := (((vf.set 0 (.int .i64 fk)).set 1 (.int .u32 (vl fa))).set 2 (.int .u32 (vl fb))).set 3 (.string FB)
    clear hV
    simp only [h74, h75, fill, List.drop_succ_cons, List.drop_zero, List.foldl_cons, List.foldl_nil, Act.put, List.setIfInBounds_toArray, List.set_cons_succ, List.set_cons_zero]
    go_wp2
    have z0 := vr.cell (j := 0) rfl
    have z1 := vr.cell (j := 1) rfl
    have z2 := vr.cell (j := 2) rfl
    have z3 := vr.cell (j := 3) rfl
    clear vr vf k0 k1 k2 k3 f0 f1 f2 f3
    refine bodyPost_ret (v := .tuple #[.agg #[.int .i64 fk, .int .u32 (vl fa), .int .u32 (vl fb), .string FB], .int .i64 (cd : Int)]) (by rw [results_cell_tmp rfl]; simp [go_sem, z0, z1, z2, z3]) rfl ?_
    exact ⟨rfl, ((((bel2 HB1.out hBx).setCell (p := ⟨w.heap.size, 0, none⟩) (Nat.le_refl _) _).setCell (p := ⟨w.heap.size, 1, none⟩) (Nat.le_refl _) _).setCell (p := ⟨w.heap.size, 2, none⟩) (Nat.le_refl _) _).setCell (p := ⟨w.heap.size, 3, none⟩) (Nat.le_refl _) _⟩
set_option maxRecDepth 100000 in
set_option maxHeartbeats 8000000 in
theorem frame_none (w : World) : Calls Tryz.prog 85 #[pcV .none] w fun e' w' => e' = .returned (.tuple #[fV (frameP .none).1, .int .i64 ((frameP .none).2 : Int)]) ∧ Below w.heap.size w w' := by
  rw [frameP_none]
  unfold fV zeroF
  rw [show pcV .none = .nilIface from rfl]
  have ta0 := taHead_nil
  have ta1 := taPart_nil
  have ta2 := taSeal_nil
  have ta3 := taFloor_nil
  show Calls Tryz.prog _ _ _ fun e' w' => e' = .returned (.tuple #[.agg #[.int .i64 0, .int .u32 0, .int .u32 0, .string ⟨#[]⟩], .int .i64 2]) ∧ Below w.heap.size w w'
  go_enter Tryz.func85, Tryz.ntmps85
  go_wp2
  refine bodyPost_ret (v := .tuple #[.agg #[.int .i64 0, .int .u32 0, .int .u32 0, .string ⟨#[]⟩], .int .i64 2]) (by rw [results_cell_tmp rfl]; simp [go_sem]) rfl ?_
  exact ⟨rfl, Geom.bel_alloc _ _⟩
theorem frame_any (p : Pc) (w : World) : Calls Tryz.prog 85 #[pcV p] w fun e' w' => e' = .returned (.tuple #[fV (frameP p).1, .int .i64 ((frameP p).2 : Int)]) ∧ Below w.heap.size w w' := by
  rcases p with _ | ⟨e, r⟩ | ⟨s, a, t⟩ | ⟨s, p, v, f, u, z⟩ | ⟨s, g, f⟩
  · exact frame_none w
  · exact frame_head e r w
  · exact frame_part s a t w
  · exact frame_fin s p v f u z w
  · exact frame_floor s g f w
end Go.Proofs.YtcmjambbdfangaaGreat.Piece
/-
  What the document's own FrameRead answers.
-/
set_option linter.unusedVariables false
set_option linter.unusedSimpArgs false
namespace Go.Proofs.YtcmjambbdfangaaGreat.Frame
open Go.RowKit
open CrcM (W)
open Crc (le4 sumOf vl wd putS)
open Flash (bs bs_size bs_list list_bs)
open Tup Bytes
open Go.Proofs.YtcmjambbdfangaaGreat.Region (fill Then Deps Each wp_region_is wp_region_is_tail wp_region_each wp_region_tail)

theorem read_arg {l : List UInt8} (h : l.length < 32 ∨ 128 < l.length) : readF l = (zeroF, 1) := by unfold readF; rw [if_pos h]
theorem read_none {l : List UInt8} (h : ¬ (l.length < 32 ∨ 128 < l.length)) (hb : Flash.blank l = true) : readF l = (zeroF, 9) := by unfold readF; rw [if_neg h, if_pos hb]
theorem read_sum {l : List UInt8} (h : ¬ (l.length < 32 ∨ 128 < l.length)) (hb : Flash.blank l = false) (hs : le4 l (l.length - 4) ≠ sumOf (l.take (l.length - 4))) : readF l = (zeroF, 5) := by
  unfold readF; rw [if_neg h, hb, if_neg (by simp), if_pos hs]
theorem read_form {l : List UInt8} (h : ¬ (l.length < 32 ∨ 128 < l.length)) (hb : Flash.blank l = false) (hs : le4 l (l.length - 4) = sumOf (l.take (l.length - 4))) (hf : formed l = false) : readF l = (zeroF, 2) := by
  unfold readF; rw [if_neg h, hb, if_neg (by simp), if_neg (by simp [hs]), if_pos hf]
theorem read_ok {l : List UInt8} (h : ¬ (l.length < 32 ∨ 128 < l.length)) (hb : Flash.blank l = false) (hs : le4 l (l.length - 4) = sumOf (l.take (l.length - 4))) (hf : formed l = true) :
    readF l = (⟨(l.getD 0 0).toNat, wd (le4 l 1), wd (le4 l 5), (l.drop 11).take (sizeAt l)⟩, 0) := by
  unfold readF; rw [if_neg h, hb, if_neg (by simp), if_neg (by simp [hs]), hf, if_neg (by simp)]
/-- are these bytes noughts? -/
def zeros (l : List UInt8) (a k : Nat) : Bool := ((l.drop a).take (k - a)).all (· == 0)
theorem zeros_start (l : List UInt8) (a : Nat) : zeros l a a = true := by unfold zeros; rw [Nat.sub_self]; rfl
theorem zeros_succ {l : List UInt8} {a k : Nat} (h : a ≤ k) (hk : k < l.length) : zeros l a (k + 1) = (zeros l a k && (l.getD k 0 == 0)) := by
  unfold zeros
  have hd : k - a < (l.drop a).length := by rw [List.length_drop]; omega
  rw [show k + 1 - a = (k - a) + 1 by omega, List.take_succ_eq_append_getElem hd, List.all_append, List.getElem_drop]
  have e : l.getD k 0 = l[k] := by rw [List.getD_eq_getElem?_getD, List.getElem?_eq_getElem hk]; rfl
  simp only [e, show a + (k - a) = k by omega, List.all_cons, List.all_nil, Bool.and_true]
theorem zeros_not {l : List UInt8} {a k n : Nat} (h : zeros l a k = false) (hk : k ≤ n) : zeros l a n = false := by
  unfold zeros at h ⊢
  rw [List.all_eq_false] at h ⊢
  obtain ⟨x, hx, h⟩ := h
  refine ⟨x, ?_, h⟩
  have : (l.drop a).take (k - a) = ((l.drop a).take (n - a)).take (k - a) := by rw [List.take_take, Nat.min_eq_left (by omega)]
  rw [this] at hx
  exact List.mem_of_mem_take hx
theorem formed_is (l : List UInt8) (n : Nat) (hn : n = l.length - 4) : formed l = (decide (1 ≤ (l.getD 0 0).toNat) && decide ((l.getD 0 0).toNat ≤ 4) && decide (sizeAt l ≤ l.length - 15) && zeros l (11 + sizeAt l) n) := by
  unfold formed zeros
  subst hn
  rw [List.drop_take]
theorem wd_le4 (l : List UInt8) (k : Nat) : vl (wd (le4 l k)) = le4 l k := by
  have h : ∀ j, (0 : Int) ≤ ((l.getD j 0).toNat : Int) ∧ ((l.getD j 0).toNat : Int) ≤ 255 := fun j => by have := (l.getD j 0).toNat_lt; omega
  have h0 := h k; have h1 := h (k + 1); have h2 := h (k + 2); have h3 := h (k + 3)
  refine Crc.vl_wd ?_ ?_ <;> unfold le4 <;> omega
end Go.Proofs.YtcmjambbdfangaaGreat.Frame
/-
  What the document's own FrameRead answers of bytes that may be a frame.
-/
set_option linter.unusedVariables false
set_option linter.unusedSimpArgs false
namespace Go.Proofs.YtcmjambbdfangaaGreat.Frame
open Go.RowKit
open CrcM (W)
open Crc (le4 sumOf vl wd putS)
open Flash (bs bs_size bs_list list_bs)
open Tup Bytes
open Go.Proofs.YtcmjambbdfangaaGreat.Region (fill Then Deps Each wp_region_is wp_region_is_tail wp_region_each wp_region_tail)

end Go.Proofs.YtcmjambbdfangaaGreat.Frame
