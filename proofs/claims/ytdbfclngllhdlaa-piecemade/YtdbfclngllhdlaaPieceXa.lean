/-
  What package piece's small functions answer: isSeq, right, Kind, body, sealOf, floorOf, checked, AsPart, AsSeal, AsFloor.
-/
import Derived.Test.YtdbfclngllhdlaaRefPiece
import Derived.Test.YtdbfclngllhdlaaRegionCut
import Derived.Test.YtdbfclngllhdlaaFoot
set_option linter.unusedVariables false
set_option linter.unusedSimpArgs false
namespace Go.Proofs.Ytdbfclngllhdlaa.Piece
open Go.RowKit
open CrcM (W)
open Crc (le4 sumOf vl wd putS)
open Flash (bs bs_size bs_list list_bs)
open Go.Proofs.Ytdbfclngllhdlaa.Frame (Fr zeroF fV bel2 below_drewN)
open Tup Bytes Own
open Go.Proofs.Ytdbfclngllhdlaa.Region (fill Then Deps Each wp_region_is wp_region_is_tail wp_region_each wp_region_tail)

def headV (e r : W) : Value := .agg #[.int .u32 (vl e), .int .u32 (vl r)]
def partV (s a : W) (t : List UInt8) : Value := .agg #[.int .u32 (vl s), .int .u32 (vl a), .string (bs t)]
def sealV (s p v f u z : W) : Value := .agg #[.int .u32 (vl s), .int .u32 (vl p), .int .u32 (vl v), .int .u32 (vl f), .int .u32 (vl u), .int .u32 (vl z)]
def floorV (s g f : W) : Value := .agg #[.int .u32 (vl s), .int .u32 (vl g), .int .u32 (vl f)]
/-- a piece as a value -/
def pcV : Pc → Value
  | .none => .nilIface
  | .head e r => .iface 55 (headV e r)
  | .part s a t => .iface 39 (partV s a t)
  | .fin s p v f u z => .iface 43 (sealV s p v f u z)
  | .floor s g f => .iface 47 (floorV s g f)
def partR (s : W) (t : List UInt8) : Bool := isSeqB s && !t.isEmpty
def sealPR (s p v f z : W) : Bool := isSeqB s && decide (0 < vl p) && decide (vl v < vl s) && decide (1 ≤ vl f) && decide (vl f ≤ vl s) && decide (0 < vl z)
def floorPR (s f : W) : Bool := isSeqB s && decide (vl f ≤ vl s)
theorem isSeq_any (x : W) (w : World) : Calls Try.prog 35 #[.int .u32 (vl x)] w fun e w' => e = .returned (.bool (isSeqB x)) ∧ w = w' := by
  unfold isSeqB
  generalize vl x = v
  cases h1 : decide (1 ≤ v) <;> cases h2 : decide (v ≤ 2147483647)
  all_goals
    go_enter Try.func35, Try.ntmps35
    go_wp2
    go_ret
    exact ⟨rfl, rfl⟩
theorem headRight_any (e r : W) (w : World) : Calls Try.prog 26 #[headV e r] w fun e' w' => e' = .returned (.bool (isSeqB e)) ∧ Below w.heap.size w w' := by
  have HS := Lib.hid (fun w => isSeq_any e w)
  unfold headV
  generalize isSeqB e = B at *
  go_enter Try.func26, Try.ntmps26
  go_wp2_with (go_at_call 35; (with_reducible refine (HS.out _).mono ?_); rintro e w5 ⟨rfl, rfl⟩)
  go_ret
  exact ⟨rfl, Geom.bel_alloc _ _⟩
theorem partRight_any (s a : W) (t : List UInt8) (w : World) : Calls Try.prog 27 #[partV s a t] w fun e' w' => e' = .returned (.bool (partR s t)) ∧ Below w.heap.size w w' := by
  have HS := Lib.hid (fun w => isSeq_any s w)
  unfold partV partR
  have hem := bs_empty t
  obtain ⟨B, hB⟩ : ∃ B, B = bs t := ⟨_, rfl⟩
  rw [← hB] at hem ⊢
  clear hB
  generalize isSeqB s = q at *
  generalize t.isEmpty = z at *
  cases q <;> cases z
  all_goals
    go_enter Try.func27, Try.ntmps27
    go_wp2_with (go_at_call 35; (with_reducible refine (HS.out _).mono ?_); rintro e w5 ⟨rfl, rfl⟩)
    go_ret
    exact ⟨rfl, Geom.bel_alloc _ _⟩
theorem sealRight_any (s p v f u z : W) (w : World) : Calls Try.prog 29 #[sealV s p v f u z] w fun e' w' => e' = .returned (.bool (sealPR s p v f z)) ∧ Below w.heap.size w w' := by
  have HS := Lib.hid (fun w => isSeq_any s w)
  unfold sealV
  have HR := Lib.hid (show sealPR s p v f z = (isSeqB s && decide (0 < vl p) && decide (vl v < vl s) && decide (1 ≤ vl f) && decide (vl f ≤ vl s) && decide (0 < vl z)) from rfl)
  generalize isSeqB s = q at *
  obtain ⟨S, hS⟩ : ∃ S, S = sealPR s p v f z := ⟨_, rfl⟩
  rw [← hS] at HR ⊢
  clear hS
  generalize vl s = s at *
  generalize vl p = p at *
  generalize vl v = v at *
  generalize vl f = f at *
  generalize vl u = u at *
  generalize vl z = z at *
  have hc : q = false ∨ (q = true ∧ decide (0 < p) = false) ∨ (q = true ∧ decide (0 < p) = true ∧ decide (v < s) = false) ∨ (q = true ∧ decide (0 < p) = true ∧ decide (v < s) = true ∧ decide (1 ≤ f) = false) ∨ (q = true ∧ decide (0 < p) = true ∧ decide (v < s) = true ∧ decide (1 ≤ f) = true ∧ decide (f ≤ s) = false) ∨ (q = true ∧ decide (0 < p) = true ∧ decide (v < s) = true ∧ decide (1 ≤ f) = true ∧ decide (f ≤ s) = true ∧ decide (0 < z) = false) ∨ (q = true ∧ decide (0 < p) = true ∧ decide (v < s) = true ∧ decide (1 ≤ f) = true ∧ decide (f ≤ s) = true ∧ decide (0 < z) = true) := by
    cases q <;> cases decide (0 < p) <;> cases decide (v < s) <;> cases decide (1 ≤ f) <;> cases decide (f ≤ s) <;> cases decide (0 < z) <;> simp
  rcases hc with rfl | ⟨rfl, t2⟩ | ⟨rfl, t2, t3⟩ | ⟨rfl, t2, t3, t4⟩ | ⟨rfl, t2, t3, t4, t5⟩ | ⟨rfl, t2, t3, t4, t5, t6⟩ | ⟨rfl, t2, t3, t4, t5, t6⟩
  all_goals
    go_enter Try.func29, Try.ntmps29
    go_wp2_with (go_at_call 35; (with_reducible refine (HS.out _).mono ?_); rintro e w5 ⟨rfl, rfl⟩)
    go_ret
    rw [HR.out]
    refine ⟨?_, Geom.bel_alloc _ _⟩
    first | rfl | (simp only [*, Bool.and_true, Bool.and_false, Bool.true_and, Bool.false_and]; rfl)
theorem floorRight_any (s g f : W) (w : World) : Calls Try.prog 31 #[floorV s g f] w fun e' w' => e' = .returned (.bool (floorPR s f)) ∧ Below w.heap.size w w' := by
  have HS := Lib.hid (fun w => isSeq_any s w)
  unfold floorV floorPR
  generalize isSeqB s = q at *
  generalize vl s = s at *
  generalize vl g = g at *
  generalize vl f = f at *
  cases q <;> cases h : decide (f ≤ s)
  all_goals
    go_enter Try.func31, Try.ntmps31
    go_wp2_with (go_at_call 35; (with_reducible refine (HS.out _).mono ?_); rintro e w5 ⟨rfl, rfl⟩)
    go_ret
    exact ⟨rfl, Geom.bel_alloc _ _⟩
theorem headKind_any (e r : W) (w : World) : Calls Try.prog 20 #[headV e r] w fun e' w' => e' = .returned (.int .i64 1) ∧ Below w.heap.size w w' := by
  unfold headV
  go_enter Try.func20, Try.ntmps20
  go_wp2
  go_ret
  exact ⟨rfl, Geom.bel_alloc _ _⟩
theorem partKind_any (s a : W) (t : List UInt8) (w : World) : Calls Try.prog 21 #[partV s a t] w fun e' w' => e' = .returned (.int .i64 2) ∧ Below w.heap.size w w' := by
  unfold partV
  go_enter Try.func21, Try.ntmps21
  go_wp2
  go_ret
  exact ⟨rfl, Geom.bel_alloc _ _⟩
theorem sealKind_any (s p v f u z : W) (w : World) : Calls Try.prog 22 #[sealV s p v f u z] w fun e' w' => e' = .returned (.int .i64 3) ∧ Below w.heap.size w w' := by
  unfold sealV
  go_enter Try.func22, Try.ntmps22
  go_wp2
  go_ret
  exact ⟨rfl, Geom.bel_alloc _ _⟩
theorem floorKind_any (s g f : W) (w : World) : Calls Try.prog 23 #[floorV s g f] w fun e' w' => e' = .returned (.int .i64 4) ∧ Below w.heap.size w w' := by
  unfold floorV
  go_enter Try.func23, Try.ntmps23
  go_wp2
  go_ret
  exact ⟨rfl, Geom.bel_alloc _ _⟩
theorem wd_le4 (l : List UInt8) (k : Nat) : vl (wd (le4 l k)) = le4 l k := by
  have h : ∀ j, (0 : Int) ≤ ((l.getD j 0).toNat : Int) ∧ ((l.getD j 0).toNat : Int) ≤ 255 := fun j => by have := (l.getD j 0).toNat_lt; omega
  have h0 := h k; have h1 := h (k + 1); have h2 := h (k + 2); have h3 := h (k + 3)
  refine Crc.vl_wd ?_ ?_ <;> unfold le4 <;> omega
/-- a number of a text, 0 where there are not four bytes -/
def getZ (l : List UInt8) (k : Nat) : W := if k + 4 ≤ l.length then wd (le4 l k) else 0#32
theorem getZ_any (l : List UInt8) (hl : l.length ≤ maxLen) (k : Nat) (hk : k ≤ 1000) (x : Int) (hx : x = (k : Int)) (w : World) : Calls Try.prog 36 #[.string (bs l), .int .i64 x] w fun e w' => e = .returned (.tuple #[.int .u32 (vl (getZ l k)), .bool (decide (k + 4 ≤ l.length))]) ∧ Below w.heap.size w w' := by
  subst hx
  unfold getZ
  by_cases h : k + 4 ≤ l.length
  · rw [if_pos h, decide_eq_true h]
    have := Crc.get_yes (bs l) (by rw [bs_size]; exact hl) k (by rw [bs_size]; exact h) w
    rw [list_bs] at this
    refine this.mono ?_
    rintro e w' ⟨rfl, n, rfl⟩
    refine ⟨?_, Crc.belD ⟨n, rfl⟩⟩
    rw [wd_le4]
  · rw [if_neg h, decide_eq_false h]
    refine (Crc.get_few (bs l) (by rw [bs_size]; exact hl) (k : Int) (by omega) (by omega) (by rw [bs_size]; omega) w).mono ?_
    rintro e w' ⟨rfl, rfl⟩
    exact ⟨rfl, Below.refl _ _⟩
def sealOfF (f : Fr) : Value := sealV f.a f.b (getZ f.body 0) (getZ f.body 4) (getZ f.body 8) (getZ f.body 12)
def floorOfF (f : Fr) : Value := floorV f.a f.b (getZ f.body 0)
def checkedF (r : Bool) (f : Fr) : Fr × Nat := if r = true then (f, 0) else (zeroF, 2)
set_option maxRecDepth 100000 in
theorem checked_any (r : Bool) (f : Fr) (w : World) : Calls Try.prog 32 #[.bool r, fV f] w fun e w' => e = .returned (.tuple #[fV (checkedF r f).1, .int .i64 ((checkedF r f).2 : Int)]) ∧ Below w.heap.size w w' := by
  obtain ⟨kd, a, b, body⟩ := f
  unfold checkedF
  cases r
  · rw [if_neg (by simp)]
    unfold fV
    simp only [zeroF]
    go_enter Try.func32, Try.ntmps32
    go_wp2
    refine bodyPost_ret (v := .tuple #[.agg #[.int .i64 0, .int .u32 0, .int .u32 0, .string ⟨#[]⟩], .int .i64 2]) (by rw [results_cell_tmp rfl]; simp [go_sem]) rfl ?_
    exact ⟨rfl, bel2 (Geom.bel_alloc _ _) (Geom.bel_alloc _ _)⟩
  · rw [if_pos rfl]
    unfold fV
    simp only
    obtain ⟨B, hB⟩ : ∃ B, B = bs body := ⟨_, rfl⟩
    rw [← hB]
    clear hB
    go_enter Try.func32, Try.ntmps32
    go_wp2
    refine bodyPost_ret (v := .tuple #[.agg #[.int .i64 kd, .int .u32 (vl a), .int .u32 (vl b), .string B], .int .i64 0]) (by rw [results_cell_tmp rfl]; simp [go_sem]) rfl ?_
    exact ⟨rfl, bel2 (Geom.bel_alloc _ _) (Geom.bel_alloc _ _)⟩
set_option maxRecDepth 100000 in
theorem floorOf_any (f : Fr) (hs : f.body.length ≤ maxLen) (w : World) : Calls Try.prog 30 #[fV f] w fun e w' => e = .returned (floorOfF f) ∧ Below w.heap.size w w' := by
  have HG := Lib.hid (fun w => getZ_any f.body hs 0 (by omega) 0 rfl w)
  obtain ⟨kd, a, b, body⟩ := f
  unfold floorOfF floorV fV
  simp only at HG ⊢
  obtain ⟨B, hB⟩ : ∃ B, B = bs body := ⟨_, rfl⟩
  rw [← hB] at HG ⊢
  clear hB
  generalize getZ body 0 = g0 at *
  generalize decide (0 + 4 ≤ body.length) = d0 at *
  have HV := Lib.hid ((Var.new w 24 [.int .i64 kd, .int .u32 (vl a), .int .u32 (vl b), .string B]).alloc (.cells #[.int .u32 0, .int .u32 0, .int .u32 0] 47))
  have HR := Lib.hid (Var.new (w.alloc (.cells #[.int .i64 kd, .int .u32 (vl a), .int .u32 (vl b), .string B] 24)) 47 [.int .u32 0, .int .u32 0, .int .u32 0])
  have hsz1 : (w.alloc (.cells #[.int .i64 kd, .int .u32 (vl a), .int .u32 (vl b), .string B] 24)).heap.size = w.heap.size + 1 := by simp
  rw [hsz1] at HR
  obtain ⟨w1, hw1⟩ : ∃ w1, w1 = (w.alloc (.cells #[.int .i64 kd, .int .u32 (vl a), .int .u32 (vl b), .string B] 24)).alloc (.cells #[.int .u32 0, .int .u32 0, .int .u32 0] 47) := ⟨_, rfl⟩
  have HB1 := Lib.hid (show Below w.heap.size w w1 by rw [hw1]; exact bel2 (Geom.bel_alloc _ _) (Geom.bel_alloc _ _))
  have HV1 := Lib.hid (show Var w1 w.heap.size 24 [.int .i64 kd, .int .u32 (vl a), .int .u32 (vl b), .string B] by rw [hw1]; exact HV.out)
  have HR1 := Lib.hid (show Var w1 (w.heap.size + 1) 47 [.int .u32 0, .int .u32 0, .int .u32 0] by rw [hw1]; exact HR.out)
  go_enter Try.func30, Try.ntmps30
  go_wp2_with (go_at_call 36; (with_reducible refine (HG.out _).mono ?_); rintro e w5 ⟨rfl, b50⟩; have b5 : Below w1.heap.size w1 w5 := (by rw [hw1]; exact b50); clear b50; have BW5 := Lib.hid (bel2 HB1.out b5); have v5 := HV1.out.below b5 HV1.out.lt; have VR5 := Lib.hid (HR1.out.below b5 HR1.out.lt); have k1 := v5.cell (j := 1) rfl; have k2 := v5.cell (j := 2) rfl; clear v5; have r5 := VR5.out; have r0 := r5.cell (j := 0) rfl; have r1 := r5.cell (j := 1) rfl; have r2 := r5.cell (j := 2) rfl; have f0 := r5.frozen 0; have f1 := r5.frozen 1; have f2 := r5.frozen 2; clear r5)
  have vr := ((VR5.out.set 0 (.int .u32 (vl a))).set 1 (.int .u32 (vl b))).set 2 (.int .u32 (vl g0))
  have z0 := vr.cell (j := 0) rfl
  have z1 := vr.cell (j := 1) rfl
  have z2 := vr.cell (j := 2) rfl
  clear r0 r1 r2 f0 f1 f2 vr
  refine bodyPost_ret (v := .agg #[.int .u32 (vl a), .int .u32 (vl b), .int .u32 (vl g0)]) (by simp [results, Try.results30, go_sem, z0, z1, z2]) rfl ?_
  exact ⟨rfl, ((BW5.out.setCell (p := ⟨w.heap.size + 1, 0, none⟩) (by simp only; omega) _).setCell (p := ⟨w.heap.size + 1, 1, none⟩) (by simp only; omega) _).setCell (p := ⟨w.heap.size + 1, 2, none⟩) (by simp only; omega) _⟩
theorem taHead_nil (w : World) : (Instr.typeAssert .nilIface 28 55 true).run Try.prog w = .ok (.tuple #[.agg #[.int .u32 0, .int .u32 0], .bool false]) w := by kernel_rfl
theorem taHead_Head (v : Value) (w : World) : (Instr.typeAssert (.iface 55 v) 28 55 true).run Try.prog w = .ok (.tuple #[v, .bool true]) w := by kernel_rfl
theorem taHead_Part (v : Value) (w : World) : (Instr.typeAssert (.iface 39 v) 28 55 true).run Try.prog w = .ok (.tuple #[.agg #[.int .u32 0, .int .u32 0], .bool false]) w := by kernel_rfl
theorem taHead_Seal (v : Value) (w : World) : (Instr.typeAssert (.iface 43 v) 28 55 true).run Try.prog w = .ok (.tuple #[.agg #[.int .u32 0, .int .u32 0], .bool false]) w := by kernel_rfl
theorem taHead_Floor (v : Value) (w : World) : (Instr.typeAssert (.iface 47 v) 28 55 true).run Try.prog w = .ok (.tuple #[.agg #[.int .u32 0, .int .u32 0], .bool false]) w := by kernel_rfl
theorem taPart_nil (w : World) : (Instr.typeAssert .nilIface 28 39 true).run Try.prog w = .ok (.tuple #[.agg #[.int .u32 0, .int .u32 0, .string ⟨#[]⟩], .bool false]) w := by kernel_rfl
theorem taPart_Head (v : Value) (w : World) : (Instr.typeAssert (.iface 55 v) 28 39 true).run Try.prog w = .ok (.tuple #[.agg #[.int .u32 0, .int .u32 0, .string ⟨#[]⟩], .bool false]) w := by kernel_rfl
theorem taPart_Part (v : Value) (w : World) : (Instr.typeAssert (.iface 39 v) 28 39 true).run Try.prog w = .ok (.tuple #[v, .bool true]) w := by kernel_rfl
theorem taPart_Seal (v : Value) (w : World) : (Instr.typeAssert (.iface 43 v) 28 39 true).run Try.prog w = .ok (.tuple #[.agg #[.int .u32 0, .int .u32 0, .string ⟨#[]⟩], .bool false]) w := by kernel_rfl
theorem taPart_Floor (v : Value) (w : World) : (Instr.typeAssert (.iface 47 v) 28 39 true).run Try.prog w = .ok (.tuple #[.agg #[.int .u32 0, .int .u32 0, .string ⟨#[]⟩], .bool false]) w := by kernel_rfl
theorem taSeal_nil (w : World) : (Instr.typeAssert .nilIface 28 43 true).run Try.prog w = .ok (.tuple #[.agg #[.int .u32 0, .int .u32 0, .int .u32 0, .int .u32 0, .int .u32 0, .int .u32 0], .bool false]) w := by kernel_rfl
theorem taSeal_Head (v : Value) (w : World) : (Instr.typeAssert (.iface 55 v) 28 43 true).run Try.prog w = .ok (.tuple #[.agg #[.int .u32 0, .int .u32 0, .int .u32 0, .int .u32 0, .int .u32 0, .int .u32 0], .bool false]) w := by kernel_rfl
theorem taSeal_Part (v : Value) (w : World) : (Instr.typeAssert (.iface 39 v) 28 43 true).run Try.prog w = .ok (.tuple #[.agg #[.int .u32 0, .int .u32 0, .int .u32 0, .int .u32 0, .int .u32 0, .int .u32 0], .bool false]) w := by kernel_rfl
theorem taSeal_Seal (v : Value) (w : World) : (Instr.typeAssert (.iface 43 v) 28 43 true).run Try.prog w = .ok (.tuple #[v, .bool true]) w := by kernel_rfl
theorem taSeal_Floor (v : Value) (w : World) : (Instr.typeAssert (.iface 47 v) 28 43 true).run Try.prog w = .ok (.tuple #[.agg #[.int .u32 0, .int .u32 0, .int .u32 0, .int .u32 0, .int .u32 0, .int .u32 0], .bool false]) w := by kernel_rfl
theorem taFloor_nil (w : World) : (Instr.typeAssert .nilIface 28 47 true).run Try.prog w = .ok (.tuple #[.agg #[.int .u32 0, .int .u32 0, .int .u32 0], .bool false]) w := by kernel_rfl
theorem taFloor_Head (v : Value) (w : World) : (Instr.typeAssert (.iface 55 v) 28 47 true).run Try.prog w = .ok (.tuple #[.agg #[.int .u32 0, .int .u32 0, .int .u32 0], .bool false]) w := by kernel_rfl
theorem taFloor_Part (v : Value) (w : World) : (Instr.typeAssert (.iface 39 v) 28 47 true).run Try.prog w = .ok (.tuple #[.agg #[.int .u32 0, .int .u32 0, .int .u32 0], .bool false]) w := by kernel_rfl
theorem taFloor_Seal (v : Value) (w : World) : (Instr.typeAssert (.iface 43 v) 28 47 true).run Try.prog w = .ok (.tuple #[.agg #[.int .u32 0, .int .u32 0, .int .u32 0], .bool false]) w := by kernel_rfl
theorem taFloor_Floor (v : Value) (w : World) : (Instr.typeAssert (.iface 47 v) 28 47 true).run Try.prog w = .ok (.tuple #[v, .bool true]) w := by kernel_rfl

/-- a variable, where another one is written -/
theorem Var.othr2 {w : World} {k : Nat} {t : TypeId} {cs : List Value} (h : Var w k t cs) (p : Addr) (v : Value) (hp : k ≠ p.block) : Var (w.setCell p v) k t cs := (Foot.Grows.set (S := fun j => j = p.block) w p v rfl).var h hp
end Go.Proofs.Ytdbfclngllhdlaa.Piece
