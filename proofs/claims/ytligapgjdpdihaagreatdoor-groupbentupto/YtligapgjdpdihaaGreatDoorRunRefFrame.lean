/-
  Joined texts: RefFrame, RefPiece, PieceXa.
-/
import Derived.Test.YtligapgjdpdihaaGreatDoorRunFrameM
import Derived.Test.YtligapgjdpdihaaGreatDoorRunFlashA
import Derived.Test.YtligapgjdpdihaaGreatDoorRunGeomA
import Derived.Test.YtligapgjdpdihaaGreatDoorRunRegion
import Derived.Deep.QuietTactic
import Derived.BigQuiet
import Derived.Laws.ResultCell
import Derived.Test.YtligapgjdpdihaaGreatDoorRunTup
/-
  What the document's own page, FrameBytes answer.
-/
set_option linter.unusedVariables false
set_option linter.unusedSimpArgs false
namespace Go.Proofs.YtligapgjdpdihaaGreatDoor.Frame
open Go.RowKit
open CrcM (W)
open Crc (le4 sumOf vl wd putS)
open Flash (bs bs_size bs_list list_bs)
open Tup Bytes
open Go.Proofs.YtligapgjdpdihaaGreatDoor.Region (fill Then Deps Each wp_region_is wp_region_is_tail wp_region_each wp_region_tail)

theorem below_drewN (w : World) (k : Nat) : Below w.heap.size w (w.drewN k) := ⟨rfl, rfl, rfl, Nat.le_refl _, fun _ _ => rfl⟩
theorem bel2 {a w1 w2 : World} (h : Below a.heap.size a w1) (k : Below w1.heap.size w1 w2) : Below a.heap.size a w2 := h.trans (k.mono h.size)
/-- a frame as a value -/
def fV (f : Fr) : Value := .agg #[.int .i64 f.kind, .int .u32 (vl f.a), .int .u32 (vl f.b), .string (bs f.body)]
def fC (f : Fr) : List Value := [.int .i64 f.kind, .int .u32 (vl f.a), .int .u32 (vl f.b), .string (bs f.body)]
/-- a slice of these bytes, somewhere -/
def BytesAt (w : World) (v : Value) (l : List UInt8) : Prop := ∃ g c, v = .slice (some ⟨g, 0, none⟩) l.length c ∧ Row8 w g l
theorem BytesAt.below {w w' : World} {v : Value} {l : List UInt8} (h : BytesAt w v l) (hb : Below w.heap.size w w') : BytesAt w' v l := by
  obtain ⟨g, c, e, r⟩ := h
  exact ⟨g, c, e, r.below hb⟩
/-- the values of a region's operations, some of them rows of bytes -/
def VB (tab : List Value) (bts : List (Nat × List UInt8)) : Nat → Value → World → Prop := fun i v w => match bts.lookup i with | some l => BytesAt w v l | none => v = tab.getD i undef
theorem VB.mono (tab : List Value) (bts : List (Nat × List UInt8)) : ∀ i v w w', VB tab bts i v w → Below w.heap.size w w' → VB tab bts i v w' := by
  intro i v w w' h hb
  unfold VB at h ⊢
  split <;> rename_i e
  · rw [e] at h; exact BytesAt.below h hb
  · rw [e] at h; exact h
theorem row_new (w : World) (t : TypeId) (l : List UInt8) : Row8 (w.alloc (.cells (l.map fun c => Value.int .u8 (c.toNat : Int)).toArray t)) w.heap.size l := fun j hj => by
  refine ⟨?_, ?_⟩
  · have := (lies_new w (l.map fun c => Value.int .u8 (c.toNat : Int)) t) j (.int .u8 ((l.getD j 0).toNat : Int)) (by rw [List.getElem?_map, List.getElem?_eq_getElem hj, List.getD_eq_getElem?_getD, List.getElem?_eq_getElem hj]; rfl)
    rwa [Nat.zero_add] at this
  · exact (Var.new w t (l.map fun c => Value.int .u8 (c.toNat : Int))).frozen j
theorem mask255 (n : Nat) (h : n < 4294967296) : bits .and .u32 (n : Int) 255 = ((n % 256 : Nat) : Int) := by
  have := u32_and_nat n 255 h (by decide)
  rw [show n &&& 255 = n % 256 from Nat.and_two_pow_sub_one_eq_mod n 8] at this
  exact this
theorem i64_and255 (n : Int) : bits .and .i64 n 255 = n % 256 := by
  have h255 : (BitVec.ofInt 64 255).toNat = 2 ^ 8 - 1 := by decide
  have key : (BitVec.ofInt 64 n &&& BitVec.ofInt 64 255).toNat = (n % ((2 ^ 64 : Nat) : Int)).toNat % 2 ^ 8 := by
    rw [BitVec.toNat_and, BitVec.toNat_ofInt, h255, Nat.and_two_pow_sub_one_eq_mod]
  show IntKind.i64.wrap ((BitVec.ofInt 64 n &&& BitVec.ofInt 64 255).toNat : Nat) = n % 256
  rw [key, IntKind.wrap_i64]
  omega
set_option maxRecDepth 100000 in
theorem refPut_any (x : W) (w : World) :
    Calls Tryz.prog 29 #[.int .u32 (vl x)] w fun e w' => e = .returned (.string (putS x)) ∧ Below w.heap.size w w' := by
  have hx := x.isLt
  obtain ⟨n, hn⟩ : ∃ n, n = x.toNat := ⟨_, rfl⟩
  have hv : vl x = (n : Int) := by unfold vl; rw [hn]
  rw [← hn] at hx
  have m0 := mask255 n hx
  have m1 := mask255 (n / 256) (by omega)
  have m2 := mask255 (n / 65536) (by omega)
  obtain ⟨n0, h0⟩ : ∃ n0, n0 = n % 256 := ⟨_, rfl⟩
  obtain ⟨n1, h1⟩ : ∃ n1, n1 = n / 256 % 256 := ⟨_, rfl⟩
  obtain ⟨n2, h2⟩ : ∃ n2, n2 = n / 65536 % 256 := ⟨_, rfl⟩
  obtain ⟨n3, h3⟩ : ∃ n3, n3 = n / 16777216 := ⟨_, rfl⟩
  rw [← h0] at m0
  rw [← h1] at m1
  rw [← h2] at m2
  have d1 : (n : Int) / 256 = ((n / 256 : Nat) : Int) := rfl
  have d2 : (n : Int) / 65536 = ((n / 65536 : Nat) : Int) := rfl
  have d3 : (n : Int) / 16777216 = (n3 : Int) := by rw [h3]; rfl
  rw [← d1] at m1
  rw [← d2] at m2
  have l0 : n0 < 256 := by omega
  have l1 : n1 < 256 := by omega
  have l2 : n2 < 256 := by omega
  have l3 : n3 < 256 := by omega
  have HE := Lib.hid (show putS x = bs [u8 n0, u8 n1, u8 n2, u8 n3] by
    unfold putS bs CrcM.put u8
    rw [← hn, h0, h1, h2, h3]
    rw [Nat.mod_eq_of_lt (show n / 16777216 < 256 by omega)])
  rw [hv]
  have htx := (row_new w 5 [u8 n0, u8 n1, u8 n2, u8 n3]).text (P := Tryz.prog) 77 9 5 4 Tryz.underlying77 Tryz.underlying5 Tryz.underlying9 4 rfl
  simp only [List.map_cons, List.map_nil, u8_int l0, u8_int l1, u8_int l2, u8_int l3] at htx
  have HB := Lib.hid (Geom.bel_alloc w (.cells #[.int .u8 (n0 : Int), .int .u8 (n1 : Int), .int .u8 (n2 : Int), .int .u8 (n3 : Int)] 5))
  clear hv hn h0 h1 h2 h3 d1 d2
  go_enter Tryz.func29, Tryz.ntmps29
  go_wp2
  go_ret
  rw [HE.out]
  exact ⟨rfl, HB.out⟩
end Go.Proofs.YtligapgjdpdihaaGreatDoor.Frame
/-
  What the document's own PieceRight answers.
-/
set_option linter.unusedVariables false
set_option linter.unusedSimpArgs false
namespace Go.Proofs.YtligapgjdpdihaaGreatDoor.Piece
open Go.RowKit
open CrcM (W)
open Crc (le4 sumOf vl wd putS)
open Flash (bs bs_size bs_list list_bs)
open Go.Proofs.YtligapgjdpdihaaGreatDoor.Frame (Fr zeroF fV bel2 below_drewN)
open Tup Bytes Own

theorem eqI (a b : Int) : (a == b) = decide (a = b) := by rw [Bool.eq_iff_iff]; simp
theorem neI (a b : Int) : (a != b) = !decide (a = b) := by unfold bne; rw [eqI]
theorem isSeq_false {a : W} (h : decide (vl a < 1) = true ∨ decide (2147483647 < vl a) = true) : isSeqB a = false := by
  unfold isSeqB
  rcases h with h | h <;> simp only [decide_eq_true_eq] at h <;> simp <;> omega
theorem isSeq_true {a : W} (h : decide (vl a < 1) = false) (h2 : decide (2147483647 < vl a) = false) : isSeqB a = true := by
  simp only [decide_eq_false_iff_not] at h h2
  unfold isSeqB
  simp; omega
theorem pieceR_not {f : Fr} (h : isSeqB f.a = false) : pieceR f = false := by unfold pieceR; rw [h]; rfl
theorem pieceR_at {f : Fr} (h : isSeqB f.a = true) : pieceR f = (if f.kind = 1 then f.body.isEmpty else if f.kind = 2 then !f.body.isEmpty else if f.kind = 3 then sealR f.a f.b f.body else if f.kind = 4 then floorR f.a f.body else false) := by unfold pieceR; rw [h]; rfl
theorem bs_toList (l : List UInt8) : (bs l).toList = l := by rw [ByteArray.toList_eq]; rfl
theorem bs_empty (l : List UInt8) : ((bs l).toList == ([] : List UInt8)) = l.isEmpty := by
  rw [bs_toList]
  cases l <;> rfl
set_option maxRecDepth 100000 in
set_option maxHeartbeats 8000000 in
theorem refPiece_out (f : Fr) (h : decide (vl f.a < 1) = true ∨ (decide (vl f.a < 1) = false ∧ decide (2147483647 < vl f.a) = true)) (w : World) :
    Calls Tryz.prog 19 #[fV f] w fun e w' => e = .returned (.bool (pieceR f)) ∧ Below w.heap.size w w' := by
  have HE := Lib.hid (pieceR_not (f := f) (isSeq_false (by rcases h with h | h; exact .inl h; exact .inr h.2)))
  obtain ⟨kd, a, b, body⟩ := f
  unfold fV
  simp only at h ⊢
  rcases h with h1 | ⟨h1, h2⟩
  all_goals
    go_enter Tryz.func19, Tryz.ntmps19
    go_wp2
    go_ret
    rw [HE.out]
    exact ⟨rfl, Geom.bel_alloc _ _⟩
set_option maxRecDepth 100000 in
set_option maxHeartbeats 8000000 in
theorem refPiece_plain (f : Fr) (h1 : decide (vl f.a < 1) = false) (h2 : decide (2147483647 < vl f.a) = false) (hk : f.kind ≠ 3 ∧ f.kind ≠ 4) (w : World) :
    Calls Tryz.prog 19 #[fV f] w fun e w' => e = .returned (.bool (pieceR f)) ∧ Below w.heap.size w w' := by
  have HE := Lib.hid (pieceR_at (f := f) (isSeq_true h1 h2))
  obtain ⟨kd, a, b, body⟩ := f
  unfold fV
  simp only at h1 h2 hk HE ⊢
  have hem := bs_empty body
  obtain ⟨B, hB⟩ : ∃ B, B = bs body := ⟨_, rfl⟩
  rw [← hB] at hem ⊢
  have q3 : (kd == 3) = false := by rw [eqI]; exact decide_eq_false hk.1
  have q4 : (kd == 4) = false := by rw [eqI]; exact decide_eq_false hk.2
  have hc : (kd == 1) = true ∨ ((kd == 1) = false ∧ (kd == 2) = true) ∨ ((kd == 1) = false ∧ (kd == 2) = false) := by
    cases h1 : kd == 1 <;> cases h2 : kd == 2 <;> simp
  have HR := Lib.hid (show pieceR ⟨kd, a, b, body⟩ = if (kd == 1) = true then body.isEmpty else if (kd == 2) = true then !body.isEmpty else false by
    have HE := HE.out
    rw [if_neg hk.1, if_neg hk.2] at HE
    rw [HE]; simp only [beq_iff_eq])
  clear hB hk HE
  rcases hc with h3 | ⟨h3, h4⟩ | ⟨h3, h4⟩
  all_goals
    go_enter Tryz.func19, Tryz.ntmps19
    go_wp2
    go_ret
    rw [HR.out]
    first | simp only [h3, h4, if_true, Bool.false_eq_true, if_false] | simp only [h3, if_true, Bool.false_eq_true, if_false]
    first | exact ⟨rfl, Geom.bel_alloc _ _⟩ | (rw [← hem]; exact ⟨rfl, Geom.bel_alloc _ _⟩)
theorem quietGet (body : List UInt8) (hs : body.length ≤ maxLen) (j : Nat) (hj : j + 4 ≤ body.length) (w : World) (k : Nat) :
    Calls Tryz.prog 20 #[.string (bs body), .int .i64 (j : Int)] (w.drewN k) fun e w' => e = .returned (.int .u32 (le4 body j)) ∧ ∃ n, w' = w.drewN n := by
  have := Crc.refGet_any (bs body) (by rw [bs_size]; exact hs) j (by rw [bs_size]; exact hj) (w.drewN k)
  rw [list_bs] at this
  exact this.mono fun _ _ ⟨h, m, hm⟩ => ⟨h, k + m, by rw [hm, World.drewN_drewN]⟩
set_option maxRecDepth 100000 in
set_option maxHeartbeats 16000000 in
theorem refPiece_seal (a b : W) (body : List UInt8) (hs : body.length ≤ maxLen) (h1 : decide (vl a < 1) = false) (h2 : decide (2147483647 < vl a) = false) (w : World) :
    Calls Tryz.prog 19 #[fV ⟨3, a, b, body⟩] w fun e w' => e = .returned (.bool (sealR a b body)) ∧ Below w.heap.size w w' := by
  have HG0 : Hid (body.length = 16 → ∀ (w : World) (k : Nat), Calls Tryz.prog 20 #[.string (bs body), .int .i64 0] (w.drewN k) fun e w' => e = .returned (.int .u32 (le4 body 0)) ∧ ∃ n, w' = w.drewN n) := fun hk w k => quietGet body hs 0 (by omega) w k
  have HG4 : Hid (body.length = 16 → ∀ (w : World) (k : Nat), Calls Tryz.prog 20 #[.string (bs body), .int .i64 4] (w.drewN k) fun e w' => e = .returned (.int .u32 (le4 body 4)) ∧ ∃ n, w' = w.drewN n) := fun hk w k => quietGet body hs 4 (by omega) w k
  have HG12 : Hid (body.length = 16 → ∀ (w : World) (k : Nat), Calls Tryz.prog 20 #[.string (bs body), .int .i64 12] (w.drewN k) fun e w' => e = .returned (.int .u32 (le4 body 12)) ∧ ∃ n, w' = w.drewN n) := fun hk w k => quietGet body hs 12 (by omega) w k
  unfold fV
  simp only
  have hz : ((bs body).size : Int) = (body.length : Int) := by rw [bs_size]
  obtain ⟨B, hB⟩ : ∃ B, B = bs body := ⟨_, rfl⟩
  rw [← hB] at HG0 HG4 HG12 hz ⊢
  have HE := Lib.hid (show sealR a b body = ((vl b != 0) && ((body.length : Int) == 16) && decide (le4 body 0 < vl a) && decide (1 ≤ le4 body 4) && decide (le4 body 4 ≤ vl a) && (le4 body 12 != 0)) from rfl)
  obtain ⟨n, hn⟩ : ∃ n : Nat, n = body.length := ⟨_, rfl⟩
  rw [← hn] at HE HG0 HG4 HG12 hz
  obtain ⟨x0, hx0⟩ : ∃ x0, x0 = le4 body 0 := ⟨_, rfl⟩
  obtain ⟨x4, hx4⟩ : ∃ x4, x4 = le4 body 4 := ⟨_, rfl⟩
  obtain ⟨x12, hx12⟩ : ∃ x12, x12 = le4 body 12 := ⟨_, rfl⟩
  rw [← hx0, ← hx4, ← hx12] at HE
  rw [← hx0] at HG0
  rw [← hx4] at HG4
  rw [← hx12] at HG12
  clear hn hB hs hx0 hx4 hx12
  have hc : (vl b == 0) = true ∨ ((vl b == 0) = false ∧ ((n : Int) == 16) = false) ∨ ((vl b == 0) = false ∧ ((n : Int) == 16) = true ∧ decide (x0 < vl a) = false) ∨ ((vl b == 0) = false ∧ ((n : Int) == 16) = true ∧ decide (x0 < vl a) = true ∧ decide (1 ≤ x4) = false) ∨ ((vl b == 0) = false ∧ ((n : Int) == 16) = true ∧ decide (x0 < vl a) = true ∧ decide (1 ≤ x4) = true ∧ decide (x4 ≤ vl a) = false) ∨ ((vl b == 0) = false ∧ ((n : Int) == 16) = true ∧ decide (x0 < vl a) = true ∧ decide (1 ≤ x4) = true ∧ decide (x4 ≤ vl a) = true ∧ (x12 == 0) = true) ∨ ((vl b == 0) = false ∧ ((n : Int) == 16) = true ∧ decide (x0 < vl a) = true ∧ decide (1 ≤ x4) = true ∧ decide (x4 ≤ vl a) = true ∧ (x12 == 0) = false) := by
    cases vl b == 0 <;> cases (n : Int) == 16 <;> cases decide (x0 < vl a) <;> cases decide (1 ≤ x4) <;> cases decide (x4 ≤ vl a) <;> cases x12 == 0 <;> simp
  rcases hc with t1 | ⟨t1, t2⟩ | ⟨t1, t2, t3⟩ | ⟨t1, t2, t3, t4⟩ | ⟨t1, t2, t3, t4, t5⟩ | ⟨t1, t2, t3, t4, t5, t6⟩ | ⟨t1, t2, t3, t4, t5, t6⟩
  case _ =>
    have HR := Lib.hid (show sealR a b body = false by rw [HE.out]; simp [bne, t1])
    have u1 : (vl b != 0) = false := by simp [bne, t1]
    clear HE
    go_enter Tryz.func19, Tryz.ntmps19
    go_wp2
    go_quiet (fail)
    go_wp2
    go_ret
    rw [HR.out]
    exact ⟨rfl, below_draw (Geom.bel_alloc _ _) ⟨_, rfl⟩⟩
  case _ =>
    have HR := Lib.hid (show sealR a b body = false by rw [HE.out]; simp [bne, t1, t2])
    have u1 : (vl b != 0) = true := by simp [bne, t1]
    clear HE
    go_enter Tryz.func19, Tryz.ntmps19
    go_wp2
    go_quiet (fail)
    go_wp2
    go_ret
    rw [HR.out]
    exact ⟨rfl, below_draw (Geom.bel_alloc _ _) ⟨_, rfl⟩⟩
  case _ =>
    have HR := Lib.hid (show sealR a b body = false by rw [HE.out]; simp [bne, t1, t2, t3])
    have u1 : (vl b != 0) = true := by simp [bne, t1]
    have H16 := Lib.hid (show n = 16 by rw [beq_iff_eq] at t2; omega)
    clear HE
    go_enter Tryz.func19, Tryz.ntmps19
    go_wp2
    go_quiet (first | (go_at_call 20; with_reducible exact HG0.out H16.out _ _))
    go_wp2
    go_ret
    rw [HR.out]
    exact ⟨rfl, below_draw (Geom.bel_alloc _ _) ⟨_, rfl⟩⟩
  case _ =>
    have HR := Lib.hid (show sealR a b body = false by rw [HE.out]; simp [bne, t1, t2, t3, t4])
    have u1 : (vl b != 0) = true := by simp [bne, t1]
    have H16 := Lib.hid (show n = 16 by rw [beq_iff_eq] at t2; omega)
    clear HE
    go_enter Tryz.func19, Tryz.ntmps19
    go_wp2
    go_quiet (first | (go_at_call 20; with_reducible exact HG0.out H16.out _ _) | (go_at_call 20; with_reducible exact HG4.out H16.out _ _))
    go_wp2
    go_ret
    rw [HR.out]
    exact ⟨rfl, below_draw (Geom.bel_alloc _ _) ⟨_, rfl⟩⟩
  case _ =>
    have HR := Lib.hid (show sealR a b body = false by rw [HE.out]; simp [bne, t1, t2, t3, t4, t5])
    have u1 : (vl b != 0) = true := by simp [bne, t1]
    have H16 := Lib.hid (show n = 16 by rw [beq_iff_eq] at t2; omega)
    clear HE
    go_enter Tryz.func19, Tryz.ntmps19
    go_wp2
    go_quiet (first | (go_at_call 20; with_reducible exact HG0.out H16.out _ _) | (go_at_call 20; with_reducible exact HG4.out H16.out _ _))
    go_wp2
    go_ret
    rw [HR.out]
    exact ⟨rfl, below_draw (Geom.bel_alloc _ _) ⟨_, rfl⟩⟩
  case _ =>
    have HR := Lib.hid (show sealR a b body = false by rw [HE.out]; simp [bne, t1, t2, t3, t4, t5, t6])
    have u1 : (vl b != 0) = true := by simp [bne, t1]
    have H16 := Lib.hid (show n = 16 by rw [beq_iff_eq] at t2; omega)
    have u6 : (x12 != 0) = false := by simp [bne, t6]
    clear HE
    go_enter Tryz.func19, Tryz.ntmps19
    go_wp2
    go_quiet (first | (go_at_call 20; with_reducible exact HG0.out H16.out _ _) | (go_at_call 20; with_reducible exact HG4.out H16.out _ _) | (go_at_call 20; with_reducible exact HG12.out H16.out _ _))
    go_wp2
    go_ret
    rw [HR.out]
    exact ⟨rfl, below_draw (Geom.bel_alloc _ _) ⟨_, rfl⟩⟩
  case _ =>
    have HR := Lib.hid (show sealR a b body = true by rw [HE.out]; simp [bne, t1, t2, t3, t4, t5, t6])
    have u1 : (vl b != 0) = true := by simp [bne, t1]
    have H16 := Lib.hid (show n = 16 by rw [beq_iff_eq] at t2; omega)
    have u6 : (x12 != 0) = true := by simp [bne, t6]
    clear HE
    go_enter Tryz.func19, Tryz.ntmps19
    go_wp2
    go_quiet (first | (go_at_call 20; with_reducible exact HG0.out H16.out _ _) | (go_at_call 20; with_reducible exact HG4.out H16.out _ _) | (go_at_call 20; with_reducible exact HG12.out H16.out _ _))
    go_wp2
    go_ret
    rw [HR.out]
    exact ⟨rfl, below_draw (Geom.bel_alloc _ _) ⟨_, rfl⟩⟩
set_option maxRecDepth 100000 in
set_option maxHeartbeats 16000000 in
theorem refPiece_floor (a b : W) (body : List UInt8) (hs : body.length ≤ maxLen) (h1 : decide (vl a < 1) = false) (h2 : decide (2147483647 < vl a) = false) (w : World) :
    Calls Tryz.prog 19 #[fV ⟨4, a, b, body⟩] w fun e w' => e = .returned (.bool (floorR a body)) ∧ Below w.heap.size w w' := by
  have HG0 : Hid (body.length = 4 → ∀ (w : World) (k : Nat), Calls Tryz.prog 20 #[.string (bs body), .int .i64 0] (w.drewN k) fun e w' => e = .returned (.int .u32 (le4 body 0)) ∧ ∃ n, w' = w.drewN n) := fun hk w k => quietGet body hs 0 (by omega) w k
  unfold fV
  simp only
  have hz : ((bs body).size : Int) = (body.length : Int) := by rw [bs_size]
  obtain ⟨B, hB⟩ : ∃ B, B = bs body := ⟨_, rfl⟩
  rw [← hB] at HG0 hz ⊢
  have HE := Lib.hid (show floorR a body = (((body.length : Int) == 4) && decide (le4 body 0 ≤ vl a)) from rfl)
  obtain ⟨n, hn⟩ : ∃ n : Nat, n = body.length := ⟨_, rfl⟩
  rw [← hn] at HE HG0 hz
  obtain ⟨x0, hx0⟩ : ∃ x0, x0 = le4 body 0 := ⟨_, rfl⟩
  rw [← hx0] at HE HG0
  clear hn hB hs hx0
  have hc : ((n : Int) == 4) = false ∨ (((n : Int) == 4) = true ∧ decide (x0 ≤ vl a) = false) ∨ (((n : Int) == 4) = true ∧ decide (x0 ≤ vl a) = true) := by
    cases (n : Int) == 4 <;> cases decide (x0 ≤ vl a) <;> simp
  rcases hc with t1 | ⟨t1, t2⟩ | ⟨t1, t2⟩
  case _ =>
    have HR := Lib.hid (show floorR a body = false by rw [HE.out]; simp [t1])
    clear HE
    go_enter Tryz.func19, Tryz.ntmps19
    go_wp2
    go_quiet (fail)
    go_wp2
    go_ret
    rw [HR.out]
    exact ⟨rfl, below_draw (Geom.bel_alloc _ _) ⟨_, rfl⟩⟩
  case _ =>
    have HR := Lib.hid (show floorR a body = false by rw [HE.out]; simp [t1, t2])
    have H16 := Lib.hid (show n = 4 by rw [beq_iff_eq] at t1; omega)
    clear HE
    go_enter Tryz.func19, Tryz.ntmps19
    go_wp2
    go_quiet ((go_at_call 20; with_reducible exact HG0.out H16.out _ _))
    go_wp2
    go_ret
    rw [HR.out]
    exact ⟨rfl, below_draw (Geom.bel_alloc _ _) ⟨_, rfl⟩⟩
  case _ =>
    have HR := Lib.hid (show floorR a body = true by rw [HE.out]; simp [t1, t2])
    have H16 := Lib.hid (show n = 4 by rw [beq_iff_eq] at t1; omega)
    clear HE
    go_enter Tryz.func19, Tryz.ntmps19
    go_wp2
    go_quiet ((go_at_call 20; with_reducible exact HG0.out H16.out _ _))
    go_wp2
    go_ret
    rw [HR.out]
    exact ⟨rfl, below_draw (Geom.bel_alloc _ _) ⟨_, rfl⟩⟩
theorem refPiece_any (f : Fr) (hs : f.body.length ≤ maxLen) (w : World) :
    Calls Tryz.prog 19 #[fV f] w fun e w' => e = .returned (.bool (pieceR f)) ∧ Below w.heap.size w w' := by
  by_cases h1 : decide (vl f.a < 1) = true
  · exact refPiece_out f (.inl h1) w
  have h1 : decide (vl f.a < 1) = false := by simpa using h1
  by_cases h2 : decide (2147483647 < vl f.a) = true
  · exact refPiece_out f (.inr ⟨h1, h2⟩) w
  have h2 : decide (2147483647 < vl f.a) = false := by simpa using h2
  by_cases h3 : f.kind = 3
  · have e := pieceR_at (isSeq_true h1 h2)
    obtain ⟨kd, a, b, body⟩ := f
    simp only at h3 e
    subst h3
    rw [e]
    exact refPiece_seal a b body hs h1 h2 w
  by_cases h4 : f.kind = 4
  · have e := pieceR_at (isSeq_true h1 h2)
    obtain ⟨kd, a, b, body⟩ := f
    simp only at h4 e
    subst h4
    rw [e]
    exact refPiece_floor a b body hs h1 h2 w
  exact refPiece_plain f h1 h2 ⟨h3, h4⟩ w
end Go.Proofs.YtligapgjdpdihaaGreatDoor.Piece
/-
  What package piece's small functions answer: isSeq, right, Kind, body, sealOf, floorOf, checked, AsPart, AsSeal, AsFloor.
-/
set_option linter.unusedVariables false
set_option linter.unusedSimpArgs false
namespace Go.Proofs.YtligapgjdpdihaaGreatDoor.Piece
open Go.RowKit
open CrcM (W)
open Crc (le4 sumOf vl wd putS)
open Flash (bs bs_size bs_list list_bs)
open Go.Proofs.YtligapgjdpdihaaGreatDoor.Frame (Fr zeroF fV bel2 below_drewN)
open Tup Bytes Own
open Go.Proofs.YtligapgjdpdihaaGreatDoor.Region (fill Then Deps Each wp_region_is wp_region_is_tail wp_region_each wp_region_tail)

def headV (e r : W) : Value := .agg #[.int .u32 (vl e), .int .u32 (vl r)]
def partV (s a : W) (t : List UInt8) : Value := .agg #[.int .u32 (vl s), .int .u32 (vl a), .string (bs t)]
def sealV (s p v f u z : W) : Value := .agg #[.int .u32 (vl s), .int .u32 (vl p), .int .u32 (vl v), .int .u32 (vl f), .int .u32 (vl u), .int .u32 (vl z)]
def floorV (s g f : W) : Value := .agg #[.int .u32 (vl s), .int .u32 (vl g), .int .u32 (vl f)]
/-- a piece as a value -/
def pcV : Pc → Value
  | .none => .nilIface
  | .head e r => .iface 108 (headV e r)
  | .part s a t => .iface 81 (partV s a t)
  | .fin s p v f u z => .iface 46 (sealV s p v f u z)
  | .floor s g f => .iface 112 (floorV s g f)
def partR (s : W) (t : List UInt8) : Bool := isSeqB s && !t.isEmpty
def sealPR (s p v f z : W) : Bool := isSeqB s && decide (0 < vl p) && decide (vl v < vl s) && decide (1 ≤ vl f) && decide (vl f ≤ vl s) && decide (0 < vl z)
def floorPR (s f : W) : Bool := isSeqB s && decide (vl f ≤ vl s)
theorem isSeq_any (x : W) (w : World) : Calls Tryz.prog 87 #[.int .u32 (vl x)] w fun e w' => e = .returned (.bool (isSeqB x)) ∧ w = w' := by
  unfold isSeqB
  generalize vl x = v
  cases h1 : decide (1 ≤ v) <;> cases h2 : decide (v ≤ 2147483647)
  all_goals
    go_enter Tryz.func87, Tryz.ntmps87
    go_wp2
    go_ret
    exact ⟨rfl, rfl⟩
theorem headRight_any (e r : W) (w : World) : Calls Tryz.prog 63 #[headV e r] w fun e' w' => e' = .returned (.bool (isSeqB e)) ∧ Below w.heap.size w w' := by
  have HS := Lib.hid (fun w => isSeq_any e w)
  unfold headV
  generalize isSeqB e = B at *
  go_enter Tryz.func63, Tryz.ntmps63
  go_wp2_with (go_at_call 87; (with_reducible refine (HS.out _).mono ?_); rintro e w5 ⟨rfl, rfl⟩)
  go_ret
  exact ⟨rfl, Geom.bel_alloc _ _⟩
theorem partRight_any (s a : W) (t : List UInt8) (w : World) : Calls Tryz.prog 65 #[partV s a t] w fun e' w' => e' = .returned (.bool (partR s t)) ∧ Below w.heap.size w w' := by
  have HS := Lib.hid (fun w => isSeq_any s w)
  unfold partV partR
  have hem := bs_empty t
  obtain ⟨B, hB⟩ : ∃ B, B = bs t := ⟨_, rfl⟩
  rw [← hB] at hem ⊢
  clear hB
  generalize isSeqB s = q at *
  generalize t.isEmpty = z at *
  cases q <;> cases z
  all_goals
    go_enter Tryz.func65, Tryz.ntmps65
    go_wp2_with (go_at_call 87; (with_reducible refine (HS.out _).mono ?_); rintro e w5 ⟨rfl, rfl⟩)
    go_ret
    exact ⟨rfl, Geom.bel_alloc _ _⟩
theorem sealRight_any (s p v f u z : W) (w : World) : Calls Tryz.prog 67 #[sealV s p v f u z] w fun e' w' => e' = .returned (.bool (sealPR s p v f z)) ∧ Below w.heap.size w w' := by
  have HS := Lib.hid (fun w => isSeq_any s w)
  unfold sealV
  have HR := Lib.hid (show sealPR s p v f z = (isSeqB s && decide (0 < vl p) && decide (vl v < vl s) && decide (1 ≤ vl f) && decide (vl f ≤ vl s) && decide (0 < vl z)) from rfl)
  generalize isSeqB s = q at *
  obtain ⟨S, hS⟩ : ∃ S, S = sealPR s p v f z := ⟨_, rfl⟩
  rw [← hS] at HR ⊢
  clear hS
  generalize vl s = s at *
  generalize vl p = p at *
  generalize vl v = v at *
  generalize vl f = f at *
  generalize vl u = u at *
  generalize vl z = z at *
  have hc : q = false ∨ (q = true ∧ decide (0 < p) = false) ∨ (q = true ∧ decide (0 < p) = true ∧ decide (v < s) = false) ∨ (q = true ∧ decide (0 < p) = true ∧ decide (v < s) = true ∧ decide (1 ≤ f) = false) ∨ (q = true ∧ decide (0 < p) = true ∧ decide (v < s) = true ∧ decide (1 ≤ f) = true ∧ decide (f ≤ s) = false) ∨ (q = true ∧ decide (0 < p) = true ∧ decide (v < s) = true ∧ decide (1 ≤ f) = true ∧ decide (f ≤ s) = true ∧ decide (0 < z) = false) ∨ (q = true ∧ decide (0 < p) = true ∧ decide (v < s) = true ∧ decide (1 ≤ f) = true ∧ decide (f ≤ s) = true ∧ decide (0 < z) = true) := by
    cases q <;> cases decide (0 < p) <;> cases decide (v < s) <;> cases decide (1 ≤ f) <;> cases decide (f ≤ s) <;> cases decide (0 < z) <;> simp
  rcases hc with rfl | ⟨rfl, t2⟩ | ⟨rfl, t2, t3⟩ | ⟨rfl, t2, t3, t4⟩ | ⟨rfl, t2, t3, t4, t5⟩ | ⟨rfl, t2, t3, t4, t5, t6⟩ | ⟨rfl, t2, t3, t4, t5, t6⟩
  all_goals
    go_enter Tryz.func67, Tryz.ntmps67
    go_wp2_with (go_at_call 87; (with_reducible refine (HS.out _).mono ?_); rintro e w5 ⟨rfl, rfl⟩)
    go_ret
    rw [HR.out]
    refine ⟨?_, Geom.bel_alloc _ _⟩
    first | rfl | (simp only [*, Bool.and_true, Bool.and_false, Bool.true_and, Bool.false_and]; rfl)
theorem floorRight_any (s g f : W) (w : World) : Calls Tryz.prog 70 #[floorV s g f] w fun e' w' => e' = .returned (.bool (floorPR s f)) ∧ Below w.heap.size w w' := by
  have HS := Lib.hid (fun w => isSeq_any s w)
  unfold floorV floorPR
  generalize isSeqB s = q at *
  generalize vl s = s at *
  generalize vl g = g at *
  generalize vl f = f at *
  cases q <;> cases h : decide (f ≤ s)
  all_goals
    go_enter Tryz.func70, Tryz.ntmps70
    go_wp2_with (go_at_call 87; (with_reducible refine (HS.out _).mono ?_); rintro e w5 ⟨rfl, rfl⟩)
    go_ret
    exact ⟨rfl, Geom.bel_alloc _ _⟩
theorem headKind_any (e r : W) (w : World) : Calls Tryz.prog 64 #[headV e r] w fun e' w' => e' = .returned (.int .i64 1) ∧ Below w.heap.size w w' := by
  unfold headV
  go_enter Tryz.func64, Tryz.ntmps64
  go_wp2
  go_ret
  exact ⟨rfl, Geom.bel_alloc _ _⟩
theorem partKind_any (s a : W) (t : List UInt8) (w : World) : Calls Tryz.prog 66 #[partV s a t] w fun e' w' => e' = .returned (.int .i64 2) ∧ Below w.heap.size w w' := by
  unfold partV
  go_enter Tryz.func66, Tryz.ntmps66
  go_wp2
  go_ret
  exact ⟨rfl, Geom.bel_alloc _ _⟩
theorem sealKind_any (s p v f u z : W) (w : World) : Calls Tryz.prog 68 #[sealV s p v f u z] w fun e' w' => e' = .returned (.int .i64 3) ∧ Below w.heap.size w w' := by
  unfold sealV
  go_enter Tryz.func68, Tryz.ntmps68
  go_wp2
  go_ret
  exact ⟨rfl, Geom.bel_alloc _ _⟩
theorem floorKind_any (s g f : W) (w : World) : Calls Tryz.prog 71 #[floorV s g f] w fun e' w' => e' = .returned (.int .i64 4) ∧ Below w.heap.size w w' := by
  unfold floorV
  go_enter Tryz.func71, Tryz.ntmps71
  go_wp2
  go_ret
  exact ⟨rfl, Geom.bel_alloc _ _⟩
theorem wd_le4 (l : List UInt8) (k : Nat) : vl (wd (le4 l k)) = le4 l k := by
  have h : ∀ j, (0 : Int) ≤ ((l.getD j 0).toNat : Int) ∧ ((l.getD j 0).toNat : Int) ≤ 255 := fun j => by have := (l.getD j 0).toNat_lt; omega
  have h0 := h k; have h1 := h (k + 1); have h2 := h (k + 2); have h3 := h (k + 3)
  refine Crc.vl_wd ?_ ?_ <;> unfold le4 <;> omega
/-- a number of a text, 0 where there are not four bytes -/
def getZ (l : List UInt8) (k : Nat) : W := if k + 4 ≤ l.length then wd (le4 l k) else 0#32
theorem getZ_any (l : List UInt8) (hl : l.length ≤ maxLen) (k : Nat) (hk : k ≤ 1000) (x : Int) (hx : x = (k : Int)) (w : World) : Calls Tryz.prog 88 #[.string (bs l), .int .i64 x] w fun e w' => e = .returned (.tuple #[.int .u32 (vl (getZ l k)), .bool (decide (k + 4 ≤ l.length))]) ∧ Below w.heap.size w w' := by
  subst hx
  unfold getZ
  by_cases h : k + 4 ≤ l.length
  · rw [if_pos h, decide_eq_true h]
    have := Crc.get_yes (bs l) (by rw [bs_size]; exact hl) k (by rw [bs_size]; exact h) w
    rw [list_bs] at this
    refine this.mono ?_
    rintro e w' ⟨rfl, n, rfl⟩
    refine ⟨?_, Crc.belD ⟨n, rfl⟩⟩
    rw [wd_le4]
  · rw [if_neg h, decide_eq_false h]
    refine (Crc.get_few (bs l) (by rw [bs_size]; exact hl) (k : Int) (by omega) (by omega) (by rw [bs_size]; omega) w).mono ?_
    rintro e w' ⟨rfl, rfl⟩
    exact ⟨rfl, Below.refl _ _⟩
def sealOfF (f : Fr) : Value := sealV f.a f.b (getZ f.body 0) (getZ f.body 4) (getZ f.body 8) (getZ f.body 12)
def floorOfF (f : Fr) : Value := floorV f.a f.b (getZ f.body 0)
def checkedF (r : Bool) (f : Fr) : Fr × Nat := if r = true then (f, 0) else (zeroF, 2)
set_option maxRecDepth 100000 in
theorem checked_any (r : Bool) (f : Fr) (w : World) : Calls Tryz.prog 62 #[.bool r, fV f] w fun e w' => e = .returned (.tuple #[fV (checkedF r f).1, .int .i64 ((checkedF r f).2 : Int)]) ∧ Below w.heap.size w w' := by
  obtain ⟨kd, a, b, body⟩ := f
  unfold checkedF
  cases r
  · rw [if_neg (by simp)]
    unfold fV
    simp only [zeroF]
    go_enter Tryz.func62, Tryz.ntmps62
    go_wp2
    refine bodyPost_ret (v := .tuple #[.agg #[.int .i64 0, .int .u32 0, .int .u32 0, .string ⟨#[]⟩], .int .i64 2]) (by rw [results_cell_tmp rfl]; simp [go_sem]) rfl ?_
    exact ⟨rfl, bel2 (Geom.bel_alloc _ _) (Geom.bel_alloc _ _)⟩
  · rw [if_pos rfl]
    unfold fV
    simp only
    obtain ⟨B, hB⟩ : ∃ B, B = bs body := ⟨_, rfl⟩
    rw [← hB]
    clear hB
    go_enter Tryz.func62, Tryz.ntmps62
    go_wp2
    refine bodyPost_ret (v := .tuple #[.agg #[.int .i64 kd, .int .u32 (vl a), .int .u32 (vl b), .string B], .int .i64 0]) (by rw [results_cell_tmp rfl]; simp [go_sem]) rfl ?_
    exact ⟨rfl, bel2 (Geom.bel_alloc _ _) (Geom.bel_alloc _ _)⟩
set_option maxRecDepth 100000 in
theorem floorOf_any (f : Fr) (hs : f.body.length ≤ maxLen) (w : World) : Calls Tryz.prog 75 #[fV f] w fun e w' => e = .returned (floorOfF f) ∧ Below w.heap.size w w' := by
  have HG := Lib.hid (fun w => getZ_any f.body hs 0 (by omega) 0 rfl w)
  obtain ⟨kd, a, b, body⟩ := f
  unfold floorOfF floorV fV
  simp only at HG ⊢
  obtain ⟨B, hB⟩ : ∃ B, B = bs body := ⟨_, rfl⟩
  rw [← hB] at HG ⊢
  clear hB
  generalize getZ body 0 = g0 at *
  generalize decide (0 + 4 ≤ body.length) = d0 at *
  have HV := Lib.hid ((Var.new w 29 [.int .i64 kd, .int .u32 (vl a), .int .u32 (vl b), .string B]).alloc (.cells #[.int .u32 0, .int .u32 0, .int .u32 0] 112))
  have HR := Lib.hid (Var.new (w.alloc (.cells #[.int .i64 kd, .int .u32 (vl a), .int .u32 (vl b), .string B] 29)) 112 [.int .u32 0, .int .u32 0, .int .u32 0])
  have hsz1 : (w.alloc (.cells #[.int .i64 kd, .int .u32 (vl a), .int .u32 (vl b), .string B] 29)).heap.size = w.heap.size + 1 := by simp
  rw [hsz1] at HR
  obtain ⟨w1, hw1⟩ : ∃ w1, w1 = (w.alloc (.cells #[.int .i64 kd, .int .u32 (vl a), .int .u32 (vl b), .string B] 29)).alloc (.cells #[.int .u32 0, .int .u32 0, .int .u32 0] 112) := ⟨_, rfl⟩
  have HB1 := Lib.hid (show Below w.heap.size w w1 by rw [hw1]; exact bel2 (Geom.bel_alloc _ _) (Geom.bel_alloc _ _))
  have HV1 := Lib.hid (show Var w1 w.heap.size 29 [.int .i64 kd, .int .u32 (vl a), .int .u32 (vl b), .string B] by rw [hw1]; exact HV.out)
  have HR1 := Lib.hid (show Var w1 (w.heap.size + 1) 112 [.int .u32 0, .int .u32 0, .int .u32 0] by rw [hw1]; exact HR.out)
  go_enter Tryz.func75, Tryz.ntmps75
  go_wp2_with (go_at_call 88; (with_reducible refine (HG.out _).mono ?_); rintro e w5 ⟨rfl, b50⟩; have b5 : Below w1.heap.size w1 w5 := (by rw [hw1]; exact b50); clear b50; have BW5 := Lib.hid (bel2 HB1.out b5); have v5 := HV1.out.below b5 HV1.out.lt; have VR5 := Lib.hid (HR1.out.below b5 HR1.out.lt); have k1 := v5.cell (j := 1) rfl; have k2 := v5.cell (j := 2) rfl; clear v5; have r5 := VR5.out; have r0 := r5.cell (j := 0) rfl; have r1 := r5.cell (j := 1) rfl; have r2 := r5.cell (j := 2) rfl; have f0 := r5.frozen 0; have f1 := r5.frozen 1; have f2 := r5.frozen 2; clear r5)
  have vr := ((VR5.out.set 0 (.int .u32 (vl a))).set 1 (.int .u32 (vl b))).set 2 (.int .u32 (vl g0))
  have z0 := vr.cell (j := 0) rfl
  have z1 := vr.cell (j := 1) rfl
  have z2 := vr.cell (j := 2) rfl
  clear r0 r1 r2 f0 f1 f2 vr
  refine bodyPost_ret (v := .agg #[.int .u32 (vl a), .int .u32 (vl b), .int .u32 (vl g0)]) (by simp [results, Tryz.results75, go_sem, z0, z1, z2]) rfl ?_
  exact ⟨rfl, ((BW5.out.setCell (p := ⟨w.heap.size + 1, 0, none⟩) (by simp only; omega) _).setCell (p := ⟨w.heap.size + 1, 1, none⟩) (by simp only; omega) _).setCell (p := ⟨w.heap.size + 1, 2, none⟩) (by simp only; omega) _⟩
theorem taHead_nil (w : World) : (Instr.typeAssert .nilIface 72 108 true).run Tryz.prog w = .ok (.tuple #[.agg #[.int .u32 0, .int .u32 0], .bool false]) w := by kernel_rfl
theorem taHead_Head (v : Value) (w : World) : (Instr.typeAssert (.iface 108 v) 72 108 true).run Tryz.prog w = .ok (.tuple #[v, .bool true]) w := by kernel_rfl
theorem taHead_Part (v : Value) (w : World) : (Instr.typeAssert (.iface 81 v) 72 108 true).run Tryz.prog w = .ok (.tuple #[.agg #[.int .u32 0, .int .u32 0], .bool false]) w := by kernel_rfl
theorem taHead_Seal (v : Value) (w : World) : (Instr.typeAssert (.iface 46 v) 72 108 true).run Tryz.prog w = .ok (.tuple #[.agg #[.int .u32 0, .int .u32 0], .bool false]) w := by kernel_rfl
theorem taHead_Floor (v : Value) (w : World) : (Instr.typeAssert (.iface 112 v) 72 108 true).run Tryz.prog w = .ok (.tuple #[.agg #[.int .u32 0, .int .u32 0], .bool false]) w := by kernel_rfl
theorem taPart_nil (w : World) : (Instr.typeAssert .nilIface 72 81 true).run Tryz.prog w = .ok (.tuple #[.agg #[.int .u32 0, .int .u32 0, .string ⟨#[]⟩], .bool false]) w := by kernel_rfl
theorem taPart_Head (v : Value) (w : World) : (Instr.typeAssert (.iface 108 v) 72 81 true).run Tryz.prog w = .ok (.tuple #[.agg #[.int .u32 0, .int .u32 0, .string ⟨#[]⟩], .bool false]) w := by kernel_rfl
theorem taPart_Part (v : Value) (w : World) : (Instr.typeAssert (.iface 81 v) 72 81 true).run Tryz.prog w = .ok (.tuple #[v, .bool true]) w := by kernel_rfl
theorem taPart_Seal (v : Value) (w : World) : (Instr.typeAssert (.iface 46 v) 72 81 true).run Tryz.prog w = .ok (.tuple #[.agg #[.int .u32 0, .int .u32 0, .string ⟨#[]⟩], .bool false]) w := by kernel_rfl
theorem taPart_Floor (v : Value) (w : World) : (Instr.typeAssert (.iface 112 v) 72 81 true).run Tryz.prog w = .ok (.tuple #[.agg #[.int .u32 0, .int .u32 0, .string ⟨#[]⟩], .bool false]) w := by kernel_rfl
theorem taSeal_nil (w : World) : (Instr.typeAssert .nilIface 72 46 true).run Tryz.prog w = .ok (.tuple #[.agg #[.int .u32 0, .int .u32 0, .int .u32 0, .int .u32 0, .int .u32 0, .int .u32 0], .bool false]) w := by kernel_rfl
theorem taSeal_Head (v : Value) (w : World) : (Instr.typeAssert (.iface 108 v) 72 46 true).run Tryz.prog w = .ok (.tuple #[.agg #[.int .u32 0, .int .u32 0, .int .u32 0, .int .u32 0, .int .u32 0, .int .u32 0], .bool false]) w := by kernel_rfl
theorem taSeal_Part (v : Value) (w : World) : (Instr.typeAssert (.iface 81 v) 72 46 true).run Tryz.prog w = .ok (.tuple #[.agg #[.int .u32 0, .int .u32 0, .int .u32 0, .int .u32 0, .int .u32 0, .int .u32 0], .bool false]) w := by kernel_rfl
theorem taSeal_Seal (v : Value) (w : World) : (Instr.typeAssert (.iface 46 v) 72 46 true).run Tryz.prog w = .ok (.tuple #[v, .bool true]) w := by kernel_rfl
theorem taSeal_Floor (v : Value) (w : World) : (Instr.typeAssert (.iface 112 v) 72 46 true).run Tryz.prog w = .ok (.tuple #[.agg #[.int .u32 0, .int .u32 0, .int .u32 0, .int .u32 0, .int .u32 0, .int .u32 0], .bool false]) w := by kernel_rfl
theorem taFloor_nil (w : World) : (Instr.typeAssert .nilIface 72 112 true).run Tryz.prog w = .ok (.tuple #[.agg #[.int .u32 0, .int .u32 0, .int .u32 0], .bool false]) w := by kernel_rfl
theorem taFloor_Head (v : Value) (w : World) : (Instr.typeAssert (.iface 108 v) 72 112 true).run Tryz.prog w = .ok (.tuple #[.agg #[.int .u32 0, .int .u32 0, .int .u32 0], .bool false]) w := by kernel_rfl
theorem taFloor_Part (v : Value) (w : World) : (Instr.typeAssert (.iface 81 v) 72 112 true).run Tryz.prog w = .ok (.tuple #[.agg #[.int .u32 0, .int .u32 0, .int .u32 0], .bool false]) w := by kernel_rfl
theorem taFloor_Seal (v : Value) (w : World) : (Instr.typeAssert (.iface 46 v) 72 112 true).run Tryz.prog w = .ok (.tuple #[.agg #[.int .u32 0, .int .u32 0, .int .u32 0], .bool false]) w := by kernel_rfl
theorem taFloor_Floor (v : Value) (w : World) : (Instr.typeAssert (.iface 112 v) 72 112 true).run Tryz.prog w = .ok (.tuple #[v, .bool true]) w := by kernel_rfl

/-- a variable, where another one is written -/
theorem Var.othr2 {w : World} {k : Nat} {t : TypeId} {cs : List Value} (h : Var w k t cs) (p : Addr) (v : Value) (hp : k ≠ p.block) : Var (w.setCell p v) k t cs := (Foot.Grows.set (S := fun j => j = p.block) w p v rfl).var h hp
end Go.Proofs.YtligapgjdpdihaaGreatDoor.Piece
