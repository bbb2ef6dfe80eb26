/-
  Joined texts: RefFrame, RefPiece, PieceXa, PieceXb.
-/
import Derived.Test.YtligapgjdpdihaaDoorRunFrameM
import Derived.Test.YtligapgjdpdihaaDoorRunFlashA
import Derived.Test.YtligapgjdpdihaaDoorRunGeomA
import Derived.Test.YtligapgjdpdihaaDoorRunRegion
import Derived.Deep.QuietTactic
import Derived.BigQuiet
import Derived.Laws.ResultCell
import Derived.Test.YtligapgjdpdihaaDoorRunTup
/-
  What the document's own page, FrameBytes answer.
-/
set_option linter.unusedVariables false
set_option linter.unusedSimpArgs false
namespace Go.Proofs.YtligapgjdpdihaaDoor.Frame
open Go.RowKit
open CrcM (W)
open Crc (le4 sumOf vl wd putS)
open Flash (bs bs_size bs_list list_bs)
open Tup Bytes
open Go.Proofs.YtligapgjdpdihaaDoor.Region (fill Then Deps Each wp_region_is wp_region_is_tail wp_region_each wp_region_tail)

theorem below_drewN (w : World) (k : Nat) : Below w.heap.size w (w.drewN k) := ⟨rfl, rfl, rfl, Nat.le_refl _, fun _ _ => rfl⟩
theorem bel2 {a w1 w2 : World} (h : Below a.heap.size a w1) (k : Below w1.heap.size w1 w2) : Below a.heap.size a w2 := h.trans (k.mono h.size)
/-- a frame as a value -/
def fV (f : Fr) : Value := .agg #[.int .i64 f.kind, .int .u32 (vl f.a), .int .u32 (vl f.b), .string (bs f.body)]
def fC (f : Fr) : List Value := [.int .i64 f.kind, .int .u32 (vl f.a), .int .u32 (vl f.b), .string (bs f.body)]
/-- a slice of these bytes, somewhere -/
def BytesAt (w : World) (v : Value) (l : List UInt8) : Prop := ∃ g c, v = .slice (some ⟨g, 0, none⟩) l.length c ∧ Row8 w g l
theorem BytesAt.below {w w' : World} {v : Value} {l : List UInt8} (h : BytesAt w v l) (hb : Below w.heap.size w w') : BytesAt w' v l := by
  obtain ⟨g, c, e, r⟩ := h
  exact ⟨g, c, e, r.below hb⟩
/-- the values of a region's operations, some of them rows of bytes -/
def VB (tab : List Value) (bts : List (Nat × List UInt8)) : Nat → Value → World → Prop := fun i v w => match bts.lookup i with | some l => BytesAt w v l | none => v = tab.getD i undef
theorem VB.mono (tab : List Value) (bts : List (Nat × List UInt8)) : ∀ i v w w', VB tab bts i v w → Below w.heap.size w w' → VB tab bts i v w' := by
  intro i v w w' h hb
  unfold VB at h ⊢
  split <;> rename_i e
  · rw [e] at h; exact BytesAt.below h hb
  · rw [e] at h; exact h
theorem row_new (w : World) (t : TypeId) (l : List UInt8) : Row8 (w.alloc (.cells (l.map fun c => Value.int .u8 (c.toNat : Int)).toArray t)) w.heap.size l := fun j hj => by
  refine ⟨?_, ?_⟩
  · have := (lies_new w (l.map fun c => Value.int .u8 (c.toNat : Int)) t) j (.int .u8 ((l.getD j 0).toNat : Int)) (by rw [List.getElem?_map, List.getElem?_eq_getElem hj, List.getD_eq_getElem?_getD, List.getElem?_eq_getElem hj]; rfl)
    rwa [Nat.zero_add] at this
  · exact (Var.new w t (l.map fun c => Value.int .u8 (c.toNat : Int))).frozen j
theorem mask255 (n : Nat) (h : n < 4294967296) : bits .and .u32 (n : Int) 255 = ((n % 256 : Nat) : Int) := by
  have := u32_and_nat n 255 h (by decide)
  rw [show n &&& 255 = n % 256 from Nat.and_two_pow_sub_one_eq_mod n 8] at this
  exact this
theorem i64_and255 (n : Int) : bits .and .i64 n 255 = n % 256 := by
  have h255 : (BitVec.ofInt 64 255).toNat = 2 ^ 8 - 1 := by decide
  have key : (BitVec.ofInt 64 n &&& BitVec.ofInt 64 255).toNat = (n % ((2 ^ 64 : Nat) : Int)).toNat % 2 ^ 8 := by
    rw [BitVec.toNat_and, BitVec.toNat_ofInt, h255, Nat.and_two_pow_sub_one_eq_mod]
  show IntKind.i64.wrap ((BitVec.ofInt 64 n &&& BitVec.ofInt 64 255).toNat : Nat) = n % 256
  rw [key, IntKind.wrap_i64]
  omega
set_option maxRecDepth 100000 in
theorem refPut_any (x : W) (w : World) :
    Calls Tryd.prog 35 #[.int .u32 (vl x)] w fun e w' => e = .returned (.string (putS x)) ∧ Below w.heap.size w w' := by
  have hx := x.isLt
  obtain ⟨n, hn⟩ : ∃ n, n = x.toNat := ⟨_, rfl⟩
  have hv : vl x = (n : Int) := by unfold vl; rw [hn]
  rw [← hn] at hx
  have m0 := mask255 n hx
  have m1 := mask255 (n / 256) (by omega)
  have m2 := mask255 (n / 65536) (by omega)
  obtain ⟨n0, h0⟩ : ∃ n0, n0 = n % 256 := ⟨_, rfl⟩
  obtain ⟨n1, h1⟩ : ∃ n1, n1 = n / 256 % 256 := ⟨_, rfl⟩
  obtain ⟨n2, h2⟩ : ∃ n2, n2 = n / 65536 % 256 := ⟨_, rfl⟩
  obtain ⟨n3, h3⟩ : ∃ n3, n3 = n / 16777216 := ⟨_, rfl⟩
  rw [← h0] at m0
  rw [← h1] at m1
  rw [← h2] at m2
  have d1 : (n : Int) / 256 = ((n / 256 : Nat) : Int) := rfl
  have d2 : (n : Int) / 65536 = ((n / 65536 : Nat) : Int) := rfl
  have d3 : (n : Int) / 16777216 = (n3 : Int) := by rw [h3]; rfl
  rw [← d1] at m1
  rw [← d2] at m2
  have l0 : n0 < 256 := by omega
  have l1 : n1 < 256 := by omega
  have l2 : n2 < 256 := by omega
  have l3 : n3 < 256 := by omega
  have HE := Lib.hid (show putS x = bs [u8 n0, u8 n1, u8 n2, u8 n3] by
    unfold putS bs CrcM.put u8
    rw [← hn, h0, h1, h2, h3]
    rw [Nat.mod_eq_of_lt (show n / 16777216 < 256 by omega)])
  rw [hv]
  have htx := (row_new w 5 [u8 n0, u8 n1, u8 n2, u8 n3]).text (P := Tryd.prog) 50 9 5 4 Tryd.underlying50 Tryd.underlying5 Tryd.underlying9 4 rfl
  simp only [List.map_cons, List.map_nil, u8_int l0, u8_int l1, u8_int l2, u8_int l3] at htx
  have HB := Lib.hid (Geom.bel_alloc w (.cells #[.int .u8 (n0 : Int), .int .u8 (n1 : Int), .int .u8 (n2 : Int), .int .u8 (n3 : Int)] 5))
  clear hv hn h0 h1 h2 h3 d1 d2
  go_enter Tryd.func35, Tryd.ntmps35
  go_wp2
  go_ret
  rw [HE.out]
  exact ⟨rfl, HB.out⟩
end Go.Proofs.YtligapgjdpdihaaDoor.Frame
/-
  What the document's own PieceRight answers.
-/
set_option linter.unusedVariables false
set_option linter.unusedSimpArgs false
namespace Go.Proofs.YtligapgjdpdihaaDoor.Piece
open Go.RowKit
open CrcM (W)
open Crc (le4 sumOf vl wd putS)
open Flash (bs bs_size bs_list list_bs)
open Go.Proofs.YtligapgjdpdihaaDoor.Frame (Fr zeroF fV bel2 below_drewN)
open Tup Bytes Own

theorem eqI (a b : Int) : (a == b) = decide (a = b) := by rw [Bool.eq_iff_iff]; simp
theorem neI (a b : Int) : (a != b) = !decide (a = b) := by unfold bne; rw [eqI]
theorem isSeq_false {a : W} (h : decide (vl a < 1) = true ∨ decide (2147483647 < vl a) = true) : isSeqB a = false := by
  unfold isSeqB
  rcases h with h | h <;> simp only [decide_eq_true_eq] at h <;> simp <;> omega
theorem isSeq_true {a : W} (h : decide (vl a < 1) = false) (h2 : decide (2147483647 < vl a) = false) : isSeqB a = true := by
  simp only [decide_eq_false_iff_not] at h h2
  unfold isSeqB
  simp; omega
theorem pieceR_not {f : Fr} (h : isSeqB f.a = false) : pieceR f = false := by unfold pieceR; rw [h]; rfl
theorem pieceR_at {f : Fr} (h : isSeqB f.a = true) : pieceR f = (if f.kind = 1 then f.body.isEmpty else if f.kind = 2 then !f.body.isEmpty else if f.kind = 3 then sealR f.a f.b f.body else if f.kind = 4 then floorR f.a f.body else false) := by unfold pieceR; rw [h]; rfl
theorem bs_toList (l : List UInt8) : (bs l).toList = l := by rw [ByteArray.toList_eq]; rfl
theorem bs_empty (l : List UInt8) : ((bs l).toList == ([] : List UInt8)) = l.isEmpty := by
  rw [bs_toList]
  cases l <;> rfl
set_option maxRecDepth 100000 in
set_option maxHeartbeats 8000000 in
theorem refPiece_out (f : Fr) (h : decide (vl f.a < 1) = true ∨ (decide (vl f.a < 1) = false ∧ decide (2147483647 < vl f.a) = true)) (w : World) :
    Calls Tryd.prog 42 #[fV f] w fun e w' => e = .returned (.bool (pieceR f)) ∧ Below w.heap.size w w' := by
  have HE := Lib.hid (pieceR_not (f := f) (isSeq_false (by rcases h with h | h; exact .inl h; exact .inr h.2)))
  obtain ⟨kd, a, b, body⟩ := f
  unfold fV
  simp only at h ⊢
  rcases h with h1 | ⟨h1, h2⟩
  all_goals
    go_enter Tryd.func42, Tryd.ntmps42
    go_wp2
    go_ret
    rw [HE.out]
    exact ⟨rfl, Geom.bel_alloc _ _⟩
set_option maxRecDepth 100000 in
set_option maxHeartbeats 8000000 in
theorem refPiece_plain (f : Fr) (h1 : decide (vl f.a < 1) = false) (h2 : decide (2147483647 < vl f.a) = false) (hk : f.kind ≠ 3 ∧ f.kind ≠ 4) (w : World) :
    Calls Tryd.prog 42 #[fV f] w fun e w' => e = .returned (.bool (pieceR f)) ∧ Below w.heap.size w w' := by
  have HE := Lib.hid (pieceR_at (f := f) (isSeq_true h1 h2))
  obtain ⟨kd, a, b, body⟩ := f
  unfold fV
  simp only at h1 h2 hk HE ⊢
  have hem := bs_empty body
  obtain ⟨B, hB⟩ : ∃ B, B = bs body := ⟨_, rfl⟩
  rw [← hB] at hem ⊢
  have q3 : (kd == 3) = false := by rw [eqI]; exact decide_eq_false hk.1
  have q4 : (kd == 4) = false := by rw [eqI]; exact decide_eq_false hk.2
  have hc : (kd == 1) = true ∨ ((kd == 1) = false ∧ (kd == 2) = true) ∨ ((kd == 1) = false ∧ (kd == 2) = false) := by
    cases h1 : kd == 1 <;> cases h2 : kd == 2 <;> simp
  have HR := Lib.hid (show pieceR ⟨kd, a, b, body⟩ = if (kd == 1) = true then body.isEmpty else if (kd == 2) = true then !body.isEmpty else false by
    have HE := HE.out
    rw [if_neg hk.1, if_neg hk.2] at HE
    rw [HE]; simp only [beq_iff_eq])
  clear hB hk HE
  rcases hc with h3 | ⟨h3, h4⟩ | ⟨h3, h4⟩
  all_goals
    go_enter Tryd.func42, Tryd.ntmps42
    go_wp2
    go_ret
    rw [HR.out]
    first | simp only [h3, h4, if_true, Bool.false_eq_true, if_false] | simp only [h3, if_true, Bool.false_eq_true, if_false]
    first | exact ⟨rfl, Geom.bel_alloc _ _⟩ | (rw [← hem]; exact ⟨rfl, Geom.bel_alloc _ _⟩)
theorem quietGet (body : List UInt8) (hs : body.length ≤ maxLen) (j : Nat) (hj : j + 4 ≤ body.length) (w : World) (k : Nat) :
    Calls Tryd.prog 43 #[.string (bs body), .int .i64 (j : Int)] (w.drewN k) fun e w' => e = .returned (.int .u32 (le4 body j)) ∧ ∃ n, w' = w.drewN n := by
  have := Crc.refGet_any (bs body) (by rw [bs_size]; exact hs) j (by rw [bs_size]; exact hj) (w.drewN k)
  rw [list_bs] at this
  exact this.mono fun _ _ ⟨h, m, hm⟩ => ⟨h, k + m, by rw [hm, World.drewN_drewN]⟩
set_option maxRecDepth 100000 in
set_option maxHeartbeats 16000000 in
theorem refPiece_seal (a b : W) (body : List UInt8) (hs : body.length ≤ maxLen) (h1 : decide (vl a < 1) = false) (h2 : decide (2147483647 < vl a) = false) (w : World) :
    Calls Tryd.prog 42 #[fV ⟨3, a, b, body⟩] w fun e w' => e = .returned (.bool (sealR a b body)) ∧ Below w.heap.size w w' := by
  have HG0 : Hid (body.length = 16 → ∀ (w : World) (k : Nat), Calls Tryd.prog 43 #[.string (bs body), .int .i64 0] (w.drewN k) fun e w' => e = .returned (.int .u32 (le4 body 0)) ∧ ∃ n, w' = w.drewN n) := fun hk w k => quietGet body hs 0 (by omega) w k
  have HG4 : Hid (body.length = 16 → ∀ (w : World) (k : Nat), Calls Tryd.prog 43 #[.string (bs body), .int .i64 4] (w.drewN k) fun e w' => e = .returned (.int .u32 (le4 body 4)) ∧ ∃ n, w' = w.drewN n) := fun hk w k => quietGet body hs 4 (by omega) w k
  have HG12 : Hid (body.length = 16 → ∀ (w : World) (k : Nat), Calls Tryd.prog 43 #[.string (bs body), .int .i64 12] (w.drewN k) fun e w' => e = .returned (.int .u32 (le4 body 12)) ∧ ∃ n, w' = w.drewN n) := fun hk w k => quietGet body hs 12 (by omega) w k
  unfold fV
  simp only
  have hz : ((bs body).size : Int) = (body.length : Int) := by rw [bs_size]
  obtain ⟨B, hB⟩ : ∃ B, B = bs body := ⟨_, rfl⟩
  rw [← hB] at HG0 HG4 HG12 hz ⊢
  have HE := Lib.hid (show sealR a b body = ((vl b != 0) && ((body.length : Int) == 16) && decide (le4 body 0 < vl a) && decide (1 ≤ le4 body 4) && decide (le4 body 4 ≤ vl a) && (le4 body 12 != 0)) from rfl)
  obtain ⟨n, hn⟩ : ∃ n : Nat, n = body.length := ⟨_, rfl⟩
  rw [← hn] at HE HG0 HG4 HG12 hz
  obtain ⟨x0, hx0⟩ : ∃ x0, x0 = le4 body 0 := ⟨_, rfl⟩
  obtain ⟨x4, hx4⟩ : ∃ x4, x4 = le4 body 4 := ⟨_, rfl⟩
  obtain ⟨x12, hx12⟩ : ∃ x12, x12 = le4 body 12 := ⟨_, rfl⟩
  rw [← hx0, ← hx4, ← hx12] at HE
  rw [← hx0] at HG0
  rw [← hx4] at HG4
  rw [← hx12] at HG12
  clear hn hB hs hx0 hx4 hx12
  have hc : (vl b == 0) = true ∨ ((vl b == 0) = false ∧ ((n : Int) == 16) = false) ∨ ((vl b == 0) = false ∧ ((n : Int) == 16) = true ∧ decide (x0 < vl a) = false) ∨ ((vl b == 0) = false ∧ ((n : Int) == 16) = true ∧ decide (x0 < vl a) = true ∧ decide (1 ≤ x4) = false) ∨ ((vl b == 0) = false ∧ ((n : Int) == 16) = true ∧ decide (x0 < vl a) = true ∧ decide (1 ≤ x4) = true ∧ decide (x4 ≤ vl a) = false) ∨ ((vl b == 0) = false ∧ ((n : Int) == 16) = true ∧ decide (x0 < vl a) = true ∧ decide (1 ≤ x4) = true ∧ decide (x4 ≤ vl a) = true ∧ (x12 == 0) = true) ∨ ((vl b == 0) = false ∧ ((n : Int) == 16) = true ∧ decide (x0 < vl a) = true ∧ decide (1 ≤ x4) = true ∧ decide (x4 ≤ vl a) = true ∧ (x12 == 0) = false) := by
    cases vl b == 0 <;> cases (n : Int) == 16 <;> cases decide (x0 < vl a) <;> cases decide (1 ≤ x4) <;> cases decide (x4 ≤ vl a) <;> cases x12 == 0 <;> simp
  rcases hc with t1 | ⟨t1, t2⟩ | ⟨t1, t2, t3⟩ | ⟨t1, t2, t3, t4⟩ | ⟨t1, t2, t3, t4, t5⟩ | ⟨t1, t2, t3, t4, t5, t6⟩ | ⟨t1, t2, t3, t4, t5, t6⟩
  case _ =>
    have HR := Lib.hid (show sealR a b body = false by rw [HE.out]; simp [bne, t1])
    have u1 : (vl b != 0) = false := by simp [bne, t1]
    clear HE
    go_enter Tryd.func42, Tryd.ntmps42
    go_wp2
    go_quiet (fail)
    go_wp2
    go_ret
    rw [HR.out]
    exact ⟨rfl, below_draw (Geom.bel_alloc _ _) ⟨_, rfl⟩⟩
  case _ =>
    have HR := Lib.hid (show sealR a b body = false by rw [HE.out]; simp [bne, t1, t2])
    have u1 : (vl b != 0) = true := by simp [bne, t1]
    clear HE
    go_enter Tryd.func42, Tryd.ntmps42
    go_wp2
    go_quiet (fail)
    go_wp2
    go_ret
    rw [HR.out]
    exact ⟨rfl, below_draw (Geom.bel_alloc _ _) ⟨_, rfl⟩⟩
  case _ =>
    have HR := Lib.hid (show sealR a b body = false by rw [HE.out]; simp [bne, t1, t2, t3])
    have u1 : (vl b != 0) = true := by simp [bne, t1]
    have H16 := Lib.hid (show n = 16 by rw [beq_iff_eq] at t2; omega)
    clear HE
    go_enter Tryd.func42, Tryd.ntmps42
    go_wp2
    go_quiet (first | (go_at_call 43; with_reducible exact HG0.out H16.out _ _))
    go_wp2
    go_ret
    rw [HR.out]
    exact ⟨rfl, below_draw (Geom.bel_alloc _ _) ⟨_, rfl⟩⟩
  case _ =>
    have HR := Lib.hid (show sealR a b body = false by rw [HE.out]; simp [bne, t1, t2, t3, t4])
    have u1 : (vl b != 0) = true := by simp [bne, t1]
    have H16 := Lib.hid (show n = 16 by rw [beq_iff_eq] at t2; omega)
    clear HE
    go_enter Tryd.func42, Tryd.ntmps42
    go_wp2
    go_quiet (first | (go_at_call 43; with_reducible exact HG0.out H16.out _ _) | (go_at_call 43; with_reducible exact HG4.out H16.out _ _))
    go_wp2
    go_ret
    rw [HR.out]
    exact ⟨rfl, below_draw (Geom.bel_alloc _ _) ⟨_, rfl⟩⟩
  case _ =>
    have HR := Lib.hid (show sealR a b body = false by rw [HE.out]; simp [bne, t1, t2, t3, t4, t5])
    have u1 : (vl b != 0) = true := by simp [bne, t1]
    have H16 := Lib.hid (show n = 16 by rw [beq_iff_eq] at t2; omega)
    clear HE
    go_enter Tryd.func42, Tryd.ntmps42
    go_wp2
    go_quiet (first | (go_at_call 43; with_reducible exact HG0.out H16.out _ _) | (go_at_call 43; with_reducible exact HG4.out H16.out _ _))
    go_wp2
    go_ret
    rw [HR.out]
    exact ⟨rfl, below_draw (Geom.bel_alloc _ _) ⟨_, rfl⟩⟩
  case _ =>
    have HR := Lib.hid (show sealR a b body = false by rw [HE.out]; simp [bne, t1, t2, t3, t4, t5, t6])
    have u1 : (vl b != 0) = true := by simp [bne, t1]
    have H16 := Lib.hid (show n = 16 by rw [beq_iff_eq] at t2; omega)
    have u6 : (x12 != 0) = false := by simp [bne, t6]
    clear HE
    go_enter Tryd.func42, Tryd.ntmps42
    go_wp2
    go_quiet (first | (go_at_call 43; with_reducible exact HG0.out H16.out _ _) | (go_at_call 43; with_reducible exact HG4.out H16.out _ _) | (go_at_call 43; with_reducible exact HG12.out H16.out _ _))
    go_wp2
    go_ret
    rw [HR.out]
    exact ⟨rfl, below_draw (Geom.bel_alloc _ _) ⟨_, rfl⟩⟩
  case _ =>
    have HR := Lib.hid (show sealR a b body = true by rw [HE.out]; simp [bne, t1, t2, t3, t4, t5, t6])
    have u1 : (vl b != 0) = true := by simp [bne, t1]
    have H16 := Lib.hid (show n = 16 by rw [beq_iff_eq] at t2; omega)
    have u6 : (x12 != 0) = true := by simp [bne, t6]
    clear HE
    go_enter Tryd.func42, Tryd.ntmps42
    go_wp2
    go_quiet (first | (go_at_call 43; with_reducible exact HG0.out H16.out _ _) | (go_at_call 43; with_reducible exact HG4.out H16.out _ _) | (go_at_call 43; with_reducible exact HG12.out H16.out _ _))
    go_wp2
    go_ret
    rw [HR.out]
    exact ⟨rfl, below_draw (Geom.bel_alloc _ _) ⟨_, rfl⟩⟩
set_option maxRecDepth 100000 in
set_option maxHeartbeats 16000000 in
theorem refPiece_floor (a b : W) (body : List UInt8) (hs : body.length ≤ maxLen) (h1 : decide (vl a < 1) = false) (h2 : decide (2147483647 < vl a) = false) (w : World) :
    Calls Tryd.prog 42 #[fV ⟨4, a, b, body⟩] w fun e w' => e = .returned (.bool (floorR a body)) ∧ Below w.heap.size w w' := by
  have HG0 : Hid (body.length = 4 → ∀ (w : World) (k : Nat), Calls Tryd.prog 43 #[.string (bs body), .int .i64 0] (w.drewN k) fun e w' => e = .returned (.int .u32 (le4 body 0)) ∧ ∃ n, w' = w.drewN n) := fun hk w k => quietGet body hs 0 (by omega) w k
  unfold fV
  simp only
  have hz : ((bs body).size : Int) = (body.length : Int) := by rw [bs_size]
  obtain ⟨B, hB⟩ : ∃ B, B = bs body := ⟨_, rfl⟩
  rw [← hB] at HG0 hz ⊢
  have HE := Lib.hid (show floorR a body = (((body.length : Int) == 4) && decide (le4 body 0 ≤ vl a)) from rfl)
  obtain ⟨n, hn⟩ : ∃ n : Nat, n = body.length := ⟨_, rfl⟩
  rw [← hn] at HE HG0 hz
  obtain ⟨x0, hx0⟩ : ∃ x0, x0 = le4 body 0 := ⟨_, rfl⟩
  rw [← hx0] at HE HG0
  clear hn hB hs hx0
  have hc : ((n : Int) == 4) = false ∨ (((n : Int) == 4) = true ∧ decide (x0 ≤ vl a) = false) ∨ (((n : Int) == 4) = true ∧ decide (x0 ≤ vl a) = true) := by
    cases (n : Int) == 4 <;> cases decide (x0 ≤ vl a) <;> simp
  rcases hc with t1 | ⟨t1, t2⟩ | ⟨t1, t2⟩
  case _ =>
    have HR := Lib.hid (show floorR a body = false by rw [HE.out]; simp [t1])
    clear HE
    go_enter Tryd.func42, Tryd.ntmps42
    go_wp2
    go_quiet (fail)
    go_wp2
    go_ret
    rw [HR.out]
    exact ⟨rfl, below_draw (Geom.bel_alloc _ _) ⟨_, rfl⟩⟩
  case _ =>
    have HR := Lib.hid (show floorR a body = false by rw [HE.out]; simp [t1, t2])
    have H16 := Lib.hid (show n = 4 by rw [beq_iff_eq] at t1; omega)
    clear HE
    go_enter Tryd.func42, Tryd.ntmps42
    go_wp2
    go_quiet ((go_at_call 43; with_reducible exact HG0.out H16.out _ _))
    go_wp2
    go_ret
    rw [HR.out]
    exact ⟨rfl, below_draw (Geom.bel_alloc _ _) ⟨_, rfl⟩⟩
  case _ =>
    have HR := Lib.hid (show floorR a body = true by rw [HE.out]; simp [t1, t2])
    have H16 := Lib.hid (show n = 4 by rw [beq_iff_eq] at t1; omega)
    clear HE
    go_enter Tryd.func42, Tryd.ntmps42
    go_wp2
    go_quiet ((go_at_call 43; with_reducible exact HG0.out H16.out _ _))
    go_wp2
    go_ret
    rw [HR.out]
    exact ⟨rfl, below_draw (Geom.bel_alloc _ _) ⟨_, rfl⟩⟩
theorem refPiece_any (f : Fr) (hs : f.body.length ≤ maxLen) (w : World) :
    Calls Tryd.prog 42 #[fV f] w fun e w' => e = .returned (.bool (pieceR f)) ∧ Below w.heap.size w w' := by
  by_cases h1 : decide (vl f.a < 1) = true
  · exact refPiece_out f (.inl h1) w
  have h1 : decide (vl f.a < 1) = false := by simpa using h1
  by_cases h2 : decide (2147483647 < vl f.a) = true
  · exact refPiece_out f (.inr ⟨h1, h2⟩) w
  have h2 : decide (2147483647 < vl f.a) = false := by simpa using h2
  by_cases h3 : f.kind = 3
  · have e := pieceR_at (isSeq_true h1 h2)
    obtain ⟨kd, a, b, body⟩ := f
    simp only at h3 e
    subst h3
    rw [e]
    exact refPiece_seal a b body hs h1 h2 w
  by_cases h4 : f.kind = 4
  · have e := pieceR_at (isSeq_true h1 h2)
    obtain ⟨kd, a, b, body⟩ := f
    simp only at h4 e
    subst h4
    rw [e]
    exact refPiece_floor a b body hs h1 h2 w
  exact refPiece_plain f h1 h2 ⟨h3, h4⟩ w
end Go.Proofs.YtligapgjdpdihaaDoor.Piece
/-
  What package piece's small functions answer: isSeq, right, Kind, body, sealOf, floorOf, checked, AsPart, AsSeal, AsFloor.
-/
set_option linter.unusedVariables false
set_option linter.unusedSimpArgs false
namespace Go.Proofs.YtligapgjdpdihaaDoor.Piece
open Go.RowKit
open CrcM (W)
open Crc (le4 sumOf vl wd putS)
open Flash (bs bs_size bs_list list_bs)
open Go.Proofs.YtligapgjdpdihaaDoor.Frame (Fr zeroF fV bel2 below_drewN)
open Tup Bytes Own
open Go.Proofs.YtligapgjdpdihaaDoor.Region (fill Then Deps Each wp_region_is wp_region_is_tail wp_region_each wp_region_tail)

def headV (e r : W) : Value := .agg #[.int .u32 (vl e), .int .u32 (vl r)]
def partV (s a : W) (t : List UInt8) : Value := .agg #[.int .u32 (vl s), .int .u32 (vl a), .string (bs t)]
def sealV (s p v f u z : W) : Value := .agg #[.int .u32 (vl s), .int .u32 (vl p), .int .u32 (vl v), .int .u32 (vl f), .int .u32 (vl u), .int .u32 (vl z)]
def floorV (s g f : W) : Value := .agg #[.int .u32 (vl s), .int .u32 (vl g), .int .u32 (vl f)]
/-- a piece as a value -/
def pcV : Pc → Value
  | .none => .nilIface
  | .head e r => .iface 96 (headV e r)
  | .part s a t => .iface 100 (partV s a t)
  | .fin s p v f u z => .iface 61 (sealV s p v f u z)
  | .floor s g f => .iface 102 (floorV s g f)
def partR (s : W) (t : List UInt8) : Bool := isSeqB s && !t.isEmpty
def sealPR (s p v f z : W) : Bool := isSeqB s && decide (0 < vl p) && decide (vl v < vl s) && decide (1 ≤ vl f) && decide (vl f ≤ vl s) && decide (0 < vl z)
def floorPR (s f : W) : Bool := isSeqB s && decide (vl f ≤ vl s)
theorem isSeq_any (x : W) (w : World) : Calls Tryd.prog 87 #[.int .u32 (vl x)] w fun e w' => e = .returned (.bool (isSeqB x)) ∧ w = w' := by
  unfold isSeqB
  generalize vl x = v
  cases h1 : decide (1 ≤ v) <;> cases h2 : decide (v ≤ 2147483647)
  all_goals
    go_enter Tryd.func87, Tryd.ntmps87
    go_wp2
    go_ret
    exact ⟨rfl, rfl⟩
theorem headRight_any (e r : W) (w : World) : Calls Tryd.prog 59 #[headV e r] w fun e' w' => e' = .returned (.bool (isSeqB e)) ∧ Below w.heap.size w w' := by
  have HS := Lib.hid (fun w => isSeq_any e w)
  unfold headV
  generalize isSeqB e = B at *
  go_enter Tryd.func59, Tryd.ntmps59
  go_wp2_with (go_at_call 87; (with_reducible refine (HS.out _).mono ?_); rintro e w5 ⟨rfl, rfl⟩)
  go_ret
  exact ⟨rfl, Geom.bel_alloc _ _⟩
theorem partRight_any (s a : W) (t : List UInt8) (w : World) : Calls Tryd.prog 61 #[partV s a t] w fun e' w' => e' = .returned (.bool (partR s t)) ∧ Below w.heap.size w w' := by
  have HS := Lib.hid (fun w => isSeq_any s w)
  unfold partV partR
  have hem := bs_empty t
  obtain ⟨B, hB⟩ : ∃ B, B = bs t := ⟨_, rfl⟩
  rw [← hB] at hem ⊢
  clear hB
  generalize isSeqB s = q at *
  generalize t.isEmpty = z at *
  cases q <;> cases z
  all_goals
    go_enter Tryd.func61, Tryd.ntmps61
    go_wp2_with (go_at_call 87; (with_reducible refine (HS.out _).mono ?_); rintro e w5 ⟨rfl, rfl⟩)
    go_ret
    exact ⟨rfl, Geom.bel_alloc _ _⟩
theorem sealRight_any (s p v f u z : W) (w : World) : Calls Tryd.prog 63 #[sealV s p v f u z] w fun e' w' => e' = .returned (.bool (sealPR s p v f z)) ∧ Below w.heap.size w w' := by
  have HS := Lib.hid (fun w => isSeq_any s w)
  unfold sealV
  have HR := Lib.hid (show sealPR s p v f z = (isSeqB s && decide (0 < vl p) && decide (vl v < vl s) && decide (1 ≤ vl f) && decide (vl f ≤ vl s) && decide (0 < vl z)) from rfl)
  generalize isSeqB s = q at *
  obtain ⟨S, hS⟩ : ∃ S, S = sealPR s p v f z := ⟨_, rfl⟩
  rw [← hS] at HR ⊢
  clear hS
  generalize vl s = s at *
  generalize vl p = p at *
  generalize vl v = v at *
  generalize vl f = f at *
  generalize vl u = u at *
  generalize vl z = z at *
  have hc : q = false ∨ (q = true ∧ decide (0 < p) = false) ∨ (q = true ∧ decide (0 < p) = true ∧ decide (v < s) = false) ∨ (q = true ∧ decide (0 < p) = true ∧ decide (v < s) = true ∧ decide (1 ≤ f) = false) ∨ (q = true ∧ decide (0 < p) = true ∧ decide (v < s) = true ∧ decide (1 ≤ f) = true ∧ decide (f ≤ s) = false) ∨ (q = true ∧ decide (0 < p) = true ∧ decide (v < s) = true ∧ decide (1 ≤ f) = true ∧ decide (f ≤ s) = true ∧ decide (0 < z) = false) ∨ (q = true ∧ decide (0 < p) = true ∧ decide (v < s) = true ∧ decide (1 ≤ f) = true ∧ decide (f ≤ s) = true ∧ decide (0 < z) = true) := by
    cases q <;> cases decide (0 < p) <;> cases decide (v < s) <;> cases decide (1 ≤ f) <;> cases decide (f ≤ s) <;> cases decide (0 < z) <;> simp
  rcases hc with rfl | ⟨rfl, t2⟩ | ⟨rfl, t2, t3⟩ | ⟨rfl, t2, t3, t4⟩ | ⟨rfl, t2, t3, t4, t5⟩ | ⟨rfl, t2, t3, t4, t5, t6⟩ | ⟨rfl, t2, t3, t4, t5, t6⟩
  all_goals
    go_enter Tryd.func63, Tryd.ntmps63
    go_wp2_with (go_at_call 87; (with_reducible refine (HS.out _).mono ?_); rintro e w5 ⟨rfl, rfl⟩)
    go_ret
    rw [HR.out]
    refine ⟨?_, Geom.bel_alloc _ _⟩
    first | rfl | (simp only [*, Bool.and_true, Bool.and_false, Bool.true_and, Bool.false_and]; rfl)
theorem floorRight_any (s g f : W) (w : World) : Calls Tryd.prog 66 #[floorV s g f] w fun e' w' => e' = .returned (.bool (floorPR s f)) ∧ Below w.heap.size w w' := by
  have HS := Lib.hid (fun w => isSeq_any s w)
  unfold floorV floorPR
  generalize isSeqB s = q at *
  generalize vl s = s at *
  generalize vl g = g at *
  generalize vl f = f at *
  cases q <;> cases h : decide (f ≤ s)
  all_goals
    go_enter Tryd.func66, Tryd.ntmps66
    go_wp2_with (go_at_call 87; (with_reducible refine (HS.out _).mono ?_); rintro e w5 ⟨rfl, rfl⟩)
    go_ret
    exact ⟨rfl, Geom.bel_alloc _ _⟩
theorem headKind_any (e r : W) (w : World) : Calls Tryd.prog 60 #[headV e r] w fun e' w' => e' = .returned (.int .i64 1) ∧ Below w.heap.size w w' := by
  unfold headV
  go_enter Tryd.func60, Tryd.ntmps60
  go_wp2
  go_ret
  exact ⟨rfl, Geom.bel_alloc _ _⟩
theorem partKind_any (s a : W) (t : List UInt8) (w : World) : Calls Tryd.prog 62 #[partV s a t] w fun e' w' => e' = .returned (.int .i64 2) ∧ Below w.heap.size w w' := by
  unfold partV
  go_enter Tryd.func62, Tryd.ntmps62
  go_wp2
  go_ret
  exact ⟨rfl, Geom.bel_alloc _ _⟩
theorem sealKind_any (s p v f u z : W) (w : World) : Calls Tryd.prog 64 #[sealV s p v f u z] w fun e' w' => e' = .returned (.int .i64 3) ∧ Below w.heap.size w w' := by
  unfold sealV
  go_enter Tryd.func64, Tryd.ntmps64
  go_wp2
  go_ret
  exact ⟨rfl, Geom.bel_alloc _ _⟩
theorem floorKind_any (s g f : W) (w : World) : Calls Tryd.prog 67 #[floorV s g f] w fun e' w' => e' = .returned (.int .i64 4) ∧ Below w.heap.size w w' := by
  unfold floorV
  go_enter Tryd.func67, Tryd.ntmps67
  go_wp2
  go_ret
  exact ⟨rfl, Geom.bel_alloc _ _⟩
theorem wd_le4 (l : List UInt8) (k : Nat) : vl (wd (le4 l k)) = le4 l k := by
  have h : ∀ j, (0 : Int) ≤ ((l.getD j 0).toNat : Int) ∧ ((l.getD j 0).toNat : Int) ≤ 255 := fun j => by have := (l.getD j 0).toNat_lt; omega
  have h0 := h k; have h1 := h (k + 1); have h2 := h (k + 2); have h3 := h (k + 3)
  refine Crc.vl_wd ?_ ?_ <;> unfold le4 <;> omega
/-- a number of a text, 0 where there are not four bytes -/
def getZ (l : List UInt8) (k : Nat) : W := if k + 4 ≤ l.length then wd (le4 l k) else 0#32
theorem getZ_any (l : List UInt8) (hl : l.length ≤ maxLen) (k : Nat) (hk : k ≤ 1000) (x : Int) (hx : x = (k : Int)) (w : World) : Calls Tryd.prog 102 #[.string (bs l), .int .i64 x] w fun e w' => e = .returned (.tuple #[.int .u32 (vl (getZ l k)), .bool (decide (k + 4 ≤ l.length))]) ∧ Below w.heap.size w w' := by
  subst hx
  unfold getZ
  by_cases h : k + 4 ≤ l.length
  · rw [if_pos h, decide_eq_true h]
    have := Crc.get_yes (bs l) (by rw [bs_size]; exact hl) k (by rw [bs_size]; exact h) w
    rw [list_bs] at this
    refine this.mono ?_
    rintro e w' ⟨rfl, n, rfl⟩
    refine ⟨?_, Crc.belD ⟨n, rfl⟩⟩
    rw [wd_le4]
  · rw [if_neg h, decide_eq_false h]
    refine (Crc.get_few (bs l) (by rw [bs_size]; exact hl) (k : Int) (by omega) (by omega) (by rw [bs_size]; omega) w).mono ?_
    rintro e w' ⟨rfl, rfl⟩
    exact ⟨rfl, Below.refl _ _⟩
def sealOfF (f : Fr) : Value := sealV f.a f.b (getZ f.body 0) (getZ f.body 4) (getZ f.body 8) (getZ f.body 12)
def floorOfF (f : Fr) : Value := floorV f.a f.b (getZ f.body 0)
def checkedF (r : Bool) (f : Fr) : Fr × Nat := if r = true then (f, 0) else (zeroF, 2)
set_option maxRecDepth 100000 in
theorem checked_any (r : Bool) (f : Fr) (w : World) : Calls Tryd.prog 58 #[.bool r, fV f] w fun e w' => e = .returned (.tuple #[fV (checkedF r f).1, .int .i64 ((checkedF r f).2 : Int)]) ∧ Below w.heap.size w w' := by
  obtain ⟨kd, a, b, body⟩ := f
  unfold checkedF
  cases r
  · rw [if_neg (by simp)]
    unfold fV
    simp only [zeroF]
    go_enter Tryd.func58, Tryd.ntmps58
    go_wp2
    refine bodyPost_ret (v := .tuple #[.agg #[.int .i64 0, .int .u32 0, .int .u32 0, .string ⟨#[]⟩], .int .i64 2]) (by rw [results_cell_tmp rfl]; simp [go_sem]) rfl ?_
    exact ⟨rfl, bel2 (Geom.bel_alloc _ _) (Geom.bel_alloc _ _)⟩
  · rw [if_pos rfl]
    unfold fV
    simp only
    obtain ⟨B, hB⟩ : ∃ B, B = bs body := ⟨_, rfl⟩
    rw [← hB]
    clear hB
    go_enter Tryd.func58, Tryd.ntmps58
    go_wp2
    refine bodyPost_ret (v := .tuple #[.agg #[.int .i64 kd, .int .u32 (vl a), .int .u32 (vl b), .string B], .int .i64 0]) (by rw [results_cell_tmp rfl]; simp [go_sem]) rfl ?_
    exact ⟨rfl, bel2 (Geom.bel_alloc _ _) (Geom.bel_alloc _ _)⟩
set_option maxRecDepth 100000 in
theorem floorOf_any (f : Fr) (hs : f.body.length ≤ maxLen) (w : World) : Calls Tryd.prog 89 #[fV f] w fun e w' => e = .returned (floorOfF f) ∧ Below w.heap.size w w' := by
  have HG := Lib.hid (fun w => getZ_any f.body hs 0 (by omega) 0 rfl w)
  obtain ⟨kd, a, b, body⟩ := f
  unfold floorOfF floorV fV
  simp only at HG ⊢
  obtain ⟨B, hB⟩ : ∃ B, B = bs body := ⟨_, rfl⟩
  rw [← hB] at HG ⊢
  clear hB
  generalize getZ body 0 = g0 at *
  generalize decide (0 + 4 ≤ body.length) = d0 at *
  have HV := Lib.hid ((Var.new w 49 [.int .i64 kd, .int .u32 (vl a), .int .u32 (vl b), .string B]).alloc (.cells #[.int .u32 0, .int .u32 0, .int .u32 0] 102))
  have HR := Lib.hid (Var.new (w.alloc (.cells #[.int .i64 kd, .int .u32 (vl a), .int .u32 (vl b), .string B] 49)) 102 [.int .u32 0, .int .u32 0, .int .u32 0])
  have hsz1 : (w.alloc (.cells #[.int .i64 kd, .int .u32 (vl a), .int .u32 (vl b), .string B] 49)).heap.size = w.heap.size + 1 := by simp
  rw [hsz1] at HR
  obtain ⟨w1, hw1⟩ : ∃ w1, w1 = (w.alloc (.cells #[.int .i64 kd, .int .u32 (vl a), .int .u32 (vl b), .string B] 49)).alloc (.cells #[.int .u32 0, .int .u32 0, .int .u32 0] 102) := ⟨_, rfl⟩
  have HB1 := Lib.hid (show Below w.heap.size w w1 by rw [hw1]; exact bel2 (Geom.bel_alloc _ _) (Geom.bel_alloc _ _))
  have HV1 := Lib.hid (show Var w1 w.heap.size 49 [.int .i64 kd, .int .u32 (vl a), .int .u32 (vl b), .string B] by rw [hw1]; exact HV.out)
  have HR1 := Lib.hid (show Var w1 (w.heap.size + 1) 102 [.int .u32 0, .int .u32 0, .int .u32 0] by rw [hw1]; exact HR.out)
  go_enter Tryd.func89, Tryd.ntmps89
  go_wp2_with (go_at_call 102; (with_reducible refine (HG.out _).mono ?_); rintro e w5 ⟨rfl, b50⟩; have b5 : Below w1.heap.size w1 w5 := (by rw [hw1]; exact b50); clear b50; have BW5 := Lib.hid (bel2 HB1.out b5); have v5 := HV1.out.below b5 HV1.out.lt; have VR5 := Lib.hid (HR1.out.below b5 HR1.out.lt); have k1 := v5.cell (j := 1) rfl; have k2 := v5.cell (j := 2) rfl; clear v5; have r5 := VR5.out; have r0 := r5.cell (j := 0) rfl; have r1 := r5.cell (j := 1) rfl; have r2 := r5.cell (j := 2) rfl; have f0 := r5.frozen 0; have f1 := r5.frozen 1; have f2 := r5.frozen 2; clear r5)
  have vr := ((VR5.out.set 0 (.int .u32 (vl a))).set 1 (.int .u32 (vl b))).set 2 (.int .u32 (vl g0))
  have z0 := vr.cell (j := 0) rfl
  have z1 := vr.cell (j := 1) rfl
  have z2 := vr.cell (j := 2) rfl
  clear r0 r1 r2 f0 f1 f2 vr
  refine bodyPost_ret (v := .agg #[.int .u32 (vl a), .int .u32 (vl b), .int .u32 (vl g0)]) (by simp [results, Tryd.results89, go_sem, z0, z1, z2]) rfl ?_
  exact ⟨rfl, ((BW5.out.setCell (p := ⟨w.heap.size + 1, 0, none⟩) (by simp only; omega) _).setCell (p := ⟨w.heap.size + 1, 1, none⟩) (by simp only; omega) _).setCell (p := ⟨w.heap.size + 1, 2, none⟩) (by simp only; omega) _⟩
theorem taHead_nil (w : World) : (Instr.typeAssert .nilIface 94 96 true).run Tryd.prog w = .ok (.tuple #[.agg #[.int .u32 0, .int .u32 0], .bool false]) w := by kernel_rfl
theorem taHead_Head (v : Value) (w : World) : (Instr.typeAssert (.iface 96 v) 94 96 true).run Tryd.prog w = .ok (.tuple #[v, .bool true]) w := by kernel_rfl
theorem taHead_Part (v : Value) (w : World) : (Instr.typeAssert (.iface 100 v) 94 96 true).run Tryd.prog w = .ok (.tuple #[.agg #[.int .u32 0, .int .u32 0], .bool false]) w := by kernel_rfl
theorem taHead_Seal (v : Value) (w : World) : (Instr.typeAssert (.iface 61 v) 94 96 true).run Tryd.prog w = .ok (.tuple #[.agg #[.int .u32 0, .int .u32 0], .bool false]) w := by kernel_rfl
theorem taHead_Floor (v : Value) (w : World) : (Instr.typeAssert (.iface 102 v) 94 96 true).run Tryd.prog w = .ok (.tuple #[.agg #[.int .u32 0, .int .u32 0], .bool false]) w := by kernel_rfl
theorem taPart_nil (w : World) : (Instr.typeAssert .nilIface 94 100 true).run Tryd.prog w = .ok (.tuple #[.agg #[.int .u32 0, .int .u32 0, .string ⟨#[]⟩], .bool false]) w := by kernel_rfl
theorem taPart_Head (v : Value) (w : World) : (Instr.typeAssert (.iface 96 v) 94 100 true).run Tryd.prog w = .ok (.tuple #[.agg #[.int .u32 0, .int .u32 0, .string ⟨#[]⟩], .bool false]) w := by kernel_rfl
theorem taPart_Part (v : Value) (w : World) : (Instr.typeAssert (.iface 100 v) 94 100 true).run Tryd.prog w = .ok (.tuple #[v, .bool true]) w := by kernel_rfl
theorem taPart_Seal (v : Value) (w : World) : (Instr.typeAssert (.iface 61 v) 94 100 true).run Tryd.prog w = .ok (.tuple #[.agg #[.int .u32 0, .int .u32 0, .string ⟨#[]⟩], .bool false]) w := by kernel_rfl
theorem taPart_Floor (v : Value) (w : World) : (Instr.typeAssert (.iface 102 v) 94 100 true).run Tryd.prog w = .ok (.tuple #[.agg #[.int .u32 0, .int .u32 0, .string ⟨#[]⟩], .bool false]) w := by kernel_rfl
theorem taSeal_nil (w : World) : (Instr.typeAssert .nilIface 94 61 true).run Tryd.prog w = .ok (.tuple #[.agg #[.int .u32 0, .int .u32 0, .int .u32 0, .int .u32 0, .int .u32 0, .int .u32 0], .bool false]) w := by kernel_rfl
theorem taSeal_Head (v : Value) (w : World) : (Instr.typeAssert (.iface 96 v) 94 61 true).run Tryd.prog w = .ok (.tuple #[.agg #[.int .u32 0, .int .u32 0, .int .u32 0, .int .u32 0, .int .u32 0, .int .u32 0], .bool false]) w := by kernel_rfl
theorem taSeal_Part (v : Value) (w : World) : (Instr.typeAssert (.iface 100 v) 94 61 true).run Tryd.prog w = .ok (.tuple #[.agg #[.int .u32 0, .int .u32 0, .int .u32 0, .int .u32 0, .int .u32 0, .int .u32 0], .bool false]) w := by kernel_rfl
theorem taSeal_Seal (v : Value) (w : World) : (Instr.typeAssert (.iface 61 v) 94 61 true).run Tryd.prog w = .ok (.tuple #[v, .bool true]) w := by kernel_rfl
theorem taSeal_Floor (v : Value) (w : World) : (Instr.typeAssert (.iface 102 v) 94 61 true).run Tryd.prog w = .ok (.tuple #[.agg #[.int .u32 0, .int .u32 0, .int .u32 0, .int .u32 0, .int .u32 0, .int .u32 0], .bool false]) w := by kernel_rfl
theorem taFloor_nil (w : World) : (Instr.typeAssert .nilIface 94 102 true).run Tryd.prog w = .ok (.tuple #[.agg #[.int .u32 0, .int .u32 0, .int .u32 0], .bool false]) w := by kernel_rfl
theorem taFloor_Head (v : Value) (w : World) : (Instr.typeAssert (.iface 96 v) 94 102 true).run Tryd.prog w = .ok (.tuple #[.agg #[.int .u32 0, .int .u32 0, .int .u32 0], .bool false]) w := by kernel_rfl
theorem taFloor_Part (v : Value) (w : World) : (Instr.typeAssert (.iface 100 v) 94 102 true).run Tryd.prog w = .ok (.tuple #[.agg #[.int .u32 0, .int .u32 0, .int .u32 0], .bool false]) w := by kernel_rfl
theorem taFloor_Seal (v : Value) (w : World) : (Instr.typeAssert (.iface 61 v) 94 102 true).run Tryd.prog w = .ok (.tuple #[.agg #[.int .u32 0, .int .u32 0, .int .u32 0], .bool false]) w := by kernel_rfl
theorem taFloor_Floor (v : Value) (w : World) : (Instr.typeAssert (.iface 102 v) 94 102 true).run Tryd.prog w = .ok (.tuple #[v, .bool true]) w := by kernel_rfl

/-- a variable, where another one is written -/
theorem Var.othr2 {w : World} {k : Nat} {t : TypeId} {cs : List Value} (h : Var w k t cs) (p : Addr) (v : Value) (hp : k ≠ p.block) : Var (w.setCell p v) k t cs := (Foot.Grows.set (S := fun j => j = p.block) w p v rfl).var h hp
end Go.Proofs.YtligapgjdpdihaaDoor.Piece
/-
  What package piece's AsPart, AsSeal, AsFloor, sealOf and body answer.
-/
set_option linter.unusedVariables false
set_option linter.unusedSimpArgs false
namespace Go.Proofs.YtligapgjdpdihaaDoor.Piece
open Go.RowKit
open CrcM (W)
open Crc (le4 sumOf vl wd putS)
open Flash (bs bs_size bs_list list_bs)
open Go.Proofs.YtligapgjdpdihaaDoor.Frame (Fr zeroF fV bel2 below_drewN)
open Tup Bytes Own
open Go.Proofs.YtligapgjdpdihaaDoor.Region (fill Then Deps Each wp_region_is wp_region_is_tail wp_region_each wp_region_tail)
def asPartV : Pc → Value
  | .part s a t => partV s a t
  | _ => .agg #[.int .u32 0, .int .u32 0, .string ⟨#[]⟩]
def isPartP : Pc → Bool
  | .part _ _ _ => true
  | _ => false
set_option maxRecDepth 100000 in
set_option maxHeartbeats 8000000 in
theorem asPart_any (p : Pc) (w : World) : Calls Tryd.prog 90 #[pcV p] w fun e w' => e = .returned (.tuple #[asPartV p, .bool (isPartP p)]) ∧ Below w.heap.size w w' := by
  rcases p with _ | ⟨e, r⟩ | ⟨s, a, t⟩ | ⟨s, p, v, f, u, z⟩ | ⟨s, g, f⟩
  case none =>
    show Calls Tryd.prog 90 #[.nilIface] w fun e w' => e = .returned (.tuple #[.agg #[.int .u32 0, .int .u32 0, .string ⟨#[]⟩], .bool false]) ∧ Below w.heap.size w w'
    have hta := taPart_nil
    go_enter Tryd.func90, Tryd.ntmps90
    go_wp2
    refine bodyPost_ret (v := .tuple #[.agg #[.int .u32 0, .int .u32 0, .string ⟨#[]⟩], .bool false]) (by rw [results_cell_tmp rfl]; simp [go_sem]) rfl ?_
    exact ⟨rfl, bel2 (Geom.bel_alloc _ _) (Geom.bel_alloc _ _)⟩
  case head =>
    show Calls Tryd.prog 90 #[.iface 96 (.agg #[.int .u32 (vl e), .int .u32 (vl r)])] w fun e w' => e = .returned (.tuple #[.agg #[.int .u32 0, .int .u32 0, .string ⟨#[]⟩], .bool false]) ∧ Below w.heap.size w w'
    have hta := taPart_Head (.agg #[.int .u32 (vl e), .int .u32 (vl r)])
    go_enter Tryd.func90, Tryd.ntmps90
    go_wp2
    refine bodyPost_ret (v := .tuple #[.agg #[.int .u32 0, .int .u32 0, .string ⟨#[]⟩], .bool false]) (by rw [results_cell_tmp rfl]; simp [go_sem]) rfl ?_
    exact ⟨rfl, bel2 (Geom.bel_alloc _ _) (Geom.bel_alloc _ _)⟩
  case part =>
    show Calls Tryd.prog 90 #[.iface 100 (.agg #[.int .u32 (vl s), .int .u32 (vl a), .string (bs t)])] w fun e w' => e = .returned (.tuple #[.agg #[.int .u32 (vl s), .int .u32 (vl a), .string (bs t)], .bool true]) ∧ Below w.heap.size w w'
    have hta := taPart_Part (.agg #[.int .u32 (vl s), .int .u32 (vl a), .string (bs t)])
    obtain ⟨B, hB⟩ : ∃ B, B = bs t := ⟨_, rfl⟩
    rw [← hB] at hta ⊢
    clear hB
    go_enter Tryd.func90, Tryd.ntmps90
    go_wp2
    refine bodyPost_ret (v := .tuple #[.agg #[.int .u32 (vl s), .int .u32 (vl a), .string B], .bool true]) (by rw [results_cell_tmp rfl]; simp [go_sem]) rfl ?_
    exact ⟨rfl, bel2 (Geom.bel_alloc _ _) (Geom.bel_alloc _ _)⟩
  case fin =>
    show Calls Tryd.prog 90 #[.iface 61 (.agg #[.int .u32 (vl s), .int .u32 (vl p), .int .u32 (vl v), .int .u32 (vl f), .int .u32 (vl u), .int .u32 (vl z)])] w fun e w' => e = .returned (.tuple #[.agg #[.int .u32 0, .int .u32 0, .string ⟨#[]⟩], .bool false]) ∧ Below w.heap.size w w'
    have hta := taPart_Seal (.agg #[.int .u32 (vl s), .int .u32 (vl p), .int .u32 (vl v), .int .u32 (vl f), .int .u32 (vl u), .int .u32 (vl z)])
    go_enter Tryd.func90, Tryd.ntmps90
    go_wp2
    refine bodyPost_ret (v := .tuple #[.agg #[.int .u32 0, .int .u32 0, .string ⟨#[]⟩], .bool false]) (by rw [results_cell_tmp rfl]; simp [go_sem]) rfl ?_
    exact ⟨rfl, bel2 (Geom.bel_alloc _ _) (Geom.bel_alloc _ _)⟩
  case floor =>
    show Calls Tryd.prog 90 #[.iface 102 (.agg #[.int .u32 (vl s), .int .u32 (vl g), .int .u32 (vl f)])] w fun e w' => e = .returned (.tuple #[.agg #[.int .u32 0, .int .u32 0, .string ⟨#[]⟩], .bool false]) ∧ Below w.heap.size w w'
    have hta := taPart_Floor (.agg #[.int .u32 (vl s), .int .u32 (vl g), .int .u32 (vl f)])
    go_enter Tryd.func90, Tryd.ntmps90
    go_wp2
    refine bodyPost_ret (v := .tuple #[.agg #[.int .u32 0, .int .u32 0, .string ⟨#[]⟩], .bool false]) (by rw [results_cell_tmp rfl]; simp [go_sem]) rfl ?_
    exact ⟨rfl, bel2 (Geom.bel_alloc _ _) (Geom.bel_alloc _ _)⟩
def asSealV : Pc → Value
  | .fin s p v f u z => sealV s p v f u z
  | _ => .agg #[.int .u32 0, .int .u32 0, .int .u32 0, .int .u32 0, .int .u32 0, .int .u32 0]
def isSealP : Pc → Bool
  | .fin _ _ _ _ _ _ => true
  | _ => false
set_option maxRecDepth 100000 in
set_option maxHeartbeats 8000000 in
theorem asSeal_any (p : Pc) (w : World) : Calls Tryd.prog 72 #[pcV p] w fun e w' => e = .returned (.tuple #[asSealV p, .bool (isSealP p)]) ∧ Below w.heap.size w w' := by
  rcases p with _ | ⟨e, r⟩ | ⟨s, a, t⟩ | ⟨s, p, v, f, u, z⟩ | ⟨s, g, f⟩
  case none =>
    show Calls Tryd.prog 72 #[.nilIface] w fun e w' => e = .returned (.tuple #[.agg #[.int .u32 0, .int .u32 0, .int .u32 0, .int .u32 0, .int .u32 0, .int .u32 0], .bool false]) ∧ Below w.heap.size w w'
    have hta := taSeal_nil
    go_enter Tryd.func72, Tryd.ntmps72
    go_wp2
    refine bodyPost_ret (v := .tuple #[.agg #[.int .u32 0, .int .u32 0, .int .u32 0, .int .u32 0, .int .u32 0, .int .u32 0], .bool false]) (by rw [results_cell_tmp rfl]; simp [go_sem]) rfl ?_
    exact ⟨rfl, bel2 (Geom.bel_alloc _ _) (Geom.bel_alloc _ _)⟩
  case head =>
    show Calls Tryd.prog 72 #[.iface 96 (.agg #[.int .u32 (vl e), .int .u32 (vl r)])] w fun e w' => e = .returned (.tuple #[.agg #[.int .u32 0, .int .u32 0, .int .u32 0, .int .u32 0, .int .u32 0, .int .u32 0], .bool false]) ∧ Below w.heap.size w w'
    have hta := taSeal_Head (.agg #[.int .u32 (vl e), .int .u32 (vl r)])
    go_enter Tryd.func72, Tryd.ntmps72
    go_wp2
    refine bodyPost_ret (v := .tuple #[.agg #[.int .u32 0, .int .u32 0, .int .u32 0, .int .u32 0, .int .u32 0, .int .u32 0], .bool false]) (by rw [results_cell_tmp rfl]; simp [go_sem]) rfl ?_
    exact ⟨rfl, bel2 (Geom.bel_alloc _ _) (Geom.bel_alloc _ _)⟩
  case part =>
    show Calls Tryd.prog 72 #[.iface 100 (.agg #[.int .u32 (vl s), .int .u32 (vl a), .string (bs t)])] w fun e w' => e = .returned (.tuple #[.agg #[.int .u32 0, .int .u32 0, .int .u32 0, .int .u32 0, .int .u32 0, .int .u32 0], .bool false]) ∧ Below w.heap.size w w'
    have hta := taSeal_Part (.agg #[.int .u32 (vl s), .int .u32 (vl a), .string (bs t)])
    obtain ⟨B, hB⟩ : ∃ B, B = bs t := ⟨_, rfl⟩
    rw [← hB] at hta ⊢
    clear hB
    go_enter Tryd.func72, Tryd.ntmps72
    go_wp2
    refine bodyPost_ret (v := .tuple #[.agg #[.int .u32 0, .int .u32 0, .int .u32 0, .int .u32 0, .int .u32 0, .int .u32 0], .bool false]) (by rw [results_cell_tmp rfl]; simp [go_sem]) rfl ?_
    exact ⟨rfl, bel2 (Geom.bel_alloc _ _) (Geom.bel_alloc _ _)⟩
  case fin =>
    show Calls Tryd.prog 72 #[.iface 61 (.agg #[.int .u32 (vl s), .int .u32 (vl p), .int .u32 (vl v), .int .u32 (vl f), .int .u32 (vl u), .int .u32 (vl z)])] w fun e w' => e = .returned (.tuple #[.agg #[.int .u32 (vl s), .int .u32 (vl p), .int .u32 (vl v), .int .u32 (vl f), .int .u32 (vl u), .int .u32 (vl z)], .bool true]) ∧ Below w.heap.size w w'
    have hta := taSeal_Seal (.agg #[.int .u32 (vl s), .int .u32 (vl p), .int .u32 (vl v), .int .u32 (vl f), .int .u32 (vl u), .int .u32 (vl z)])
    go_enter Tryd.func72, Tryd.ntmps72
    go_wp2
    refine bodyPost_ret (v := .tuple #[.agg #[.int .u32 (vl s), .int .u32 (vl p), .int .u32 (vl v), .int .u32 (vl f), .int .u32 (vl u), .int .u32 (vl z)], .bool true]) (by rw [results_cell_tmp rfl]; simp [go_sem]) rfl ?_
    exact ⟨rfl, bel2 (Geom.bel_alloc _ _) (Geom.bel_alloc _ _)⟩
  case floor =>
    show Calls Tryd.prog 72 #[.iface 102 (.agg #[.int .u32 (vl s), .int .u32 (vl g), .int .u32 (vl f)])] w fun e w' => e = .returned (.tuple #[.agg #[.int .u32 0, .int .u32 0, .int .u32 0, .int .u32 0, .int .u32 0, .int .u32 0], .bool false]) ∧ Below w.heap.size w w'
    have hta := taSeal_Floor (.agg #[.int .u32 (vl s), .int .u32 (vl g), .int .u32 (vl f)])
    go_enter Tryd.func72, Tryd.ntmps72
    go_wp2
    refine bodyPost_ret (v := .tuple #[.agg #[.int .u32 0, .int .u32 0, .int .u32 0, .int .u32 0, .int .u32 0, .int .u32 0], .bool false]) (by rw [results_cell_tmp rfl]; simp [go_sem]) rfl ?_
    exact ⟨rfl, bel2 (Geom.bel_alloc _ _) (Geom.bel_alloc _ _)⟩
def asFloorV : Pc → Value
  | .floor s g f => floorV s g f
  | _ => .agg #[.int .u32 0, .int .u32 0, .int .u32 0]
def isFloorP : Pc → Bool
  | .floor _ _ _ => true
  | _ => false
set_option maxRecDepth 100000 in
set_option maxHeartbeats 8000000 in
theorem sealOf_any (f : Fr) (hs : f.body.length ≤ maxLen) (w : World) : Calls Tryd.prog 88 #[fV f] w fun e w' => e = .returned (sealOfF f) ∧ Below w.heap.size w w' := by
  have HG0 := Lib.hid (fun w => getZ_any f.body hs 0 (by omega) 0 rfl w)
  have HG1 := Lib.hid (fun w => getZ_any f.body hs 4 (by omega) 4 rfl w)
  have HG2 := Lib.hid (fun w => getZ_any f.body hs 8 (by omega) 8 rfl w)
  have HG3 := Lib.hid (fun w => getZ_any f.body hs 12 (by omega) 12 rfl w)
  obtain ⟨kd, a, b, body⟩ := f
  unfold sealOfF sealV fV
  simp only at HG0 HG1 HG2 HG3 ⊢
  obtain ⟨B, hB⟩ : ∃ B, B = bs body := ⟨_, rfl⟩
  rw [← hB] at HG0 HG1 HG2 HG3 ⊢
  clear hB
  generalize getZ body 0 = g0 at *
  generalize decide (0 + 4 ≤ body.length) = d0 at *
  generalize getZ body 4 = g1 at *
  generalize decide (4 + 4 ≤ body.length) = d1 at *
  generalize getZ body 8 = g2 at *
  generalize decide (8 + 4 ≤ body.length) = d2 at *
  generalize getZ body 12 = g3 at *
  generalize decide (12 + 4 ≤ body.length) = d3 at *
  have hsz1 : (w.alloc (.cells #[.int .i64 kd, .int .u32 (vl a), .int .u32 (vl b), .string B] 49)).heap.size = w.heap.size + 1 := by simp
  have hsz2 : ((w.alloc (.cells #[.int .i64 kd, .int .u32 (vl a), .int .u32 (vl b), .string B] 49)).alloc (.cells #[.int .u32 0, .int .u32 0, .int .u32 0, .int .u32 0, .int .u32 0, .int .u32 0] 61)).heap.size = w.heap.size + 2 := by simp
  obtain ⟨w1, hw1⟩ : ∃ w1, w1 = ((w.alloc (.cells #[.int .i64 kd, .int .u32 (vl a), .int .u32 (vl b), .string B] 49)).alloc (.cells #[.int .u32 0, .int .u32 0, .int .u32 0, .int .u32 0, .int .u32 0, .int .u32 0] 61)).alloc (.cells #[.int .u32 (vl a), .int .u32 (vl b), .int .u32 0, .int .u32 0, .int .u32 0, .int .u32 0] 61) := ⟨_, rfl⟩
  have HB1 := Lib.hid (show Below w.heap.size w w1 by rw [hw1]; exact bel2 (bel2 (Geom.bel_alloc _ _) (Geom.bel_alloc _ _)) (Geom.bel_alloc _ _))
  have HF1 := Lib.hid (show Var w1 w.heap.size 49 [.int .i64 kd, .int .u32 (vl a), .int .u32 (vl b), .string B] by rw [hw1]; exact ((Var.new w _ _).alloc _).alloc _)
  have HR1 := Lib.hid (show Var w1 (w.heap.size + 1) 61 [.int .u32 0, .int .u32 0, .int .u32 0, .int .u32 0, .int .u32 0, .int .u32 0] by
    have := (Var.new (w.alloc (.cells #[.int .i64 kd, .int .u32 (vl a), .int .u32 (vl b), .string B] 49)) 61 [.int .u32 0, .int .u32 0, .int .u32 0, .int .u32 0, .int .u32 0, .int .u32 0]).alloc (.cells #[.int .u32 (vl a), .int .u32 (vl b), .int .u32 0, .int .u32 0, .int .u32 0, .int .u32 0] 61)
    rw [hsz1] at this
    rw [hw1]; exact this)
  have HS1 := Lib.hid (show Var w1 (w.heap.size + 2) 61 [.int .u32 (vl a), .int .u32 (vl b), .int .u32 0, .int .u32 0, .int .u32 0, .int .u32 0] by
    have := Var.new ((w.alloc (.cells #[.int .i64 kd, .int .u32 (vl a), .int .u32 (vl b), .string B] 49)).alloc (.cells #[.int .u32 0, .int .u32 0, .int .u32 0, .int .u32 0, .int .u32 0, .int .u32 0] 61)) 61 [.int .u32 (vl a), .int .u32 (vl b), .int .u32 0, .int .u32 0, .int .u32 0, .int .u32 0]
    rw [hsz2] at this
    rw [hw1]; exact this)
  go_enter Tryd.func88, Tryd.ntmps88
  go_wp2_with (first
    | (go_at_call 102; ((with_reducible refine (HG0.out _).mono ?_); rintro e w2 ⟨rfl, bz⟩; have hbel : Below w1.heap.size w1 w2 := (by rw [hw1]; exact bz); clear bz; have vf := HF1.out.below hbel HF1.out.lt; have vr := HR1.out.below hbel HR1.out.lt; have vs := HS1.out.below hbel HS1.out.lt; obtain ⟨w2x, hw2x⟩ : ∃ wx, wx = w2.setCell ⟨w.heap.size + 2, 2, none⟩ (.int .u32 (vl g0)) := ⟨_, rfl⟩; have HF2 := Lib.hid (show Var w2x w.heap.size 49 [.int .i64 kd, .int .u32 (vl a), .int .u32 (vl b), .string B] by rw [hw2x]; exact Var.othr2 vf ⟨w.heap.size + 2, 2, none⟩ _ (by simp only; omega)); have HR2 := Lib.hid (show Var w2x (w.heap.size + 1) 61 [.int .u32 0, .int .u32 0, .int .u32 0, .int .u32 0, .int .u32 0, .int .u32 0] by rw [hw2x]; exact Var.othr2 vr ⟨w.heap.size + 2, 2, none⟩ _ (by simp only; omega)); have HS2 := Lib.hid (show Var w2x (w.heap.size + 2) 61 [.int .u32 (vl a), .int .u32 (vl b), .int .u32 (vl g0), .int .u32 0, .int .u32 0, .int .u32 0] by rw [hw2x]; exact vs.set 2 (.int .u32 (vl g0))); have HB2 := Lib.hid (show Below w.heap.size w w2x by rw [hw2x]; exact (bel2 HB1.out hbel).setCell (p := ⟨w.heap.size + 2, 2, none⟩) (by simp only; omega) _); have sc0 := vs.cell (j := 2) rfl; have sf0 := vs.frozen 2; have fc0 := HF2.out.cell (j := 3) rfl; rw [hw2x] at fc0; clear hbel vf vr vs))
    | (go_at_call 102; ((with_reducible refine (HG1.out _).mono ?_); rintro e w3 ⟨rfl, bz⟩; have hbel : Below w2x.heap.size w2x w3 := (by rw [hw2x]; exact bz); clear bz; have vf := HF2.out.below hbel HF2.out.lt; have vr := HR2.out.below hbel HR2.out.lt; have vs := HS2.out.below hbel HS2.out.lt; obtain ⟨w3x, hw3x⟩ : ∃ wx, wx = w3.setCell ⟨w.heap.size + 2, 3, none⟩ (.int .u32 (vl g1)) := ⟨_, rfl⟩; have HF3 := Lib.hid (show Var w3x w.heap.size 49 [.int .i64 kd, .int .u32 (vl a), .int .u32 (vl b), .string B] by rw [hw3x]; exact Var.othr2 vf ⟨w.heap.size + 2, 3, none⟩ _ (by simp only; omega)); have HR3 := Lib.hid (show Var w3x (w.heap.size + 1) 61 [.int .u32 0, .int .u32 0, .int .u32 0, .int .u32 0, .int .u32 0, .int .u32 0] by rw [hw3x]; exact Var.othr2 vr ⟨w.heap.size + 2, 3, none⟩ _ (by simp only; omega)); have HS3 := Lib.hid (show Var w3x (w.heap.size + 2) 61 [.int .u32 (vl a), .int .u32 (vl b), .int .u32 (vl g0), .int .u32 (vl g1), .int .u32 0, .int .u32 0] by rw [hw3x]; exact vs.set 3 (.int .u32 (vl g1))); have HB3 := Lib.hid (show Below w.heap.size w w3x by rw [hw3x]; exact (bel2 HB2.out hbel).setCell (p := ⟨w.heap.size + 2, 3, none⟩) (by simp only; omega) _); have sc1 := vs.cell (j := 3) rfl; have sf1 := vs.frozen 3; have fc1 := HF3.out.cell (j := 3) rfl; rw [hw3x] at fc1; clear hbel vf vr vs))
    | (go_at_call 102; ((with_reducible refine (HG2.out _).mono ?_); rintro e w4 ⟨rfl, bz⟩; have hbel : Below w3x.heap.size w3x w4 := (by rw [hw3x]; exact bz); clear bz; have vf := HF3.out.below hbel HF3.out.lt; have vr := HR3.out.below hbel HR3.out.lt; have vs := HS3.out.below hbel HS3.out.lt; obtain ⟨w4x, hw4x⟩ : ∃ wx, wx = w4.setCell ⟨w.heap.size + 2, 4, none⟩ (.int .u32 (vl g2)) := ⟨_, rfl⟩; have HF4 := Lib.hid (show Var w4x w.heap.size 49 [.int .i64 kd, .int .u32 (vl a), .int .u32 (vl b), .string B] by rw [hw4x]; exact Var.othr2 vf ⟨w.heap.size + 2, 4, none⟩ _ (by simp only; omega)); have HR4 := Lib.hid (show Var w4x (w.heap.size + 1) 61 [.int .u32 0, .int .u32 0, .int .u32 0, .int .u32 0, .int .u32 0, .int .u32 0] by rw [hw4x]; exact Var.othr2 vr ⟨w.heap.size + 2, 4, none⟩ _ (by simp only; omega)); have HS4 := Lib.hid (show Var w4x (w.heap.size + 2) 61 [.int .u32 (vl a), .int .u32 (vl b), .int .u32 (vl g0), .int .u32 (vl g1), .int .u32 (vl g2), .int .u32 0] by rw [hw4x]; exact vs.set 4 (.int .u32 (vl g2))); have HB4 := Lib.hid (show Below w.heap.size w w4x by rw [hw4x]; exact (bel2 HB3.out hbel).setCell (p := ⟨w.heap.size + 2, 4, none⟩) (by simp only; omega) _); have sc2 := vs.cell (j := 4) rfl; have sf2 := vs.frozen 4; have fc2 := HF4.out.cell (j := 3) rfl; rw [hw4x] at fc2; clear hbel vf vr vs))
    | (go_at_call 102; ((with_reducible refine (HG3.out _).mono ?_); rintro e w5 ⟨rfl, bz⟩; have hbel : Below w4x.heap.size w4x w5 := (by rw [hw4x]; exact bz); clear bz; have vf := HF4.out.below hbel HF4.out.lt; have vr := HR4.out.below hbel HR4.out.lt; have vs := HS4.out.below hbel HS4.out.lt; obtain ⟨w5x, hw5x⟩ : ∃ wx, wx = w5.setCell ⟨w.heap.size + 2, 5, none⟩ (.int .u32 (vl g3)) := ⟨_, rfl⟩; have HF5 := Lib.hid (show Var w5x w.heap.size 49 [.int .i64 kd, .int .u32 (vl a), .int .u32 (vl b), .string B] by rw [hw5x]; exact Var.othr2 vf ⟨w.heap.size + 2, 5, none⟩ _ (by simp only; omega)); have HR5 := Lib.hid (show Var w5x (w.heap.size + 1) 61 [.int .u32 0, .int .u32 0, .int .u32 0, .int .u32 0, .int .u32 0, .int .u32 0] by rw [hw5x]; exact Var.othr2 vr ⟨w.heap.size + 2, 5, none⟩ _ (by simp only; omega)); have HS5 := Lib.hid (show Var w5x (w.heap.size + 2) 61 [.int .u32 (vl a), .int .u32 (vl b), .int .u32 (vl g0), .int .u32 (vl g1), .int .u32 (vl g2), .int .u32 (vl g3)] by rw [hw5x]; exact vs.set 5 (.int .u32 (vl g3))); have HB5 := Lib.hid (show Below w.heap.size w w5x by rw [hw5x]; exact (bel2 HB4.out hbel).setCell (p := ⟨w.heap.size + 2, 5, none⟩) (by simp only; omega) _); have sc3 := vs.cell (j := 5) rfl; have sf3 := vs.frozen 5; have sd0 := HS5.out.cell (j := 0) rfl; have sd1 := HS5.out.cell (j := 1) rfl; have sd2 := HS5.out.cell (j := 2) rfl; have sd3 := HS5.out.cell (j := 3) rfl; have sd4 := HS5.out.cell (j := 4) rfl; have sd5 := HS5.out.cell (j := 5) rfl; have rd0 := HR5.out.cell (j := 0) rfl; have rd1 := HR5.out.cell (j := 1) rfl; have rd2 := HR5.out.cell (j := 2) rfl; have rd3 := HR5.out.cell (j := 3) rfl; have rd4 := HR5.out.cell (j := 4) rfl; have rd5 := HR5.out.cell (j := 5) rfl; have rf0 := HR5.out.frozen 0; have rf1 := HR5.out.frozen 1; have rf2 := HR5.out.frozen 2; have rf3 := HR5.out.frozen 3; have rf4 := HR5.out.frozen 4; have rf5 := HR5.out.frozen 5; rw [hw5x] at sd0 rd0 rf0 sd1 rd1 rf1 sd2 rd2 rf2 sd3 rd3 rf3 sd4 rd4 rf4 sd5 rd5 rf5; clear hbel vf vr vs)))
  have vr := HR5.out
  have vr := vr.set 0 (.int .u32 (vl a))
  have vr := vr.set 1 (.int .u32 (vl b))
  have vr := vr.set 2 (.int .u32 (vl g0))
  have vr := vr.set 3 (.int .u32 (vl g1))
  have vr := vr.set 4 (.int .u32 (vl g2))
  have vr := vr.set 5 (.int .u32 (vl g3))
  have z0 := vr.cell (j := 0) rfl
  have z1 := vr.cell (j := 1) rfl
  have z2 := vr.cell (j := 2) rfl
  have z3 := vr.cell (j := 3) rfl
  have z4 := vr.cell (j := 4) rfl
  have z5 := vr.cell (j := 5) rfl
  rw [hw5x] at z0 z1 z2 z3 z4 z5
  clear sd0 sd1 sd2 sd3 sd4 sd5 rd0 rd1 rd2 rd3 rd4 rd5 rf0 rf1 rf2 rf3 rf4 rf5 vr
  refine bodyPost_ret (v := .agg #[.int .u32 (vl a), .int .u32 (vl b), .int .u32 (vl g0), .int .u32 (vl g1), .int .u32 (vl g2), .int .u32 (vl g3)]) (by simp [results, Tryd.results88, go_sem, z0, z1, z2, z3, z4, z5]) rfl ?_
  have hb := HB5.out
  rw [hw5x] at hb
  exact ⟨rfl, (((((hb.setCell (p := ⟨w.heap.size + 1, 0, none⟩) (by simp only; omega) _).setCell (p := ⟨w.heap.size + 1, 1, none⟩) (by simp only; omega) _).setCell (p := ⟨w.heap.size + 1, 2, none⟩) (by simp only; omega) _).setCell (p := ⟨w.heap.size + 1, 3, none⟩) (by simp only; omega) _).setCell (p := ⟨w.heap.size + 1, 4, none⟩) (by simp only; omega) _).setCell (p := ⟨w.heap.size + 1, 5, none⟩) (by simp only; omega) _⟩
set_option maxRecDepth 100000 in
set_option maxHeartbeats 8000000 in
theorem sealBody_any (s p v f u z : W) (w : World) : Calls Tryd.prog 65 #[sealV s p v f u z] w fun e' w' => e' = .returned (.string (bs (four v f u z))) ∧ Below w.heap.size w w' := by
  have HPv := Lib.hid (fun w => Crc.put_any v w)
  obtain ⟨Tv, hTv⟩ : ∃ T, T = putS v := ⟨_, rfl⟩
  rw [← hTv] at HPv
  have sv : Tv.size = 4 := by rw [hTv]; rfl
  have HPf := Lib.hid (fun w => Crc.put_any f w)
  obtain ⟨Tf, hTf⟩ : ∃ T, T = putS f := ⟨_, rfl⟩
  rw [← hTf] at HPf
  have sf : Tf.size = 4 := by rw [hTf]; rfl
  have HPu := Lib.hid (fun w => Crc.put_any u w)
  obtain ⟨Tu, hTu⟩ : ∃ T, T = putS u := ⟨_, rfl⟩
  rw [← hTu] at HPu
  have su : Tu.size = 4 := by rw [hTu]; rfl
  have HPz := Lib.hid (fun w => Crc.put_any z w)
  obtain ⟨Tz, hTz⟩ : ∃ T, T = putS z := ⟨_, rfl⟩
  rw [← hTz] at HPz
  have sz : Tz.size = 4 := by rw [hTz]; rfl
  have HE := Lib.hid (show bs (four v f u z) = Tv ++ Tf ++ Tu ++ Tz by
    rw [hTv, hTf, hTu, hTz]
    apply ByteArray.ext
    simp only [ByteArray.data_append]
    unfold putS four bs
    simp)
  rw [HE.out]
  unfold sealV
  have HV := Lib.hid (Var.new w 61 [.int .u32 (vl s), .int .u32 (vl p), .int .u32 (vl v), .int .u32 (vl f), .int .u32 (vl u), .int .u32 (vl z)])
  clear hTv hTf hTu hTz
  go_enter Tryd.func65, Tryd.ntmps65
  go_wp2
  obtain ⟨w1, hw1⟩ : ∃ w1, w1 = w.alloc (.cells #[.int .u32 (vl s), .int .u32 (vl p), .int .u32 (vl v), .int .u32 (vl f), .int .u32 (vl u), .int .u32 (vl z)] 61) := ⟨_, rfl⟩
  have HB1 := Lib.hid (show Below w.heap.size w w1 by rw [hw1]; exact Geom.bel_alloc _ _)
  rw [show w.alloc (.cells ([.int .u32 (vl s), .int .u32 (vl p), .int .u32 (vl v), .int .u32 (vl f), .int .u32 (vl u), .int .u32 (vl z)] : List Value).toArray 61) = w1 from hw1.symm] at HV
  rw [← hw1]
  clear hw1
  refine wp_region_is [3, 4, 5, 6, 7, 8, 9, 10, 11, 12, 13, 14, 15, 16, 17, 2] (fun w' => Below w1.heap.size w1 w')
    [.pointer (some ⟨w.heap.size, 2, none⟩), .int .u32 (vl v), .string Tv, .pointer (some ⟨w.heap.size, 3, none⟩), .int .u32 (vl f), .string Tf, .string (Tv ++ Tf), .pointer (some ⟨w.heap.size, 4, none⟩), .int .u32 (vl u), .string Tu, .string (Tv ++ Tf ++ Tu), .pointer (some ⟨w.heap.size, 5, none⟩), .int .u32 (vl z), .string Tz, .string (Tv ++ Tf ++ Tu ++ Tz), .string (Tv ++ Tf ++ Tu ++ Tz)] (by kernel_rfl) (by kernel_rfl) rfl (by decide) (by simp) (Below.refl _ _).drew ?each ?done
  case each =>
    simp only [Each]
    repeat' (first | exact trivial | refine And.intro ?_ ?_)
    all_goals
      intro ys wx hBx hdeps
      simp only [Deps, Region.binds, List.getD_cons_zero, List.getD_cons_succ, forall_const, and_true] at hdeps
      have q2 := (HV.out.below hBx HV.out.lt).cell (j := 2) rfl
      have q3 := (HV.out.below hBx HV.out.lt).cell (j := 3) rfl
      have q4 := (HV.out.below hBx HV.out.lt).cell (j := 4) rfl
      have q5 := (HV.out.below hBx HV.out.lt).cell (j := 5) rfl
      simp only [hdeps, fill, List.foldl_cons, List.foldl_nil, Act.put, List.setIfInBounds_toArray, List.set_cons_succ, List.set_cons_zero]
      first
        | (go_wp2_with fail; exact ⟨_, rfl, rfl, hBx, Below.refl _ _⟩)
        | (go_wp2_with (go_at_call 68; (with_reducible refine (HPv.out _).mono ?_); rintro e w3 ⟨rfl, hm⟩); exact ⟨_, rfl, rfl, hBx.trans (hm.mono hBx.size), hm⟩)
        | (go_wp2_with (go_at_call 68; (with_reducible refine (HPf.out _).mono ?_); rintro e w3 ⟨rfl, hm⟩); exact ⟨_, rfl, rfl, hBx.trans (hm.mono hBx.size), hm⟩)
        | (go_wp2_with (go_at_call 68; (with_reducible refine (HPu.out _).mono ?_); rintro e w3 ⟨rfl, hm⟩); exact ⟨_, rfl, rfl, hBx.trans (hm.mono hBx.size), hm⟩)
        | (go_wp2_with (go_at_call 68; (with_reducible refine (HPz.out _).mono ?_); rintro e w3 ⟨rfl, hm⟩); exact ⟨_, rfl, rfl, hBx.trans (hm.mono hBx.size), hm⟩)
  case done =>
    intro ys wx hBx hV
    have h2 : ys 2 = .string (Tv ++ Tf ++ Tu ++ Tz) := hV 15 (by decide)
    simp only [h2, fill, List.drop_succ_cons, List.drop_zero, List.foldl_cons, List.foldl_nil, Act.put, List.setIfInBounds_toArray, List.set_cons_succ, List.set_cons_zero]
    go_wp2
    go_ret
    exact ⟨rfl, bel2 HB1.out hBx⟩
end Go.Proofs.YtligapgjdpdihaaDoor.Piece
