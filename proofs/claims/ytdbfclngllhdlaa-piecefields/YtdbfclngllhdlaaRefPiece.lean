/-
  What the document's own PieceRight answers.
-/
import Derived.Test.YtdbfclngllhdlaaPieceM
import Derived.Test.YtdbfclngllhdlaaRefFrame
set_option linter.unusedVariables false
set_option linter.unusedSimpArgs false
namespace Go.Proofs.Ytdbfclngllhdlaa.Piece
open Go.RowKit
open CrcM (W)
open Crc (le4 sumOf vl wd putS)
open Flash (bs bs_size bs_list list_bs)
open Go.Proofs.Ytdbfclngllhdlaa.Frame (Fr zeroF fV bel2 below_drewN)
open Tup Bytes Own

theorem eqI (a b : Int) : (a == b) = decide (a = b) := by rw [Bool.eq_iff_iff]; simp
theorem neI (a b : Int) : (a != b) = !decide (a = b) := by unfold bne; rw [eqI]
theorem isSeq_false {a : W} (h : decide (vl a < 1) = true ∨ decide (2147483647 < vl a) = true) : isSeqB a = false := by
  unfold isSeqB
  rcases h with h | h <;> simp only [decide_eq_true_eq] at h <;> simp <;> omega
theorem isSeq_true {a : W} (h : decide (vl a < 1) = false) (h2 : decide (2147483647 < vl a) = false) : isSeqB a = true := by
  simp only [decide_eq_false_iff_not] at h h2
  unfold isSeqB
  simp; omega
theorem pieceR_not {f : Fr} (h : isSeqB f.a = false) : pieceR f = false := by unfold pieceR; rw [h]; rfl
theorem pieceR_at {f : Fr} (h : isSeqB f.a = true) : pieceR f = (if f.kind = 1 then f.body.isEmpty else if f.kind = 2 then !f.body.isEmpty else if f.kind = 3 then sealR f.a f.b f.body else if f.kind = 4 then floorR f.a f.body else false) := by unfold pieceR; rw [h]; rfl
theorem bs_toList (l : List UInt8) : (bs l).toList = l := by rw [ByteArray.toList_eq]; rfl
theorem bs_empty (l : List UInt8) : ((bs l).toList == ([] : List UInt8)) = l.isEmpty := by
  rw [bs_toList]
  cases l <;> rfl
set_option maxRecDepth 100000 in
set_option maxHeartbeats 8000000 in
theorem refPiece_out (f : Fr) (h : decide (vl f.a < 1) = true ∨ (decide (vl f.a < 1) = false ∧ decide (2147483647 < vl f.a) = true)) (w : World) :
    Calls Try.prog 12 #[fV f] w fun e w' => e = .returned (.bool (pieceR f)) ∧ Below w.heap.size w w' := by
  have HE := Lib.hid (pieceR_not (f := f) (isSeq_false (by rcases h with h | h; exact .inl h; exact .inr h.2)))
  obtain ⟨kd, a, b, body⟩ := f
  unfold fV
  simp only at h ⊢
  rcases h with h1 | ⟨h1, h2⟩
  all_goals
    go_enter Try.func12, Try.ntmps12
    go_wp2
    go_ret
    rw [HE.out]
    exact ⟨rfl, Geom.bel_alloc _ _⟩
set_option maxRecDepth 100000 in
set_option maxHeartbeats 8000000 in
theorem refPiece_plain (f : Fr) (h1 : decide (vl f.a < 1) = false) (h2 : decide (2147483647 < vl f.a) = false) (hk : f.kind ≠ 3 ∧ f.kind ≠ 4) (w : World) :
    Calls Try.prog 12 #[fV f] w fun e w' => e = .returned (.bool (pieceR f)) ∧ Below w.heap.size w w' := by
  have HE := Lib.hid (pieceR_at (f := f) (isSeq_true h1 h2))
  obtain ⟨kd, a, b, body⟩ := f
  unfold fV
  simp only at h1 h2 hk HE ⊢
  have hem := bs_empty body
  obtain ⟨B, hB⟩ : ∃ B, B = bs body := ⟨_, rfl⟩
  rw [← hB] at hem ⊢
  have q3 : (kd == 3) = false := by rw [eqI]; exact decide_eq_false hk.1
  have q4 : (kd == 4) = false := by rw [eqI]; exact decide_eq_false hk.2
  have hc : (kd == 1) = true ∨ ((kd == 1) = false ∧ (kd == 2) = true) ∨ ((kd == 1) = false ∧ (kd == 2) = false) := by
    cases h1 : kd == 1 <;> cases h2 : kd == 2 <;> simp
  have HR := Lib.hid (show pieceR ⟨kd, a, b, body⟩ = if (kd == 1) = true then body.isEmpty else if (kd == 2) = true then !body.isEmpty else false by
    have HE := HE.out
    rw [if_neg hk.1, if_neg hk.2] at HE
    rw [HE]; simp only [beq_iff_eq])
  clear hB hk HE
  rcases hc with h3 | ⟨h3, h4⟩ | ⟨h3, h4⟩
  all_goals
    go_enter Try.func12, Try.ntmps12
    go_wp2
    go_ret
    rw [HR.out]
    first | simp only [h3, h4, if_true, Bool.false_eq_true, if_false] | simp only [h3, if_true, Bool.false_eq_true, if_false]
    first | exact ⟨rfl, Geom.bel_alloc _ _⟩ | (rw [← hem]; exact ⟨rfl, Geom.bel_alloc _ _⟩)
theorem quietGet (body : List UInt8) (hs : body.length ≤ maxLen) (j : Nat) (hj : j + 4 ≤ body.length) (w : World) (k : Nat) :
    Calls Try.prog 17 #[.string (bs body), .int .i64 (j : Int)] (w.drewN k) fun e w' => e = .returned (.int .u32 (le4 body j)) ∧ ∃ n, w' = w.drewN n := by
  have := Crc.refGet_any (bs body) (by rw [bs_size]; exact hs) j (by rw [bs_size]; exact hj) (w.drewN k)
  rw [list_bs] at this
  exact this.mono fun _ _ ⟨h, m, hm⟩ => ⟨h, k + m, by rw [hm, World.drewN_drewN]⟩
set_option maxRecDepth 100000 in
set_option maxHeartbeats 16000000 in
theorem refPiece_seal (a b : W) (body : List UInt8) (hs : body.length ≤ maxLen) (h1 : decide (vl a < 1) = false) (h2 : decide (2147483647 < vl a) = false) (w : World) :
    Calls Try.prog 12 #[fV ⟨3, a, b, body⟩] w fun e w' => e = .returned (.bool (sealR a b body)) ∧ Below w.heap.size w w' := by
  have HG0 : Hid (body.length = 16 → ∀ (w : World) (k : Nat), Calls Try.prog 17 #[.string (bs body), .int .i64 0] (w.drewN k) fun e w' => e = .returned (.int .u32 (le4 body 0)) ∧ ∃ n, w' = w.drewN n) := fun hk w k => quietGet body hs 0 (by omega) w k
  have HG4 : Hid (body.length = 16 → ∀ (w : World) (k : Nat), Calls Try.prog 17 #[.string (bs body), .int .i64 4] (w.drewN k) fun e w' => e = .returned (.int .u32 (le4 body 4)) ∧ ∃ n, w' = w.drewN n) := fun hk w k => quietGet body hs 4 (by omega) w k
  have HG12 : Hid (body.length = 16 → ∀ (w : World) (k : Nat), Calls Try.prog 17 #[.string (bs body), .int .i64 12] (w.drewN k) fun e w' => e = .returned (.int .u32 (le4 body 12)) ∧ ∃ n, w' = w.drewN n) := fun hk w k => quietGet body hs 12 (by omega) w k
  unfold fV
  simp only
  have hz : ((bs body).size : Int) = (body.length : Int) := by rw [bs_size]
  obtain ⟨B, hB⟩ : ∃ B, B = bs body := ⟨_, rfl⟩
  rw [← hB] at HG0 HG4 HG12 hz ⊢
  have HE := Lib.hid (show sealR a b body = ((vl b != 0) && ((body.length : Int) == 16) && decide (le4 body 0 < vl a) && decide (1 ≤ le4 body 4) && decide (le4 body 4 ≤ vl a) && (le4 body 12 != 0)) from rfl)
  obtain ⟨n, hn⟩ : ∃ n : Nat, n = body.length := ⟨_, rfl⟩
  rw [← hn] at HE HG0 HG4 HG12 hz
  obtain ⟨x0, hx0⟩ : ∃ x0, x0 = le4 body 0 := ⟨_, rfl⟩
  obtain ⟨x4, hx4⟩ : ∃ x4, x4 = le4 body 4 := ⟨_, rfl⟩
  obtain ⟨x12, hx12⟩ : ∃ x12, x12 = le4 body 12 := ⟨_, rfl⟩
  rw [← hx0, ← hx4, ← hx12] at HE
  rw [← hx0] at HG0
  rw [← hx4] at HG4
  rw [← hx12] at HG12
  clear hn hB hs hx0 hx4 hx12
  have hc : (vl b == 0) = true ∨ ((vl b == 0) = false ∧ ((n : Int) == 16) = false) ∨ ((vl b == 0) = false ∧ ((n : Int) == 16) = true ∧ decide (x0 < vl a) = false) ∨ ((vl b == 0) = false ∧ ((n : Int) == 16) = true ∧ decide (x0 < vl a) = true ∧ decide (1 ≤ x4) = false) ∨ ((vl b == 0) = false ∧ ((n : Int) == 16) = true ∧ decide (x0 < vl a) = true ∧ decide (1 ≤ x4) = true ∧ decide (x4 ≤ vl a) = false) ∨ ((vl b == 0) = false ∧ ((n : Int) == 16) = true ∧ decide (x0 < vl a) = true ∧ decide (1 ≤ x4) = true ∧ decide (x4 ≤ vl a) = true ∧ (x12 == 0) = true) ∨ ((vl b == 0) = false ∧ ((n : Int) == 16) = true ∧ decide (x0 < vl a) = true ∧ decide (1 ≤ x4) = true ∧ decide (x4 ≤ vl a) = true ∧ (x12 == 0) = false) := by
    cases vl b == 0 <;> cases (n : Int) == 16 <;> cases decide (x0 < vl a) <;> cases decide (1 ≤ x4) <;> cases decide (x4 ≤ vl a) <;> cases x12 == 0 <;> simp
  rcases hc with t1 | ⟨t1, t2⟩ | ⟨t1, t2, t3⟩ | ⟨t1, t2, t3, t4⟩ | ⟨t1, t2, t3, t4, t5⟩ | ⟨t1, t2, t3, t4, t5, t6⟩ | ⟨t1, t2, t3, t4, t5, t6⟩
  case _ =>
    have HR := Lib.hid (show sealR a b body = false by rw [HE.out]; simp [bne, t1])
    have u1 : (vl b != 0) = false := by simp [bne, t1]
    clear HE
    go_enter Try.func12, Try.ntmps12
    go_wp2
    go_quiet (fail)
    go_wp2
    go_ret
    rw [HR.out]
    exact ⟨rfl, below_draw (Geom.bel_alloc _ _) ⟨_, rfl⟩⟩
  case _ =>
    have HR := Lib.hid (show sealR a b body = false by rw [HE.out]; simp [bne, t1, t2])
    have u1 : (vl b != 0) = true := by simp [bne, t1]
    clear HE
    go_enter Try.func12, Try.ntmps12
    go_wp2
    go_quiet (fail)
    go_wp2
    go_ret
    rw [HR.out]
    exact ⟨rfl, below_draw (Geom.bel_alloc _ _) ⟨_, rfl⟩⟩
  case _ =>
    have HR := Lib.hid (show sealR a b body = false by rw [HE.out]; simp [bne, t1, t2, t3])
    have u1 : (vl b != 0) = true := by simp [bne, t1]
    have H16 := Lib.hid (show n = 16 by rw [beq_iff_eq] at t2; omega)
    clear HE
    go_enter Try.func12, Try.ntmps12
    go_wp2
    go_quiet (first | (go_at_call 17; with_reducible exact HG0.out H16.out _ _))
    go_wp2
    go_ret
    rw [HR.out]
    exact ⟨rfl, below_draw (Geom.bel_alloc _ _) ⟨_, rfl⟩⟩
  case _ =>
    have HR := Lib.hid (show sealR a b body = false by rw [HE.out]; simp [bne, t1, t2, t3, t4])
    have u1 : (vl b != 0) = true := by simp [bne, t1]
    have H16 := Lib.hid (show n = 16 by rw [beq_iff_eq] at t2; omega)
    clear HE
    go_enter Try.func12, Try.ntmps12
    go_wp2
    go_quiet (first | (go_at_call 17; with_reducible exact HG0.out H16.out _ _) | (go_at_call 17; with_reducible exact HG4.out H16.out _ _))
    go_wp2
    go_ret
    rw [HR.out]
    exact ⟨rfl, below_draw (Geom.bel_alloc _ _) ⟨_, rfl⟩⟩
  case _ =>
    have HR := Lib.hid (show sealR a b body = false by rw [HE.out]; simp [bne, t1, t2, t3, t4, t5])
    have u1 : (vl b != 0) = true := by simp [bne, t1]
    have H16 := Lib.hid (show n = 16 by rw [beq_iff_eq] at t2; omega)
    clear HE
    go_enter Try.func12, Try.ntmps12
    go_wp2
    go_quiet (first | (go_at_call 17; with_reducible exact HG0.out H16.out _ _) | (go_at_call 17; with_reducible exact HG4.out H16.out _ _))
    go_wp2
    go_ret
    rw [HR.out]
    exact ⟨rfl, below_draw (Geom.bel_alloc _ _) ⟨_, rfl⟩⟩
  case _ =>
    have HR := Lib.hid (show sealR a b body = false by rw [HE.out]; simp [bne, t1, t2, t3, t4, t5, t6])
    have u1 : (vl b != 0) = true := by simp [bne, t1]
    have H16 := Lib.hid (show n = 16 by rw [beq_iff_eq] at t2; omega)
    have u6 : (x12 != 0) = false := by simp [bne, t6]
    clear HE
    go_enter Try.func12, Try.ntmps12
    go_wp2
    go_quiet (first | (go_at_call 17; with_reducible exact HG0.out H16.out _ _) | (go_at_call 17; with_reducible exact HG4.out H16.out _ _) | (go_at_call 17; with_reducible exact HG12.out H16.out _ _))
    go_wp2
    go_ret
    rw [HR.out]
    exact ⟨rfl, below_draw (Geom.bel_alloc _ _) ⟨_, rfl⟩⟩
  case _ =>
    have HR := Lib.hid (show sealR a b body = true by rw [HE.out]; simp [bne, t1, t2, t3, t4, t5, t6])
    have u1 : (vl b != 0) = true := by simp [bne, t1]
    have H16 := Lib.hid (show n = 16 by rw [beq_iff_eq] at t2; omega)
    have u6 : (x12 != 0) = true := by simp [bne, t6]
    clear HE
    go_enter Try.func12, Try.ntmps12
    go_wp2
    go_quiet (first | (go_at_call 17; with_reducible exact HG0.out H16.out _ _) | (go_at_call 17; with_reducible exact HG4.out H16.out _ _) | (go_at_call 17; with_reducible exact HG12.out H16.out _ _))
    go_wp2
    go_ret
    rw [HR.out]
    exact ⟨rfl, below_draw (Geom.bel_alloc _ _) ⟨_, rfl⟩⟩
set_option maxRecDepth 100000 in
set_option maxHeartbeats 16000000 in
theorem refPiece_floor (a b : W) (body : List UInt8) (hs : body.length ≤ maxLen) (h1 : decide (vl a < 1) = false) (h2 : decide (2147483647 < vl a) = false) (w : World) :
    Calls Try.prog 12 #[fV ⟨4, a, b, body⟩] w fun e w' => e = .returned (.bool (floorR a body)) ∧ Below w.heap.size w w' := by
  have HG0 : Hid (body.length = 4 → ∀ (w : World) (k : Nat), Calls Try.prog 17 #[.string (bs body), .int .i64 0] (w.drewN k) fun e w' => e = .returned (.int .u32 (le4 body 0)) ∧ ∃ n, w' = w.drewN n) := fun hk w k => quietGet body hs 0 (by omega) w k
  unfold fV
  simp only
  have hz : ((bs body).size : Int) = (body.length : Int) := by rw [bs_size]
  obtain ⟨B, hB⟩ : ∃ B, B = bs body := ⟨_, rfl⟩
  rw [← hB] at HG0 hz ⊢
  have HE := Lib.hid (show floorR a body = (((body.length : Int) == 4) && decide (le4 body 0 ≤ vl a)) from rfl)
  obtain ⟨n, hn⟩ : ∃ n : Nat, n = body.length := ⟨_, rfl⟩
  rw [← hn] at HE HG0 hz
  obtain ⟨x0, hx0⟩ : ∃ x0, x0 = le4 body 0 := ⟨_, rfl⟩
  rw [← hx0] at HE HG0
  clear hn hB hs hx0
  have hc : ((n : Int) == 4) = false ∨ (((n : Int) == 4) = true ∧ decide (x0 ≤ vl a) = false) ∨ (((n : Int) == 4) = true ∧ decide (x0 ≤ vl a) = true) := by
    cases (n : Int) == 4 <;> cases decide (x0 ≤ vl a) <;> simp
  rcases hc with t1 | ⟨t1, t2⟩ | ⟨t1, t2⟩
  case _ =>
    have HR := Lib.hid (show floorR a body = false by rw [HE.out]; simp [t1])
    clear HE
    go_enter Try.func12, Try.ntmps12
    go_wp2
    go_quiet (fail)
    go_wp2
    go_ret
    rw [HR.out]
    exact ⟨rfl, below_draw (Geom.bel_alloc _ _) ⟨_, rfl⟩⟩
  case _ =>
    have HR := Lib.hid (show floorR a body = false by rw [HE.out]; simp [t1, t2])
    have H16 := Lib.hid (show n = 4 by rw [beq_iff_eq] at t1; omega)
    clear HE
    go_enter Try.func12, Try.ntmps12
    go_wp2
    go_quiet ((go_at_call 17; with_reducible exact HG0.out H16.out _ _))
    go_wp2
    go_ret
    rw [HR.out]
    exact ⟨rfl, below_draw (Geom.bel_alloc _ _) ⟨_, rfl⟩⟩
  case _ =>
    have HR := Lib.hid (show floorR a body = true by rw [HE.out]; simp [t1, t2])
    have H16 := Lib.hid (show n = 4 by rw [beq_iff_eq] at t1; omega)
    clear HE
    go_enter Try.func12, Try.ntmps12
    go_wp2
    go_quiet ((go_at_call 17; with_reducible exact HG0.out H16.out _ _))
    go_wp2
    go_ret
    rw [HR.out]
    exact ⟨rfl, below_draw (Geom.bel_alloc _ _) ⟨_, rfl⟩⟩
theorem refPiece_any (f : Fr) (hs : f.body.length ≤ maxLen) (w : World) :
    Calls Try.prog 12 #[fV f] w fun e w' => e = .returned (.bool (pieceR f)) ∧ Below w.heap.size w w' := by
  by_cases h1 : decide (vl f.a < 1) = true
  · exact refPiece_out f (.inl h1) w
  have h1 : decide (vl f.a < 1) = false := by simpa using h1
  by_cases h2 : decide (2147483647 < vl f.a) = true
  · exact refPiece_out f (.inr ⟨h1, h2⟩) w
  have h2 : decide (2147483647 < vl f.a) = false := by simpa using h2
  by_cases h3 : f.kind = 3
  · have e := pieceR_at (isSeq_true h1 h2)
    obtain ⟨kd, a, b, body⟩ := f
    simp only at h3 e
    subst h3
    rw [e]
    exact refPiece_seal a b body hs h1 h2 w
  by_cases h4 : f.kind = 4
  · have e := pieceR_at (isSeq_true h1 h2)
    obtain ⟨kd, a, b, body⟩ := f
    simp only at h4 e
    subst h4
    rw [e]
    exact refPiece_floor a b body hs h1 h2 w
  exact refPiece_plain f h1 h2 ⟨h3, h4⟩ w
end Go.Proofs.Ytdbfclngllhdlaa.Piece
