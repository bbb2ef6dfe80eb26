/-
  What package piece's Of answers.
-/
import Derived.Test.YtdbfclngllhdlaaPieceXb
set_option linter.unusedVariables false
set_option linter.unusedSimpArgs false
namespace Go.Proofs.Ytdbfclngllhdlaa.Piece
open Go.RowKit
open CrcM (W)
open Crc (le4 sumOf vl wd putS)
open Flash (bs bs_size bs_list list_bs)
open Go.Proofs.Ytdbfclngllhdlaa.Frame (Fr zeroF fV bel2 below_drewN)
open Tup Bytes Own
open Go.Proofs.Ytdbfclngllhdlaa.Region (fill Then Deps Each wp_region_is wp_region_is_tail wp_region_each wp_region_tail)
theorem okSeal {a b : W} {l : List UInt8} (h : ((l.length : Int) == 16) = true) : sealPR a b (getZ l 0) (getZ l 4) (getZ l 12) = (isSeqB a && sealR a b l) := by
  have hl : l.length = 16 := by rw [beq_iff_eq] at h; omega
  have hb := Crc.vl_range b
  have e0 : vl (getZ l 0) = le4 l 0 := by unfold getZ; rw [if_pos (by omega), wd_le4]
  have e4 : vl (getZ l 4) = le4 l 4 := by unfold getZ; rw [if_pos (by omega), wd_le4]
  have e12 : vl (getZ l 12) = le4 l 12 := by unfold getZ; rw [if_pos (by omega), wd_le4]
  have p12 : 0 ≤ le4 l 12 := by rw [← wd_le4]; exact (Crc.vl_range _).1
  unfold sealPR sealR
  rw [e0, e4, e12, h, neI, neI]
  have q1 : decide (0 < vl b) = !decide (vl b = 0) := by rw [← decide_not, decide_eq_decide]; omega
  have q2 : decide (0 < le4 l 12) = !decide (le4 l 12 = 0) := by rw [← decide_not, decide_eq_decide]; omega
  rw [q1, q2]
  cases isSeqB a <;> cases decide (vl b = 0) <;> cases decide (le4 l 0 < vl a) <;> cases decide (1 ≤ le4 l 4) <;> cases decide (le4 l 4 ≤ vl a) <;> cases decide (le4 l 12 = 0) <;> rfl
theorem okFloor {a : W} {l : List UInt8} (h : ((l.length : Int) == 4) = true) : floorPR a (getZ l 0) = (isSeqB a && floorR a l) := by
  have hl : l.length = 4 := by rw [beq_iff_eq] at h; omega
  have e0 : vl (getZ l 0) = le4 l 0 := by unfold getZ; rw [if_pos (by omega), wd_le4]
  unfold floorPR floorR
  rw [e0, h]
  rfl
theorem rightS {a b : W} {l : List UInt8} (h : ((l.length : Int) == 16) = true) : pieceR ⟨3, a, b, l⟩ = sealPR a b (getZ l 0) (getZ l 4) (getZ l 12) := by rw [okSeal h]; rfl
theorem rightS_not {a b : W} {l : List UInt8} (h : ((l.length : Int) == 16) = false) : pieceR ⟨3, a, b, l⟩ = false := by
  show (isSeqB a && sealR a b l) = false
  unfold sealR; rw [h]; cases isSeqB a <;> cases vl b != 0 <;> rfl
theorem rightF {a b : W} {l : List UInt8} (h : ((l.length : Int) == 4) = true) : pieceR ⟨4, a, b, l⟩ = floorPR a (getZ l 0) := by rw [okFloor h]; rfl
theorem rightF_not {a b : W} {l : List UInt8} (h : ((l.length : Int) == 4) = false) : pieceR ⟨4, a, b, l⟩ = false := by
  show (isSeqB a && floorR a l) = false
  unfold floorR; rw [h]; cases isSeqB a <;> rfl
theorem getZ_at {l : List UInt8} {k : Nat} (h : k + 4 ≤ l.length) : getZ l k = wd (le4 l k) := by unfold getZ; rw [if_pos h]
theorem ofF_val {f : Fr} {p : Pc} (h : pieceR f = true) (hp : pcOf f = p) : ofF f = (p, 0) := by rw [ofF_ok h, hp]
set_option maxRecDepth 100000 in
set_option maxHeartbeats 8000000 in
theorem of_head (a b : W) (body : List UInt8) (w : World) : Calls Try.prog 10 #[fV ⟨1, a, b, body⟩] w fun e w' => e = .returned (.tuple #[pcV (ofF ⟨1, a, b, body⟩).1, .int .i64 ((ofF ⟨1, a, b, body⟩).2 : Int)]) ∧ Below w.heap.size w w' := by
  have HR := Lib.hid (fun w => headRight_any a b w)
  have HE := Lib.hid (show pieceR ⟨1, a, b, body⟩ = (isSeqB a && body.isEmpty) from rfl)
  have HY : Hid (pieceR ⟨1, a, b, body⟩ = true → ofF ⟨1, a, b, body⟩ = (.head a b, 0)) := fun h => ofF_val h rfl
  have HN : Hid (pieceR ⟨1, a, b, body⟩ = false → ofF ⟨1, a, b, body⟩ = (.none, 2)) := fun h => ofF_not h
  generalize ofF ⟨1, a, b, body⟩ = r at *
  unfold headV at HR
  unfold fV
  simp only
  have hem := bs_empty body
  have hz : ((bs body).size : Int) = (body.length : Int) := by rw [bs_size]
  obtain ⟨B, hB⟩ : ∃ B, B = bs body := ⟨_, rfl⟩
  rw [← hB] at hem hz ⊢
  clear hB
  have hsz1 : (w.alloc (.cells #[.int .i64 1, .int .u32 (vl a), .int .u32 (vl b), .string B] 24)).heap.size = w.heap.size + 1 := by simp
  obtain ⟨w1, hw1⟩ : ∃ w1, w1 = (w.alloc (.cells #[.int .i64 1, .int .u32 (vl a), .int .u32 (vl b), .string B] 24)).alloc (.cells #[.int .u32 (vl a), .int .u32 (vl b)] 55) := ⟨_, rfl⟩
  have HB1 := Lib.hid (show Below w.heap.size w w1 by rw [hw1]; exact bel2 (Geom.bel_alloc _ _) (Geom.bel_alloc _ _))
  have HF1 := Lib.hid (show Var w1 w.heap.size 24 [.int .i64 1, .int .u32 (vl a), .int .u32 (vl b), .string B] by rw [hw1]; exact (Var.new w _ _).alloc _)
  have HP1 := Lib.hid (show Var w1 (w.heap.size + 1) 55 [.int .u32 (vl a), .int .u32 (vl b)] by
    have := Var.new (w.alloc (.cells #[.int .i64 1, .int .u32 (vl a), .int .u32 (vl b), .string B] 24)) 55 [.int .u32 (vl a), .int .u32 (vl b)]
    rw [hsz1] at this
    rw [hw1]; exact this)
  generalize isSeqB a = q at *
  generalize body.isEmpty = z at *
  generalize pieceR ⟨1, a, b, body⟩ = pr at *
  have hc : (z = true ∧ q = true) ∨ (z = true ∧ q = false) ∨ z = false := by cases z <;> cases q <;> simp
  rcases hc with ⟨rfl, rfl⟩ | ⟨rfl, rfl⟩ | rfl
  case inl =>
    obtain rfl := HY.out HE.out
    show Calls Try.prog _ _ _ fun e w' => e = .returned (.tuple #[.iface 55 (.agg #[.int .u32 (vl a), .int .u32 (vl b)]), .int .i64 0]) ∧ Below w.heap.size w w'
    go_enter Try.func10, Try.ntmps10
    go_wp2_with (go_at_call 26; ((with_reducible refine (HR.out _).mono ?_); rintro e w5 ⟨rfl, bz⟩; have hbel : Below w1.heap.size w1 w5 := (by rw [hw1]; exact bz); have BW5 := Lib.hid (bel2 HB1.out hbel); have q0 := (HP1.out.below hbel HP1.out.lt).cell (j := 0) rfl; have q1 := (HP1.out.below hbel HP1.out.lt).cell (j := 1) rfl; clear hbel bz))
    go_ret2
    exact ⟨rfl, BW5.out⟩
  case inr.inl =>
    obtain rfl := HN.out HE.out
    show Calls Try.prog _ _ _ fun e w' => e = .returned (.tuple #[.nilIface, .int .i64 2]) ∧ Below w.heap.size w w'
    go_enter Try.func10, Try.ntmps10
    go_wp2_with (go_at_call 26; ((with_reducible refine (HR.out _).mono ?_); rintro e w5 ⟨rfl, bz⟩; have hbel : Below w1.heap.size w1 w5 := (by rw [hw1]; exact bz); have BW5 := Lib.hid (bel2 HB1.out hbel); have q0 := (HP1.out.below hbel HP1.out.lt).cell (j := 0) rfl; have q1 := (HP1.out.below hbel HP1.out.lt).cell (j := 1) rfl; clear hbel bz))
    go_ret2
    exact ⟨rfl, BW5.out⟩
  case inr.inr =>
    obtain rfl := HN.out (by rw [HE.out]; simp)
    show Calls Try.prog _ _ _ fun e w' => e = .returned (.tuple #[.nilIface, .int .i64 2]) ∧ Below w.heap.size w w'
    go_enter Try.func10, Try.ntmps10
    go_wp2
    go_ret2
    exact ⟨rfl, bel2 (Geom.bel_alloc _ _) (Geom.bel_alloc _ _)⟩
set_option maxRecDepth 100000 in
set_option maxHeartbeats 8000000 in
theorem of_part (a b : W) (body : List UInt8) (w : World) : Calls Try.prog 10 #[fV ⟨2, a, b, body⟩] w fun e w' => e = .returned (.tuple #[pcV (ofF ⟨2, a, b, body⟩).1, .int .i64 ((ofF ⟨2, a, b, body⟩).2 : Int)]) ∧ Below w.heap.size w w' := by
  have HR := Lib.hid (fun w => partRight_any a b body w)
  have HE := Lib.hid (show pieceR ⟨2, a, b, body⟩ = partR a body from rfl)
  have HY : Hid (pieceR ⟨2, a, b, body⟩ = true → ofF ⟨2, a, b, body⟩ = (.part a b body, 0)) := fun h => ofF_val h rfl
  have HN : Hid (pieceR ⟨2, a, b, body⟩ = false → ofF ⟨2, a, b, body⟩ = (.none, 2)) := fun h => ofF_not h
  generalize ofF ⟨2, a, b, body⟩ = r at *
  have HV := Lib.hid (show pcV (.part a b body) = .iface 39 (.agg #[.int .u32 (vl a), .int .u32 (vl b), .string (bs body)]) from rfl)
  unfold partV at HR
  unfold fV
  simp only
  obtain ⟨B, hB⟩ : ∃ B, B = bs body := ⟨_, rfl⟩
  rw [← hB] at HR HV ⊢
  clear hB
  have hsz1 : (w.alloc (.cells #[.int .i64 2, .int .u32 (vl a), .int .u32 (vl b), .string B] 24)).heap.size = w.heap.size + 1 := by simp
  obtain ⟨w1, hw1⟩ : ∃ w1, w1 = (w.alloc (.cells #[.int .i64 2, .int .u32 (vl a), .int .u32 (vl b), .string B] 24)).alloc (.cells #[.int .u32 (vl a), .int .u32 (vl b), .string B] 39) := ⟨_, rfl⟩
  have HB1 := Lib.hid (show Below w.heap.size w w1 by rw [hw1]; exact bel2 (Geom.bel_alloc _ _) (Geom.bel_alloc _ _))
  have HF1 := Lib.hid (show Var w1 w.heap.size 24 [.int .i64 2, .int .u32 (vl a), .int .u32 (vl b), .string B] by rw [hw1]; exact (Var.new w _ _).alloc _)
  have HP1 := Lib.hid (show Var w1 (w.heap.size + 1) 39 [.int .u32 (vl a), .int .u32 (vl b), .string B] by
    have := Var.new (w.alloc (.cells #[.int .i64 2, .int .u32 (vl a), .int .u32 (vl b), .string B] 24)) 39 [.int .u32 (vl a), .int .u32 (vl b), .string B]
    rw [hsz1] at this
    rw [hw1]; exact this)
  generalize partR a body = q at *
  generalize pieceR ⟨2, a, b, body⟩ = pr at *
  cases q
  case true =>
    obtain rfl := HY.out HE.out
    simp only [HV.out]
    show Calls Try.prog _ _ _ fun e w' => e = .returned (.tuple #[.iface 39 (.agg #[.int .u32 (vl a), .int .u32 (vl b), .string B]), .int .i64 0]) ∧ Below w.heap.size w w'
    go_enter Try.func10, Try.ntmps10
    go_wp2_with (go_at_call 27; ((with_reducible refine (HR.out _).mono ?_); rintro e w5 ⟨rfl, bz⟩; have hbel : Below w1.heap.size w1 w5 := (by rw [hw1]; exact bz); have BW5 := Lib.hid (bel2 HB1.out hbel); have q0 := (HP1.out.below hbel HP1.out.lt).cell (j := 0) rfl; have q1 := (HP1.out.below hbel HP1.out.lt).cell (j := 1) rfl; have q2 := (HP1.out.below hbel HP1.out.lt).cell (j := 2) rfl; clear hbel bz))
    go_ret2
    exact ⟨rfl, BW5.out⟩
  case false =>
    obtain rfl := HN.out HE.out
    show Calls Try.prog _ _ _ fun e w' => e = .returned (.tuple #[.nilIface, .int .i64 2]) ∧ Below w.heap.size w w'
    go_enter Try.func10, Try.ntmps10
    go_wp2_with (go_at_call 27; ((with_reducible refine (HR.out _).mono ?_); rintro e w5 ⟨rfl, bz⟩; have hbel : Below w1.heap.size w1 w5 := (by rw [hw1]; exact bz); have BW5 := Lib.hid (bel2 HB1.out hbel); have q0 := (HP1.out.below hbel HP1.out.lt).cell (j := 0) rfl; have q1 := (HP1.out.below hbel HP1.out.lt).cell (j := 1) rfl; have q2 := (HP1.out.below hbel HP1.out.lt).cell (j := 2) rfl; clear hbel bz))
    go_ret2
    exact ⟨rfl, BW5.out⟩
set_option maxRecDepth 100000 in
set_option maxHeartbeats 8000000 in
theorem of_fin (a b : W) (body : List UInt8) (hs : body.length ≤ maxLen) (w : World) : Calls Try.prog 10 #[fV ⟨3, a, b, body⟩] w fun e w' => e = .returned (.tuple #[pcV (ofF ⟨3, a, b, body⟩).1, .int .i64 ((ofF ⟨3, a, b, body⟩).2 : Int)]) ∧ Below w.heap.size w w' := by
  have HO := Lib.hid (fun w => sealOf_any ⟨3, a, b, body⟩ hs w)
  have HR := Lib.hid (fun w => sealRight_any a b (getZ body 0) (getZ body 4) (getZ body 8) (getZ body 12) w)
  have HE : Hid (((body.length : Int) == 16) = true → pieceR ⟨3, a, b, body⟩ = sealPR a b (getZ body 0) (getZ body 4) (getZ body 12)) := fun h => rightS h
  have HM : Hid (((body.length : Int) == 16) = false → pieceR ⟨3, a, b, body⟩ = false) := fun h => rightS_not h
  have HY : Hid (((body.length : Int) == 16) = true → pieceR ⟨3, a, b, body⟩ = true → ofF ⟨3, a, b, body⟩ = (.fin a b (getZ body 0) (getZ body 4) (getZ body 8) (getZ body 12), 0)) := fun h hp => ofF_val hp (by
    have hl : body.length = 16 := by rw [beq_iff_eq] at h; omega
    simp only [pcOf, if_true, if_neg (show ¬ (3 : Int) = 1 by decide), if_neg (show ¬ (3 : Int) = 2 by decide)]
    simp only [getZ_at (show 0 + 4 ≤ body.length by omega), getZ_at (show 4 + 4 ≤ body.length by omega), getZ_at (show 8 + 4 ≤ body.length by omega), getZ_at (show 12 + 4 ≤ body.length by omega)])
  have HN : Hid (pieceR ⟨3, a, b, body⟩ = false → ofF ⟨3, a, b, body⟩ = (.none, 2)) := fun h => ofF_not h
  generalize ofF ⟨3, a, b, body⟩ = r at *
  generalize pieceR ⟨3, a, b, body⟩ = pr at *
  generalize sealPR a b (getZ body 0) (getZ body 4) (getZ body 12) = q at *
  unfold sealOfF sealV at HO
  unfold sealV at HR
  unfold fV at HO ⊢
  simp only at HO ⊢
  generalize getZ body 0 = g0 at *
  generalize getZ body 4 = g4 at *
  generalize getZ body 8 = g8 at *
  generalize getZ body 12 = g12 at *
  have hz : ((bs body).size : Int) = (body.length : Int) := by rw [bs_size]
  obtain ⟨B, hB⟩ : ∃ B, B = bs body := ⟨_, rfl⟩
  rw [← hB] at HO hz ⊢
  obtain ⟨n, hn⟩ : ∃ n : Nat, n = body.length := ⟨_, rfl⟩
  rw [← hn] at hz HE HM HY
  clear hB hn hs
  obtain ⟨w1, hw1⟩ : ∃ w1, w1 = w.alloc (.cells #[.int .i64 3, .int .u32 (vl a), .int .u32 (vl b), .string B] 24) := ⟨_, rfl⟩
  have HB1 := Lib.hid (show Below w.heap.size w w1 by rw [hw1]; exact Geom.bel_alloc _ _)
  have HF1 := Lib.hid (show Var w1 w.heap.size 24 [.int .i64 3, .int .u32 (vl a), .int .u32 (vl b), .string B] by rw [hw1]; exact Var.new w _ _)
  have hc : (((n : Int) == 16) = true ∧ q = true) ∨ (((n : Int) == 16) = true ∧ q = false) ∨ ((n : Int) == 16) = false := by cases (n : Int) == 16 <;> cases q <;> simp
  rcases hc with ⟨t1, rfl⟩ | ⟨t1, rfl⟩ | t1
  case inl =>
    obtain rfl := HY.out t1 (HE.out t1)
    show Calls Try.prog _ _ _ fun e w' => e = .returned (.tuple #[.iface 43 (.agg #[.int .u32 (vl a), .int .u32 (vl b), .int .u32 (vl g0), .int .u32 (vl g4), .int .u32 (vl g8), .int .u32 (vl g12)]), .int .i64 0]) ∧ Below w.heap.size w w'
    go_enter Try.func10, Try.ntmps10
    go_wp2_with (first | (go_at_call 28; ((with_reducible refine (HO.out _).mono ?_); rintro e w3 ⟨rfl, bz⟩; have hbel : Below w1.heap.size w1 w3 := (by rw [hw1]; exact bz); obtain ⟨w4, hw4⟩ : ∃ w4, w4 = w3.alloc (.cells #[.int .u32 (vl a), .int .u32 (vl b), .int .u32 (vl g0), .int .u32 (vl g4), .int .u32 (vl g8), .int .u32 (vl g12)] 43) := ⟨_, rfl⟩; have BW4 := Lib.hid (show Below w.heap.size w w4 from by rw [hw4]; exact bel2 (bel2 HB1.out hbel) (Geom.bel_alloc _ _)); have HP4 := Lib.hid (show Var w4 w3.heap.size 43 [.int .u32 (vl a), .int .u32 (vl b), .int .u32 (vl g0), .int .u32 (vl g4), .int .u32 (vl g8), .int .u32 (vl g12)] by rw [hw4]; exact Var.new _ _ _); have vf := (HF1.out.below hbel HF1.out.lt).alloc (.cells #[.int .u32 (vl a), .int .u32 (vl b), .int .u32 (vl g0), .int .u32 (vl g4), .int .u32 (vl g8), .int .u32 (vl g12)] 43); have x3 := vf.cell (j := 3) rfl; clear hbel bz vf)) | (go_at_call 29; ((with_reducible refine (HR.out _).mono ?_); rintro e w5 ⟨rfl, bz⟩; have hbel : Below w4.heap.size w4 w5 := (by rw [hw4]; exact bz); have BW5 := Lib.hid (bel2 BW4.out hbel); have q0 := (HP4.out.below hbel HP4.out.lt).cell (j := 0) rfl; have q1 := (HP4.out.below hbel HP4.out.lt).cell (j := 1) rfl; have q2 := (HP4.out.below hbel HP4.out.lt).cell (j := 2) rfl; have q3 := (HP4.out.below hbel HP4.out.lt).cell (j := 3) rfl; have q4 := (HP4.out.below hbel HP4.out.lt).cell (j := 4) rfl; have q5 := (HP4.out.below hbel HP4.out.lt).cell (j := 5) rfl; clear hbel bz)))
    go_ret2
    exact ⟨rfl, BW5.out⟩
  case inr.inl =>
    obtain rfl := HN.out (HE.out t1)
    show Calls Try.prog _ _ _ fun e w' => e = .returned (.tuple #[.nilIface, .int .i64 2]) ∧ Below w.heap.size w w'
    go_enter Try.func10, Try.ntmps10
    go_wp2_with (first | (go_at_call 28; ((with_reducible refine (HO.out _).mono ?_); rintro e w3 ⟨rfl, bz⟩; have hbel : Below w1.heap.size w1 w3 := (by rw [hw1]; exact bz); obtain ⟨w4, hw4⟩ : ∃ w4, w4 = w3.alloc (.cells #[.int .u32 (vl a), .int .u32 (vl b), .int .u32 (vl g0), .int .u32 (vl g4), .int .u32 (vl g8), .int .u32 (vl g12)] 43) := ⟨_, rfl⟩; have BW4 := Lib.hid (show Below w.heap.size w w4 from by rw [hw4]; exact bel2 (bel2 HB1.out hbel) (Geom.bel_alloc _ _)); have HP4 := Lib.hid (show Var w4 w3.heap.size 43 [.int .u32 (vl a), .int .u32 (vl b), .int .u32 (vl g0), .int .u32 (vl g4), .int .u32 (vl g8), .int .u32 (vl g12)] by rw [hw4]; exact Var.new _ _ _); have vf := (HF1.out.below hbel HF1.out.lt).alloc (.cells #[.int .u32 (vl a), .int .u32 (vl b), .int .u32 (vl g0), .int .u32 (vl g4), .int .u32 (vl g8), .int .u32 (vl g12)] 43); have x3 := vf.cell (j := 3) rfl; clear hbel bz vf)) | (go_at_call 29; ((with_reducible refine (HR.out _).mono ?_); rintro e w5 ⟨rfl, bz⟩; have hbel : Below w4.heap.size w4 w5 := (by rw [hw4]; exact bz); have BW5 := Lib.hid (bel2 BW4.out hbel); have q0 := (HP4.out.below hbel HP4.out.lt).cell (j := 0) rfl; have q1 := (HP4.out.below hbel HP4.out.lt).cell (j := 1) rfl; have q2 := (HP4.out.below hbel HP4.out.lt).cell (j := 2) rfl; have q3 := (HP4.out.below hbel HP4.out.lt).cell (j := 3) rfl; have q4 := (HP4.out.below hbel HP4.out.lt).cell (j := 4) rfl; have q5 := (HP4.out.below hbel HP4.out.lt).cell (j := 5) rfl; clear hbel bz)))
    go_ret2
    exact ⟨rfl, BW5.out⟩
  case inr.inr =>
    obtain rfl := HN.out (HM.out t1)
    show Calls Try.prog _ _ _ fun e w' => e = .returned (.tuple #[.nilIface, .int .i64 2]) ∧ Below w.heap.size w w'
    go_enter Try.func10, Try.ntmps10
    go_wp2_with (go_at_call 28; ((with_reducible refine (HO.out _).mono ?_); rintro e w3 ⟨rfl, bz⟩; have hbel : Below w1.heap.size w1 w3 := (by rw [hw1]; exact bz); obtain ⟨w4, hw4⟩ : ∃ w4, w4 = w3.alloc (.cells #[.int .u32 (vl a), .int .u32 (vl b), .int .u32 (vl g0), .int .u32 (vl g4), .int .u32 (vl g8), .int .u32 (vl g12)] 43) := ⟨_, rfl⟩; have BW4 := Lib.hid (show Below w.heap.size w w4 from by rw [hw4]; exact bel2 (bel2 HB1.out hbel) (Geom.bel_alloc _ _)); have HP4 := Lib.hid (show Var w4 w3.heap.size 43 [.int .u32 (vl a), .int .u32 (vl b), .int .u32 (vl g0), .int .u32 (vl g4), .int .u32 (vl g8), .int .u32 (vl g12)] by rw [hw4]; exact Var.new _ _ _); have vf := (HF1.out.below hbel HF1.out.lt).alloc (.cells #[.int .u32 (vl a), .int .u32 (vl b), .int .u32 (vl g0), .int .u32 (vl g4), .int .u32 (vl g8), .int .u32 (vl g12)] 43); have x3 := vf.cell (j := 3) rfl; clear hbel bz vf))
    go_ret2
    rw [← hw4]
    exact ⟨rfl, BW4.out⟩
set_option maxRecDepth 100000 in
set_option maxHeartbeats 8000000 in
theorem of_floor (a b : W) (body : List UInt8) (hs : body.length ≤ maxLen) (w : World) : Calls Try.prog 10 #[fV ⟨4, a, b, body⟩] w fun e w' => e = .returned (.tuple #[pcV (ofF ⟨4, a, b, body⟩).1, .int .i64 ((ofF ⟨4, a, b, body⟩).2 : Int)]) ∧ Below w.heap.size w w' := by
  have HO := Lib.hid (fun w => floorOf_any ⟨4, a, b, body⟩ hs w)
  have HR := Lib.hid (fun w => floorRight_any a b (getZ body 0) w)
  have HE : Hid (((body.length : Int) == 4) = true → pieceR ⟨4, a, b, body⟩ = floorPR a (getZ body 0)) := fun h => rightF h
  have HM : Hid (((body.length : Int) == 4) = false → pieceR ⟨4, a, b, body⟩ = false) := fun h => rightF_not h
  have HY : Hid (((body.length : Int) == 4) = true → pieceR ⟨4, a, b, body⟩ = true → ofF ⟨4, a, b, body⟩ = (.floor a b (getZ body 0), 0)) := fun h hp => ofF_val hp (by
    have hl : body.length = 4 := by rw [beq_iff_eq] at h; omega
    simp only [pcOf, if_true, if_neg (show ¬ (4 : Int) = 1 by decide), if_neg (show ¬ (4 : Int) = 2 by decide), if_neg (show ¬ (4 : Int) = 3 by decide)]
    simp only [getZ_at (show 0 + 4 ≤ body.length by omega)])
  have HN : Hid (pieceR ⟨4, a, b, body⟩ = false → ofF ⟨4, a, b, body⟩ = (.none, 2)) := fun h => ofF_not h
  generalize ofF ⟨4, a, b, body⟩ = r at *
  generalize pieceR ⟨4, a, b, body⟩ = pr at *
  generalize floorPR a (getZ body 0) = q at *
  unfold floorOfF floorV at HO
  unfold floorV at HR
  unfold fV at HO ⊢
  simp only at HO ⊢
  generalize getZ body 0 = g0 at *
  have hz : ((bs body).size : Int) = (body.length : Int) := by rw [bs_size]
  obtain ⟨B, hB⟩ : ∃ B, B = bs body := ⟨_, rfl⟩
  rw [← hB] at HO hz ⊢
  obtain ⟨n, hn⟩ : ∃ n : Nat, n = body.length := ⟨_, rfl⟩
  rw [← hn] at hz HE HM HY
  clear hB hn hs
  obtain ⟨w1, hw1⟩ : ∃ w1, w1 = w.alloc (.cells #[.int .i64 4, .int .u32 (vl a), .int .u32 (vl b), .string B] 24) := ⟨_, rfl⟩
  have HB1 := Lib.hid (show Below w.heap.size w w1 by rw [hw1]; exact Geom.bel_alloc _ _)
  have HF1 := Lib.hid (show Var w1 w.heap.size 24 [.int .i64 4, .int .u32 (vl a), .int .u32 (vl b), .string B] by rw [hw1]; exact Var.new w _ _)
  have hc : (((n : Int) == 4) = true ∧ q = true) ∨ (((n : Int) == 4) = true ∧ q = false) ∨ ((n : Int) == 4) = false := by cases (n : Int) == 4 <;> cases q <;> simp
  rcases hc with ⟨t1, rfl⟩ | ⟨t1, rfl⟩ | t1
  case inl =>
    obtain rfl := HY.out t1 (HE.out t1)
    show Calls Try.prog _ _ _ fun e w' => e = .returned (.tuple #[.iface 47 (.agg #[.int .u32 (vl a), .int .u32 (vl b), .int .u32 (vl g0)]), .int .i64 0]) ∧ Below w.heap.size w w'
    go_enter Try.func10, Try.ntmps10
    go_wp2_with (first | (go_at_call 30; ((with_reducible refine (HO.out _).mono ?_); rintro e w3 ⟨rfl, bz⟩; have hbel : Below w1.heap.size w1 w3 := (by rw [hw1]; exact bz); obtain ⟨w4, hw4⟩ : ∃ w4, w4 = w3.alloc (.cells #[.int .u32 (vl a), .int .u32 (vl b), .int .u32 (vl g0)] 47) := ⟨_, rfl⟩; have BW4 := Lib.hid (show Below w.heap.size w w4 from by rw [hw4]; exact bel2 (bel2 HB1.out hbel) (Geom.bel_alloc _ _)); have HP4 := Lib.hid (show Var w4 w3.heap.size 47 [.int .u32 (vl a), .int .u32 (vl b), .int .u32 (vl g0)] by rw [hw4]; exact Var.new _ _ _); have vf := (HF1.out.below hbel HF1.out.lt).alloc (.cells #[.int .u32 (vl a), .int .u32 (vl b), .int .u32 (vl g0)] 47); have x3 := vf.cell (j := 3) rfl; clear hbel bz vf)) | (go_at_call 31; ((with_reducible refine (HR.out _).mono ?_); rintro e w5 ⟨rfl, bz⟩; have hbel : Below w4.heap.size w4 w5 := (by rw [hw4]; exact bz); have BW5 := Lib.hid (bel2 BW4.out hbel); have q0 := (HP4.out.below hbel HP4.out.lt).cell (j := 0) rfl; have q1 := (HP4.out.below hbel HP4.out.lt).cell (j := 1) rfl; have q2 := (HP4.out.below hbel HP4.out.lt).cell (j := 2) rfl; clear hbel bz)))
    go_ret2
    exact ⟨rfl, BW5.out⟩
  case inr.inl =>
    obtain rfl := HN.out (HE.out t1)
    show Calls Try.prog _ _ _ fun e w' => e = .returned (.tuple #[.nilIface, .int .i64 2]) ∧ Below w.heap.size w w'
    go_enter Try.func10, Try.ntmps10
    go_wp2_with (first | (go_at_call 30; ((with_reducible refine (HO.out _).mono ?_); rintro e w3 ⟨rfl, bz⟩; have hbel : Below w1.heap.size w1 w3 := (by rw [hw1]; exact bz); obtain ⟨w4, hw4⟩ : ∃ w4, w4 = w3.alloc (.cells #[.int .u32 (vl a), .int .u32 (vl b), .int .u32 (vl g0)] 47) := ⟨_, rfl⟩; have BW4 := Lib.hid (show Below w.heap.size w w4 from by rw [hw4]; exact bel2 (bel2 HB1.out hbel) (Geom.bel_alloc _ _)); have HP4 := Lib.hid (show Var w4 w3.heap.size 47 [.int .u32 (vl a), .int .u32 (vl b), .int .u32 (vl g0)] by rw [hw4]; exact Var.new _ _ _); have vf := (HF1.out.below hbel HF1.out.lt).alloc (.cells #[.int .u32 (vl a), .int .u32 (vl b), .int .u32 (vl g0)] 47); have x3 := vf.cell (j := 3) rfl; clear hbel bz vf)) | (go_at_call 31; ((with_reducible refine (HR.out _).mono ?_); rintro e w5 ⟨rfl, bz⟩; have hbel : Below w4.heap.size w4 w5 := (by rw [hw4]; exact bz); have BW5 := Lib.hid (bel2 BW4.out hbel); have q0 := (HP4.out.below hbel HP4.out.lt).cell (j := 0) rfl; have q1 := (HP4.out.below hbel HP4.out.lt).cell (j := 1) rfl; have q2 := (HP4.out.below hbel HP4.out.lt).cell (j := 2) rfl; clear hbel bz)))
    go_ret2
    exact ⟨rfl, BW5.out⟩
  case inr.inr =>
    obtain rfl := HN.out (HM.out t1)
    show Calls Try.prog _ _ _ fun e w' => e = .returned (.tuple #[.nilIface, .int .i64 2]) ∧ Below w.heap.size w w'
    go_enter Try.func10, Try.ntmps10
    go_wp2_with (go_at_call 30; ((with_reducible refine (HO.out _).mono ?_); rintro e w3 ⟨rfl, bz⟩; have hbel : Below w1.heap.size w1 w3 := (by rw [hw1]; exact bz); obtain ⟨w4, hw4⟩ : ∃ w4, w4 = w3.alloc (.cells #[.int .u32 (vl a), .int .u32 (vl b), .int .u32 (vl g0)] 47) := ⟨_, rfl⟩; have BW4 := Lib.hid (show Below w.heap.size w w4 from by rw [hw4]; exact bel2 (bel2 HB1.out hbel) (Geom.bel_alloc _ _)); have HP4 := Lib.hid (show Var w4 w3.heap.size 47 [.int .u32 (vl a), .int .u32 (vl b), .int .u32 (vl g0)] by rw [hw4]; exact Var.new _ _ _); have vf := (HF1.out.below hbel HF1.out.lt).alloc (.cells #[.int .u32 (vl a), .int .u32 (vl b), .int .u32 (vl g0)] 47); have x3 := vf.cell (j := 3) rfl; clear hbel bz vf))
    go_ret2
    rw [← hw4]
    exact ⟨rfl, BW4.out⟩
set_option maxRecDepth 100000 in
set_option maxHeartbeats 8000000 in
theorem of_not (f : Fr) (hk : ¬ f.kind = 1 ∧ ¬ f.kind = 2 ∧ ¬ f.kind = 3 ∧ ¬ f.kind = 4) (w : World) : Calls Try.prog 10 #[fV f] w fun e w' => e = .returned (.tuple #[pcV (ofF f).1, .int .i64 ((ofF f).2 : Int)]) ∧ Below w.heap.size w w' := by
  have HN := Lib.hid (show ofF f = (.none, 2) from ofF_not (by
    unfold pieceR
    rw [if_neg hk.1, if_neg hk.2.1, if_neg hk.2.2.1, if_neg hk.2.2.2]; cases isSeqB f.a <;> rfl))
  rw [HN.out]
  obtain ⟨kd, a, b, body⟩ := f
  unfold fV
  simp only at hk ⊢
  show Calls Try.prog _ _ _ fun e w' => e = .returned (.tuple #[.nilIface, .int .i64 2]) ∧ Below w.heap.size w w'
  have q1 : (kd == 1) = false := by rw [eqI]; exact decide_eq_false hk.1
  have q2 : (kd == 2) = false := by rw [eqI]; exact decide_eq_false hk.2.1
  have q3 : (kd == 3) = false := by rw [eqI]; exact decide_eq_false hk.2.2.1
  have q4 : (kd == 4) = false := by rw [eqI]; exact decide_eq_false hk.2.2.2
  clear hk
  go_enter Try.func10, Try.ntmps10
  go_wp2
  go_ret2
  exact ⟨rfl, Geom.bel_alloc _ _⟩
theorem of_any (f : Fr) (hs : f.body.length ≤ maxLen) (w : World) : Calls Try.prog 10 #[fV f] w fun e w' => e = .returned (.tuple #[pcV (ofF f).1, .int .i64 ((ofF f).2 : Int)]) ∧ Below w.heap.size w w' := by
  by_cases h1 : f.kind = 1
  · obtain ⟨kd, a, b, body⟩ := f
    simp only at h1; subst h1; exact of_head a b body w
  by_cases h2 : f.kind = 2
  · obtain ⟨kd, a, b, body⟩ := f
    simp only at h2; subst h2; exact of_part a b body w
  by_cases h3 : f.kind = 3
  · obtain ⟨kd, a, b, body⟩ := f
    simp only at h3; subst h3; exact of_fin a b body hs w
  by_cases h4 : f.kind = 4
  · obtain ⟨kd, a, b, body⟩ := f
    simp only at h4; subst h4; exact of_floor a b body hs w
  exact of_not f ⟨h1, h2, h3, h4⟩ w
end Go.Proofs.Ytdbfclngllhdlaa.Piece
