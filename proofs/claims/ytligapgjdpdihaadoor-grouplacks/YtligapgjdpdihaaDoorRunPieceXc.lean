/-
  Joined texts: PieceXc, PieceX.
-/
import Derived.Test.YtligapgjdpdihaaDoorRunRefFrame
/-
  What package piece's Of answers.
-/
set_option linter.unusedVariables false
set_option linter.unusedSimpArgs false
namespace Go.Proofs.YtligapgjdpdihaaDoor.Piece
open Go.RowKit
open CrcM (W)
open Crc (le4 sumOf vl wd putS)
open Flash (bs bs_size bs_list list_bs)
open Go.Proofs.YtligapgjdpdihaaDoor.Frame (Fr zeroF fV bel2 below_drewN)
open Tup Bytes Own
open Go.Proofs.YtligapgjdpdihaaDoor.Region (fill Then Deps Each wp_region_is wp_region_is_tail wp_region_each wp_region_tail)
theorem okSeal {a b : W} {l : List UInt8} (h : ((l.length : Int) == 16) = true) : sealPR a b (getZ l 0) (getZ l 4) (getZ l 12) = (isSeqB a && sealR a b l) := by
  have hl : l.length = 16 := by rw [beq_iff_eq] at h; omega
  have hb := Crc.vl_range b
  have e0 : vl (getZ l 0) = le4 l 0 := by unfold getZ; rw [if_pos (by omega), wd_le4]
  have e4 : vl (getZ l 4) = le4 l 4 := by unfold getZ; rw [if_pos (by omega), wd_le4]
  have e12 : vl (getZ l 12) = le4 l 12 := by unfold getZ; rw [if_pos (by omega), wd_le4]
  have p12 : 0 ≤ le4 l 12 := by rw [← wd_le4]; exact (Crc.vl_range _).1
  unfold sealPR sealR
  rw [e0, e4, e12, h, neI, neI]
  have q1 : decide (0 < vl b) = !decide (vl b = 0) := by rw [← decide_not, decide_eq_decide]; omega
  have q2 : decide (0 < le4 l 12) = !decide (le4 l 12 = 0) := by rw [← decide_not, decide_eq_decide]; omega
  rw [q1, q2]
  cases isSeqB a <;> cases decide (vl b = 0) <;> cases decide (le4 l 0 < vl a) <;> cases decide (1 ≤ le4 l 4) <;> cases decide (le4 l 4 ≤ vl a) <;> cases decide (le4 l 12 = 0) <;> rfl
theorem okFloor {a : W} {l : List UInt8} (h : ((l.length : Int) == 4) = true) : floorPR a (getZ l 0) = (isSeqB a && floorR a l) := by
  have hl : l.length = 4 := by rw [beq_iff_eq] at h; omega
  have e0 : vl (getZ l 0) = le4 l 0 := by unfold getZ; rw [if_pos (by omega), wd_le4]
  unfold floorPR floorR
  rw [e0, h]
  rfl
theorem rightS {a b : W} {l : List UInt8} (h : ((l.length : Int) == 16) = true) : pieceR ⟨3, a, b, l⟩ = sealPR a b (getZ l 0) (getZ l 4) (getZ l 12) := by rw [okSeal h]; rfl
theorem rightS_not {a b : W} {l : List UInt8} (h : ((l.length : Int) == 16) = false) : pieceR ⟨3, a, b, l⟩ = false := by
  show (isSeqB a && sealR a b l) = false
  unfold sealR; rw [h]; cases isSeqB a <;> cases vl b != 0 <;> rfl
theorem rightF {a b : W} {l : List UInt8} (h : ((l.length : Int) == 4) = true) : pieceR ⟨4, a, b, l⟩ = floorPR a (getZ l 0) := by rw [okFloor h]; rfl
theorem rightF_not {a b : W} {l : List UInt8} (h : ((l.length : Int) == 4) = false) : pieceR ⟨4, a, b, l⟩ = false := by
  show (isSeqB a && floorR a l) = false
  unfold floorR; rw [h]; cases isSeqB a <;> rfl
theorem getZ_at {l : List UInt8} {k : Nat} (h : k + 4 ≤ l.length) : getZ l k = wd (le4 l k) := by unfold getZ; rw [if_pos h]
theorem ofF_val {f : Fr} {p : Pc} (h : pieceR f = true) (hp : pcOf f = p) : ofF f = (p, 0) := by rw [ofF_ok h, hp]
set_option maxRecDepth 100000 in
set_option maxHeartbeats 8000000 in
theorem of_head (a b : W) (body : List UInt8) (w : World) : Calls Tryd.prog 71 #[fV ⟨1, a, b, body⟩] w fun e w' => e = .returned (.tuple #[pcV (ofF ⟨1, a, b, body⟩).1, .int .i64 ((ofF ⟨1, a, b, body⟩).2 : Int)]) ∧ Below w.heap.size w w' := by
  have HR := Lib.hid (fun w => headRight_any a b w)
  have HE := Lib.hid (show pieceR ⟨1, a, b, body⟩ = (isSeqB a && body.isEmpty) from rfl)
  have HY : Hid (pieceR ⟨1, a, b, body⟩ = true → ofF ⟨1, a, b, body⟩ = (.head a b, 0)) := fun h => ofF_val h rfl
  have HN : Hid (pieceR ⟨1, a, b, body⟩ = false → ofF ⟨1, a, b, body⟩ = (.none, 2)) := fun h => ofF_not h
  generalize ofF ⟨1, a, b, body⟩ = r at *
  unfold headV at HR
  unfold fV
  simp only
  have hem := bs_empty body
  have hz : ((bs body).size : Int) = (body.length : Int) := by rw [bs_size]
  obtain ⟨B, hB⟩ : ∃ B, B = bs body := ⟨_, rfl⟩
  rw [← hB] at hem hz ⊢
  clear hB
  have hsz1 : (w.alloc (.cells #[.int .i64 1, .int .u32 (vl a), .int .u32 (vl b), .string B] 49)).heap.size = w.heap.size + 1 := by simp
  obtain ⟨w1, hw1⟩ : ∃ w1, w1 = (w.alloc (.cells #[.int .i64 1, .int .u32 (vl a), .int .u32 (vl b), .string B] 49)).alloc (.cells #[.int .u32 (vl a), .int .u32 (vl b)] 96) := ⟨_, rfl⟩
  have HB1 := Lib.hid (show Below w.heap.size w w1 by rw [hw1]; exact bel2 (Geom.bel_alloc _ _) (Geom.bel_alloc _ _))
  have HF1 := Lib.hid (show Var w1 w.heap.size 49 [.int .i64 1, .int .u32 (vl a), .int .u32 (vl b), .string B] by rw [hw1]; exact (Var.new w _ _).alloc _)
  have HP1 := Lib.hid (show Var w1 (w.heap.size + 1) 96 [.int .u32 (vl a), .int .u32 (vl b)] by
    have := Var.new (w.alloc (.cells #[.int .i64 1, .int .u32 (vl a), .int .u32 (vl b), .string B] 49)) 96 [.int .u32 (vl a), .int .u32 (vl b)]
    rw [hsz1] at this
    rw [hw1]; exact this)
  generalize isSeqB a = q at *
  generalize body.isEmpty = z at *
  generalize pieceR ⟨1, a, b, body⟩ = pr at *
  have hc : (z = true ∧ q = true) ∨ (z = true ∧ q = false) ∨ z = false := by cases z <;> cases q <;> simp
  rcases hc with ⟨rfl, rfl⟩ | ⟨rfl, rfl⟩ | rfl
  case inl =>
    obtain rfl := HY.out HE.out
    show Calls Tryd.prog _ _ _ fun e w' => e = .returned (.tuple #[.iface 96 (.agg #[.int .u32 (vl a), .int .u32 (vl b)]), .int .i64 0]) ∧ Below w.heap.size w w'
    go_enter Tryd.func71, Tryd.ntmps71
    go_wp2_with (go_at_call 59; ((with_reducible refine (HR.out _).mono ?_); rintro e w5 ⟨rfl, bz⟩; have hbel : Below w1.heap.size w1 w5 := (by rw [hw1]; exact bz); have BW5 := Lib.hid (bel2 HB1.out hbel); have q0 := (HP1.out.below hbel HP1.out.lt).cell (j := 0) rfl; have q1 := (HP1.out.below hbel HP1.out.lt).cell (j := 1) rfl; clear hbel bz))
    go_ret2
    exact ⟨rfl, BW5.out⟩
  case inr.inl =>
    obtain rfl := HN.out HE.out
    show Calls Tryd.prog _ _ _ fun e w' => e = .returned (.tuple #[.nilIface, .int .i64 2]) ∧ Below w.heap.size w w'
    go_enter Tryd.func71, Tryd.ntmps71
    go_wp2_with (go_at_call 59; ((with_reducible refine (HR.out _).mono ?_); rintro e w5 ⟨rfl, bz⟩; have hbel : Below w1.heap.size w1 w5 := (by rw [hw1]; exact bz); have BW5 := Lib.hid (bel2 HB1.out hbel); have q0 := (HP1.out.below hbel HP1.out.lt).cell (j := 0) rfl; have q1 := (HP1.out.below hbel HP1.out.lt).cell (j := 1) rfl; clear hbel bz))
    go_ret2
    exact ⟨rfl, BW5.out⟩
  case inr.inr =>
    obtain rfl := HN.out (by rw [HE.out]; simp)
    show Calls Tryd.prog _ _ _ fun e w' => e = .returned (.tuple #[.nilIface, .int .i64 2]) ∧ Below w.heap.size w w'
    go_enter Tryd.func71, Tryd.ntmps71
    go_wp2
    go_ret2
    exact ⟨rfl, bel2 (Geom.bel_alloc _ _) (Geom.bel_alloc _ _)⟩
set_option maxRecDepth 100000 in
set_option maxHeartbeats 8000000 in
theorem of_part (a b : W) (body : List UInt8) (w : World) : Calls Tryd.prog 71 #[fV ⟨2, a, b, body⟩] w fun e w' => e = .returned (.tuple #[pcV (ofF ⟨2, a, b, body⟩).1, .int .i64 ((ofF ⟨2, a, b, body⟩).2 : Int)]) ∧ Below w.heap.size w w' := by
  have HR := Lib.hid (fun w => partRight_any a b body w)
  have HE := Lib.hid (show pieceR ⟨2, a, b, body⟩ = partR a body from rfl)
  have HY : Hid (pieceR ⟨2, a, b, body⟩ = true → ofF ⟨2, a, b, body⟩ = (.part a b body, 0)) := fun h => ofF_val h rfl
  have HN : Hid (pieceR ⟨2, a, b, body⟩ = false → ofF ⟨2, a, b, body⟩ = (.none, 2)) := fun h => ofF_not h
  generalize ofF ⟨2, a, b, body⟩ = r at *
  have HV := Lib.hid (show pcV (.part a b body) = .iface 100 (.agg #[.int .u32 (vl a), .int .u32 (vl b), .string (bs body)]) from rfl)
  unfold partV at HR
  unfold fV
  simp only
  obtain ⟨B, hB⟩ : ∃ B, B = bs body := ⟨_, rfl⟩
  rw [← hB] at HR HV ⊢
  clear hB
  have hsz1 : (w.alloc (.cells #[.int .i64 2, .int .u32 (vl a), .int .u32 (vl b), .string B] 49)).heap.size = w.heap.size + 1 := by simp
  obtain ⟨w1, hw1⟩ : ∃ w1, w1 = (w.alloc (.cells #[.int .i64 2, .int .u32 (vl a), .int .u32 (vl b), .string B] 49)).alloc (.cells #[.int .u32 (vl a), .int .u32 (vl b), .string B] 100) := ⟨_, rfl⟩
  have HB1 := Lib.hid (show Below w.heap.size w w1 by rw [hw1]; exact bel2 (Geom.bel_alloc _ _) (Geom.bel_alloc _ _))
  have HF1 := Lib.hid (show Var w1 w.heap.size 49 [.int .i64 2, .int .u32 (vl a), .int .u32 (vl b), .string B] by rw [hw1]; exact (Var.new w _ _).alloc _)
  have HP1 := Lib.hid (show Var w1 (w.heap.size + 1) 100 [.int .u32 (vl a), .int .u32 (vl b), .string B] by
    have := Var.new (w.alloc (.cells #[.int .i64 2, .int .u32 (vl a), .int .u32 (vl b), .string B] 49)) 100 [.int .u32 (vl a), .int .u32 (vl b), .string B]
    rw [hsz1] at this
    rw [hw1]; exact this)
  generalize partR a body = q at *
  generalize pieceR ⟨2, a, b, body⟩ = pr at *
  cases q
  case true =>
    obtain rfl := HY.out HE.out
    simp only [HV.out]
    show Calls Tryd.prog _ _ _ fun e w' => e = .returned (.tuple #[.iface 100 (.agg #[.int .u32 (vl a), .int .u32 (vl b), .string B]), .int .i64 0]) ∧ Below w.heap.size w w'
    go_enter Tryd.func71, Tryd.ntmps71
    go_wp2_with (go_at_call 61; ((with_reducible refine (HR.out _).mono ?_); rintro e w5 ⟨rfl, bz⟩; have hbel : Below w1.heap.size w1 w5 := (by rw [hw1]; exact bz); have BW5 := Lib.hid (bel2 HB1.out hbel); have q0 := (HP1.out.below hbel HP1.out.lt).cell (j := 0) rfl; have q1 := (HP1.out.below hbel HP1.out.lt).cell (j := 1) rfl; have q2 := (HP1.out.below hbel HP1.out.lt).cell (j := 2) rfl; clear hbel bz))
    go_ret2
    exact ⟨rfl, BW5.out⟩
  case false =>
    obtain rfl := HN.out HE.out
    show Calls Tryd.prog _ _ _ fun e w' => e = .returned (.tuple #[.nilIface, .int .i64 2]) ∧ Below w.heap.size w w'
    go_enter Tryd.func71, Tryd.ntmps71
    go_wp2_with (go_at_call 61; ((with_reducible refine (HR.out _).mono ?_); rintro e w5 ⟨rfl, bz⟩; have hbel : Below w1.heap.size w1 w5 := (by rw [hw1]; exact bz); have BW5 := Lib.hid (bel2 HB1.out hbel); have q0 := (HP1.out.below hbel HP1.out.lt).cell (j := 0) rfl; have q1 := (HP1.out.below hbel HP1.out.lt).cell (j := 1) rfl; have q2 := (HP1.out.below hbel HP1.out.lt).cell (j := 2) rfl; clear hbel bz))
    go_ret2
    exact ⟨rfl, BW5.out⟩
set_option maxRecDepth 100000 in
set_option maxHeartbeats 8000000 in
theorem of_fin (a b : W) (body : List UInt8) (hs : body.length ≤ maxLen) (w : World) : Calls Tryd.prog 71 #[fV ⟨3, a, b, body⟩] w fun e w' => e = .returned (.tuple #[pcV (ofF ⟨3, a, b, body⟩).1, .int .i64 ((ofF ⟨3, a, b, body⟩).2 : Int)]) ∧ Below w.heap.size w w' := by
  have HO := Lib.hid (fun w => sealOf_any ⟨3, a, b, body⟩ hs w)
  have HR := Lib.hid (fun w => sealRight_any a b (getZ body 0) (getZ body 4) (getZ body 8) (getZ body 12) w)
  have HE : Hid (((body.length : Int) == 16) = true → pieceR ⟨3, a, b, body⟩ = sealPR a b (getZ body 0) (getZ body 4) (getZ body 12)) := fun h => rightS h
  have HM : Hid (((body.length : Int) == 16) = false → pieceR ⟨3, a, b, body⟩ = false) := fun h => rightS_not h
  have HY : Hid (((body.length : Int) == 16) = true → pieceR ⟨3, a, b, body⟩ = true → ofF ⟨3, a, b, body⟩ = (.fin a b (getZ body 0) (getZ body 4) (getZ body 8) (getZ body 12), 0)) := fun h hp => ofF_val hp (by
    have hl : body.length = 16 := by rw [beq_iff_eq] at h; omega
    simp only [pcOf, if_true, if_neg (show ¬ (3 : Int) = 1 by decide), if_neg (show ¬ (3 : Int) = 2 by decide)]
    simp only [getZ_at (show 0 + 4 ≤ body.length by omega), getZ_at (show 4 + 4 ≤ body.length by omega), getZ_at (show 8 + 4 ≤ body.length by omega), getZ_at (show 12 + 4 ≤ body.length by omega)])
  have HN : Hid (pieceR ⟨3, a, b, body⟩ = false → ofF ⟨3, a, b, body⟩ = (.none, 2)) := fun h => ofF_not h
  generalize ofF ⟨3, a, b, body⟩ = r at *
  generalize pieceR ⟨3, a, b, body⟩ = pr at *
  generalize sealPR a b (getZ body 0) (getZ body 4) (getZ body 12) = q at *
  unfold sealOfF sealV at HO
  unfold sealV at HR
  unfold fV at HO ⊢
  simp only at HO ⊢
  generalize getZ body 0 = g0 at *
  generalize getZ body 4 = g4 at *
  generalize getZ body 8 = g8 at *
  generalize getZ body 12 = g12 at *
  have hz : ((bs body).size : Int) = (body.length : Int) := by rw [bs_size]
  obtain ⟨B, hB⟩ : ∃ B, B = bs body := ⟨_, rfl⟩
  rw [← hB] at HO hz ⊢
  obtain ⟨n, hn⟩ : ∃ n : Nat, n = body.length := ⟨_, rfl⟩
  rw [← hn] at hz HE HM HY
  clear hB hn hs
  obtain ⟨w1, hw1⟩ : ∃ w1, w1 = w.alloc (.cells #[.int .i64 3, .int .u32 (vl a), .int .u32 (vl b), .string B] 49) := ⟨_, rfl⟩
  have HB1 := Lib.hid (show Below w.heap.size w w1 by rw [hw1]; exact Geom.bel_alloc _ _)
  have HF1 := Lib.hid (show Var w1 w.heap.size 49 [.int .i64 3, .int .u32 (vl a), .int .u32 (vl b), .string B] by rw [hw1]; exact Var.new w _ _)
  have hc : (((n : Int) == 16) = true ∧ q = true) ∨ (((n : Int) == 16) = true ∧ q = false) ∨ ((n : Int) == 16) = false := by cases (n : Int) == 16 <;> cases q <;> simp
  rcases hc with ⟨t1, rfl⟩ | ⟨t1, rfl⟩ | t1
  case inl =>
    obtain rfl := HY.out t1 (HE.out t1)
    show Calls Tryd.prog _ _ _ fun e w' => e = .returned (.tuple #[.iface 61 (.agg #[.int .u32 (vl a), .int .u32 (vl b), .int .u32 (vl g0), .int .u32 (vl g4), .int .u32 (vl g8), .int .u32 (vl g12)]), .int .i64 0]) ∧ Below w.heap.size w w'
    go_enter Tryd.func71, Tryd.ntmps71
    go_wp2_with (first | (go_at_call 88; ((with_reducible refine (HO.out _).mono ?_); rintro e w3 ⟨rfl, bz⟩; have hbel : Below w1.heap.size w1 w3 := (by rw [hw1]; exact bz); obtain ⟨w4, hw4⟩ : ∃ w4, w4 = w3.alloc (.cells #[.int .u32 (vl a), .int .u32 (vl b), .int .u32 (vl g0), .int .u32 (vl g4), .int .u32 (vl g8), .int .u32 (vl g12)] 61) := ⟨_, rfl⟩; have BW4 := Lib.hid (show Below w.heap.size w w4 from by rw [hw4]; exact bel2 (bel2 HB1.out hbel) (Geom.bel_alloc _ _)); have HP4 := Lib.hid (show Var w4 w3.heap.size 61 [.int .u32 (vl a), .int .u32 (vl b), .int .u32 (vl g0), .int .u32 (vl g4), .int .u32 (vl g8), .int .u32 (vl g12)] by rw [hw4]; exact Var.new _ _ _); have vf := (HF1.out.below hbel HF1.out.lt).alloc (.cells #[.int .u32 (vl a), .int .u32 (vl b), .int .u32 (vl g0), .int .u32 (vl g4), .int .u32 (vl g8), .int .u32 (vl g12)] 61); have x3 := vf.cell (j := 3) rfl; clear hbel bz vf)) | (go_at_call 63; ((with_reducible refine (HR.out _).mono ?_); rintro e w5 ⟨rfl, bz⟩; have hbel : Below w4.heap.size w4 w5 := (by rw [hw4]; exact bz); have BW5 := Lib.hid (bel2 BW4.out hbel); have q0 := (HP4.out.below hbel HP4.out.lt).cell (j := 0) rfl; have q1 := (HP4.out.below hbel HP4.out.lt).cell (j := 1) rfl; have q2 := (HP4.out.below hbel HP4.out.lt).cell (j := 2) rfl; have q3 := (HP4.out.below hbel HP4.out.lt).cell (j := 3) rfl; have q4 := (HP4.out.below hbel HP4.out.lt).cell (j := 4) rfl; have q5 := (HP4.out.below hbel HP4.out.lt).cell (j := 5) rfl; clear hbel bz)))
    go_ret2
    exact ⟨rfl, BW5.out⟩
  case inr.inl =>
    obtain rfl := HN.out (HE.out t1)
    show Calls Tryd.prog _ _ _ fun e w' => e = .returned (.tuple #[.nilIface, .int .i64 2]) ∧ Below w.heap.size w w'
    go_enter Tryd.func71, Tryd.ntmps71
    go_wp2_with (first | (go_at_call 88; ((with_reducible refine (HO.out _).mono ?_); rintro e w3 ⟨rfl, bz⟩; have hbel : Below w1.heap.size w1 w3 := (by rw [hw1]; exact bz); obtain ⟨w4, hw4⟩ : ∃ w4, w4 = w3.alloc (.cells #[.int .u32 (vl a), .int .u32 (vl b), .int .u32 (vl g0), .int .u32 (vl g4), .int .u32 (vl g8), .int .u32 (vl g12)] 61) := ⟨_, rfl⟩; have BW4 := Lib.hid (show Below w.heap.size w w4 from by rw [hw4]; exact bel2 (bel2 HB1.out hbel) (Geom.bel_alloc _ _)); have HP4 := Lib.hid (show Var w4 w3.heap.size 61 [.int .u32 (vl a), .int .u32 (vl b), .int .u32 (vl g0), .int .u32 (vl g4), .int .u32 (vl g8), .int .u32 (vl g12)] by rw [hw4]; exact Var.new _ _ _); have vf := (HF1.out.below hbel HF1.out.lt).alloc (.cells #[.int .u32 (vl a), .int .u32 (vl b), .int .u32 (vl g0), .int .u32 (vl g4), .int .u32 (vl g8), .int .u32 (vl g12)] 61); have x3 := vf.cell (j := 3) rfl; clear hbel bz vf)) | (go_at_call 63; ((with_reducible refine (HR.out _).mono ?_); rintro e w5 ⟨rfl, bz⟩; have hbel : Below w4.heap.size w4 w5 := (by rw [hw4]; exact bz); have BW5 := Lib.hid (bel2 BW4.out hbel); have q0 := (HP4.out.below hbel HP4.out.lt).cell (j := 0) rfl; have q1 := (HP4.out.below hbel HP4.out.lt).cell (j := 1) rfl; have q2 := (HP4.out.below hbel HP4.out.lt).cell (j := 2) rfl; have q3 := (HP4.out.below hbel HP4.out.lt).cell (j := 3) rfl; have q4 := (HP4.out.below hbel HP4.out.lt).cell (j := 4) rfl; have q5 := (HP4.out.below hbel HP4.out.lt).cell (j := 5) rfl; clear hbel bz)))
    go_ret2
    exact ⟨rfl, BW5.out⟩
  case inr.inr =>
    obtain rfl := HN.out (HM.out t1)
    show Calls Tryd.prog _ _ _ fun e w' => e = .returned (.tuple #[.nilIface, .int .i64 2]) ∧ Below w.heap.size w w'
    go_enter Tryd.func71, Tryd.ntmps71
    go_wp2_with (go_at_call 88; ((with_reducible refine (HO.out _).mono ?_); rintro e w3 ⟨rfl, bz⟩; have hbel : Below w1.heap.size w1 w3 := (by rw [hw1]; exact bz); obtain ⟨w4, hw4⟩ : ∃ w4, w4 = w3.alloc (.cells #[.int .u32 (vl a), .int .u32 (vl b), .int .u32 (vl g0), .int .u32 (vl g4), .int .u32 (vl g8), .int .u32 (vl g12)] 61) := ⟨_, rfl⟩; have BW4 := Lib.hid (show Below w.heap.size w w4 from by rw [hw4]; exact bel2 (bel2 HB1.out hbel) (Geom.bel_alloc _ _)); have HP4 := Lib.hid (show Var w4 w3.heap.size 61 [.int .u32 (vl a), .int .u32 (vl b), .int .u32 (vl g0), .int .u32 (vl g4), .int .u32 (vl g8), .int .u32 (vl g12)] by rw [hw4]; exact Var.new _ _ _); have vf := (HF1.out.below hbel HF1.out.lt).alloc (.cells #[.int .u32 (vl a), .int .u32 (vl b), .int .u32 (vl g0), .int .u32 (vl g4), .int .u32 (vl g8), .int .u32 (vl g12)] 61); have x3 := vf.cell (j := 3) rfl; clear hbel bz vf))
    go_ret2
    rw [← hw4]
    exact ⟨rfl, BW4.out⟩
set_option maxRecDepth 100000 in
set_option maxHeartbeats 8000000 in
theorem of_floor (a b : W) (body : List UInt8) (hs : body.length ≤ maxLen) (w : World) : Calls Tryd.prog 71 #[fV ⟨4, a, b, body⟩] w fun e w' => e = .returned (.tuple #[pcV (ofF ⟨4, a, b, body⟩).1, .int .i64 ((ofF ⟨4, a, b, body⟩).2 : Int)]) ∧ Below w.heap.size w w' := by
  have HO := Lib.hid (fun w => floorOf_any ⟨4, a, b, body⟩ hs w)
  have HR := Lib.hid (fun w => floorRight_any a b (getZ body 0) w)
  have HE : Hid (((body.length : Int) == 4) = true → pieceR ⟨4, a, b, body⟩ = floorPR a (getZ body 0)) := fun h => rightF h
  have HM : Hid (((body.length : Int) == 4) = false → pieceR ⟨4, a, b, body⟩ = false) := fun h => rightF_not h
  have HY : Hid (((body.length : Int) == 4) = true → pieceR ⟨4, a, b, body⟩ = true → ofF ⟨4, a, b, body⟩ = (.floor a b (getZ body 0), 0)) := fun h hp => ofF_val hp (by
    have hl : body.length = 4 := by rw [beq_iff_eq] at h; omega
    simp only [pcOf, if_true, if_neg (show ¬ (4 : Int) = 1 by decide), if_neg (show ¬ (4 : Int) = 2 by decide), if_neg (show ¬ (4 : Int) = 3 by decide)]
    simp only [getZ_at (show 0 + 4 ≤ body.length by omega)])
  have HN : Hid (pieceR ⟨4, a, b, body⟩ = false → ofF ⟨4, a, b, body⟩ = (.none, 2)) := fun h => ofF_not h
  generalize ofF ⟨4, a, b, body⟩ = r at *
  generalize pieceR ⟨4, a, b, body⟩ = pr at *
  generalize floorPR a (getZ body 0) = q at *
  unfold floorOfF floorV at HO
  unfold floorV at HR
  unfold fV at HO ⊢
  simp only at HO ⊢
  generalize getZ body 0 = g0 at *
  have hz : ((bs body).size : Int) = (body.length : Int) := by rw [bs_size]
  obtain ⟨B, hB⟩ : ∃ B, B = bs body := ⟨_, rfl⟩
  rw [← hB] at HO hz ⊢
  obtain ⟨n, hn⟩ : ∃ n : Nat, n = body.length := ⟨_, rfl⟩
  rw [← hn] at hz HE HM HY
  clear hB hn hs
  obtain ⟨w1, hw1⟩ : ∃ w1, w1 = w.alloc (.cells #[.int .i64 4, .int .u32 (vl a), .int .u32 (vl b), .string B] 49) := ⟨_, rfl⟩
  have HB1 := Lib.hid (show Below w.heap.size w w1 by rw [hw1]; exact Geom.bel_alloc _ _)
  have HF1 := Lib.hid (show Var w1 w.heap.size 49 [.int .i64 4, .int .u32 (vl a), .int .u32 (vl b), .string B] by rw [hw1]; exact Var.new w _ _)
  have hc : (((n : Int) == 4) = true ∧ q = true) ∨ (((n : Int) == 4) = true ∧ q = false) ∨ ((n : Int) == 4) = false := by cases (n : Int) == 4 <;> cases q <;> simp
  rcases hc with ⟨t1, rfl⟩ | ⟨t1, rfl⟩ | t1
  case inl =>
    obtain rfl := HY.out t1 (HE.out t1)
    show Calls Tryd.prog _ _ _ fun e w' => e = .returned (.tuple #[.iface 102 (.agg #[.int .u32 (vl a), .int .u32 (vl b), .int .u32 (vl g0)]), .int .i64 0]) ∧ Below w.heap.size w w'
    go_enter Tryd.func71, Tryd.ntmps71
    go_wp2_with (first | (go_at_call 89; ((with_reducible refine (HO.out _).mono ?_); rintro e w3 ⟨rfl, bz⟩; have hbel : Below w1.heap.size w1 w3 := (by rw [hw1]; exact bz); obtain ⟨w4, hw4⟩ : ∃ w4, w4 = w3.alloc (.cells #[.int .u32 (vl a), .int .u32 (vl b), .int .u32 (vl g0)] 102) := ⟨_, rfl⟩; have BW4 := Lib.hid (show Below w.heap.size w w4 from by rw [hw4]; exact bel2 (bel2 HB1.out hbel) (Geom.bel_alloc _ _)); have HP4 := Lib.hid (show Var w4 w3.heap.size 102 [.int .u32 (vl a), .int .u32 (vl b), .int .u32 (vl g0)] by rw [hw4]; exact Var.new _ _ _); have vf := (HF1.out.below hbel HF1.out.lt).alloc (.cells #[.int .u32 (vl a), .int .u32 (vl b), .int .u32 (vl g0)] 102); have x3 := vf.cell (j := 3) rfl; clear hbel bz vf)) | (go_at_call 66; ((with_reducible refine (HR.out _).mono ?_); rintro e w5 ⟨rfl, bz⟩; have hbel : Below w4.heap.size w4 w5 := (by rw [hw4]; exact bz); have BW5 := Lib.hid (bel2 BW4.out hbel); have q0 := (HP4.out.below hbel HP4.out.lt).cell (j := 0) rfl; have q1 := (HP4.out.below hbel HP4.out.lt).cell (j := 1) rfl; have q2 := (HP4.out.below hbel HP4.out.lt).cell (j := 2) rfl; clear hbel bz)))
    go_ret2
    exact ⟨rfl, BW5.out⟩
  case inr.inl =>
    obtain rfl := HN.out (HE.out t1)
    show Calls Tryd.prog _ _ _ fun e w' => e = .returned (.tuple #[.nilIface, .int .i64 2]) ∧ Below w.heap.size w w'
    go_enter Tryd.func71, Tryd.ntmps71
    go_wp2_with (first | (go_at_call 89; ((with_reducible refine (HO.out _).mono ?_); rintro e w3 ⟨rfl, bz⟩; have hbel : Below w1.heap.size w1 w3 := (by rw [hw1]; exact bz); obtain ⟨w4, hw4⟩ : ∃ w4, w4 = w3.alloc (.cells #[.int .u32 (vl a), .int .u32 (vl b), .int .u32 (vl g0)] 102) := ⟨_, rfl⟩; have BW4 := Lib.hid (show Below w.heap.size w w4 from by rw [hw4]; exact bel2 (bel2 HB1.out hbel) (Geom.bel_alloc _ _)); have HP4 := Lib.hid (show Var w4 w3.heap.size 102 [.int .u32 (vl a), .int .u32 (vl b), .int .u32 (vl g0)] by rw [hw4]; exact Var.new _ _ _); have vf := (HF1.out.below hbel HF1.out.lt).alloc (.cells #[.int .u32 (vl a), .int .u32 (vl b), .int .u32 (vl g0)] 102); have x3 := vf.cell (j := 3) rfl; clear hbel bz vf)) | (go_at_call 66; ((with_reducible refine (HR.out _).mono ?_); rintro e w5 ⟨rfl, bz⟩; have hbel : Below w4.heap.size w4 w5 := (by rw [hw4]; exact bz); have BW5 := Lib.hid (bel2 BW4.out hbel); have q0 := (HP4.out.below hbel HP4.out.lt).cell (j := 0) rfl; have q1 := (HP4.out.below hbel HP4.out.lt).cell (j := 1) rfl; have q2 := (HP4.out.below hbel HP4.out.lt).cell (j := 2) rfl; clear hbel bz)))
    go_ret2
    exact ⟨rfl, BW5.out⟩
  case inr.inr =>
    obtain rfl := HN.out (HM.out t1)
    show Calls Tryd.prog _ _ _ fun e w' => e = .returned (.tuple #[.nilIface, .int .i64 2]) ∧ Below w.heap.size w w'
    go_enter Tryd.func71, Tryd.ntmps71
    go_wp2_with (go_at_call 89; ((with_reducible refine (HO.out _).mono ?_); rintro e w3 ⟨rfl, bz⟩; have hbel : Below w1.heap.size w1 w3 := (by rw [hw1]; exact bz); obtain ⟨w4, hw4⟩ : ∃ w4, w4 = w3.alloc (.cells #[.int .u32 (vl a), .int .u32 (vl b), .int .u32 (vl g0)] 102) := ⟨_, rfl⟩; have BW4 := Lib.hid (show Below w.heap.size w w4 from by rw [hw4]; exact bel2 (bel2 HB1.out hbel) (Geom.bel_alloc _ _)); have HP4 := Lib.hid (show Var w4 w3.heap.size 102 [.int .u32 (vl a), .int .u32 (vl b), .int .u32 (vl g0)] by rw [hw4]; exact Var.new _ _ _); have vf := (HF1.out.below hbel HF1.out.lt).alloc (.cells #[.int .u32 (vl a), .int .u32 (vl b), .int .u32 (vl g0)] 102); have x3 := vf.cell (j := 3) rfl; clear hbel bz vf))
    go_ret2
    rw [← hw4]
    exact ⟨rfl, BW4.out⟩
set_option maxRecDepth 100000 in
set_option maxHeartbeats 8000000 in
theorem of_not (f : Fr) (hk : ¬ f.kind = 1 ∧ ¬ f.kind = 2 ∧ ¬ f.kind = 3 ∧ ¬ f.kind = 4) (w : World) : Calls Tryd.prog 71 #[fV f] w fun e w' => e = .returned (.tuple #[pcV (ofF f).1, .int .i64 ((ofF f).2 : Int)]) ∧ Below w.heap.size w w' := by
  have HN := Lib.hid (show ofF f = (.none, 2) from ofF_not (by
    unfold pieceR
    rw [if_neg hk.1, if_neg hk.2.1, if_neg hk.2.2.1, if_neg hk.2.2.2]; cases isSeqB f.a <;> rfl))
  rw [HN.out]
  obtain ⟨kd, a, b, body⟩ := f
  unfold fV
  simp only at hk ⊢
  show Calls Tryd.prog _ _ _ fun e w' => e = .returned (.tuple #[.nilIface, .int .i64 2]) ∧ Below w.heap.size w w'
  have q1 : (kd == 1) = false := by rw [eqI]; exact decide_eq_false hk.1
  have q2 : (kd == 2) = false := by rw [eqI]; exact decide_eq_false hk.2.1
  have q3 : (kd == 3) = false := by rw [eqI]; exact decide_eq_false hk.2.2.1
  have q4 : (kd == 4) = false := by rw [eqI]; exact decide_eq_false hk.2.2.2
  clear hk
  go_enter Tryd.func71, Tryd.ntmps71
  go_wp2
  go_ret2
  exact ⟨rfl, Geom.bel_alloc _ _⟩
theorem of_any (f : Fr) (hs : f.body.length ≤ maxLen) (w : World) : Calls Tryd.prog 71 #[fV f] w fun e w' => e = .returned (.tuple #[pcV (ofF f).1, .int .i64 ((ofF f).2 : Int)]) ∧ Below w.heap.size w w' := by
  by_cases h1 : f.kind = 1
  · obtain ⟨kd, a, b, body⟩ := f
    simp only at h1; subst h1; exact of_head a b body w
  by_cases h2 : f.kind = 2
  · obtain ⟨kd, a, b, body⟩ := f
    simp only at h2; subst h2; exact of_part a b body w
  by_cases h3 : f.kind = 3
  · obtain ⟨kd, a, b, body⟩ := f
    simp only at h3; subst h3; exact of_fin a b body hs w
  by_cases h4 : f.kind = 4
  · obtain ⟨kd, a, b, body⟩ := f
    simp only at h4; subst h4; exact of_floor a b body hs w
  exact of_not f ⟨h1, h2, h3, h4⟩ w
end Go.Proofs.YtligapgjdpdihaaDoor.Piece
/-
  What package piece's Frame answers.
-/
set_option linter.unusedVariables false
set_option linter.unusedSimpArgs false
namespace Go.Proofs.YtligapgjdpdihaaDoor.Piece
open Go.RowKit
open CrcM (W)
open Crc (le4 sumOf vl wd putS)
open Flash (bs bs_size bs_list list_bs)
open Go.Proofs.YtligapgjdpdihaaDoor.Frame (Fr zeroF fV bel2 below_drewN)
open Tup Bytes Own
open Go.Proofs.YtligapgjdpdihaaDoor.Region (fill Then Deps Each wp_region_is wp_region_is_tail wp_region_each wp_region_tail)
theorem frameR_head (e r : W) : pieceR (pcFrame (.head e r)) = isSeqB e := by show (isSeqB e && true) = _; rw [Bool.and_true]
theorem frameR_part (s a : W) (t : List UInt8) : pieceR (pcFrame (.part s a t)) = partR s t := rfl
theorem getZ_put (x : W) (l : List UInt8) : getZ (CrcM.put x.toNat ++ l) 0 = x := by
  unfold getZ
  rw [if_pos (by simp [CrcM.put])]
  have h : le4 (CrcM.put x.toNat ++ l) 0 = vl x := by
    have hx := x.isLt
    unfold le4 CrcM.put vl
    simp only [List.cons_append, List.nil_append, List.getD_cons_zero, List.getD_cons_succ, Nat.zero_add]
    simp
    omega
  rw [h, Crc.wd_vl]
theorem getZ_skip (x : W) (l : List UInt8) (k : Nat) : getZ (CrcM.put x.toNat ++ l) (k + 4) = getZ l k := by
  unfold getZ
  have h : (k + 4 + 4 ≤ (CrcM.put x.toNat ++ l).length) = (k + 4 ≤ l.length) := by
    simp [CrcM.put]
  simp only [h]
  rfl
theorem frameR_fin (s p v f u z : W) : pieceR (pcFrame (.fin s p v f u z)) = sealPR s p v f z := by
  show pieceR ⟨3, s, p, four v f u z⟩ = _
  rw [rightS (by rfl)]
  unfold four
  have e0 : getZ (CrcM.put v.toNat ++ (CrcM.put f.toNat ++ (CrcM.put u.toNat ++ CrcM.put z.toNat))) 0 = v := getZ_put _ _
  have e4 : getZ (CrcM.put v.toNat ++ (CrcM.put f.toNat ++ (CrcM.put u.toNat ++ CrcM.put z.toNat))) 4 = f := by rw [show (4 : Nat) = 0 + 4 from rfl, getZ_skip, getZ_put]
  have e12 : getZ (CrcM.put v.toNat ++ (CrcM.put f.toNat ++ (CrcM.put u.toNat ++ CrcM.put z.toNat))) 12 = z := by
    rw [show (12 : Nat) = 8 + 4 from rfl, getZ_skip, show (8 : Nat) = 4 + 4 from rfl, getZ_skip, show (4 : Nat) = 0 + 4 from rfl, getZ_skip]
    have := getZ_put z []
    rwa [List.append_nil] at this
  rw [e0, e4, e12]
theorem frameR_floor (s g f : W) : pieceR (pcFrame (.floor s g f)) = floorPR s f := by
  show pieceR ⟨4, s, g, CrcM.put f.toNat⟩ = _
  rw [rightF (by rfl)]
  have := getZ_put f []
  rw [List.append_nil] at this
  rw [this]
set_option maxRecDepth 100000 in
set_option maxHeartbeats 8000000 in
theorem frame_head (e r : W) (w : World) : Calls Tryd.prog 28 #[pcV (.head e r)] w fun e' w' => e' = .returned (.tuple #[fV (frameP (.head e r)).1, .int .i64 ((frameP (.head e r)).2 : Int)]) ∧ Below w.heap.size w w' := by
  have HR := Lib.hid (fun w => headRight_any e r w)
  have HK := Lib.hid (fun w => headKind_any e r w)
  have HC := Lib.hid (fun w => checked_any (isSeqB e) ⟨1, e, r, []⟩ w)
  have HE := Lib.hid (show frameP (.head e r) = checkedF (isSeqB e) ⟨1, e, r, []⟩ by
    unfold frameP checkedF
    rw [frameR_head]; rfl)
  rw [HE.out]
  generalize (checkedF (isSeqB e) ⟨1, e, r, []⟩).2 = cd at *
  obtain ⟨fk, fa, fb, fd, hf⟩ : ∃ fk fa fb fd, (checkedF (isSeqB e) ⟨1, e, r, []⟩).1 = ⟨fk, fa, fb, fd⟩ := ⟨_, _, _, _, rfl⟩
  rw [hf] at HC ⊢
  clear hf
  generalize isSeqB e = q at *
  have HA0 := Lib.hid (taHead_Head (.agg #[.int .u32 (vl e), .int .u32 (vl r)]))
  unfold headV at HR HK
  unfold fV at HC ⊢
  simp only at HC ⊢
  rw [show pcV (.head e r) = .iface 96 (.agg #[.int .u32 (vl e), .int .u32 (vl r)]) from rfl]
  obtain ⟨FB, hFB⟩ : ∃ FB, FB = bs fd := ⟨_, rfl⟩
  rw [← hFB] at HC ⊢
  rw [show bs [] = ⟨#[]⟩ from rfl] at HC
  have ta0 := HA0.out
  have hsz1 : (w.alloc (.cells #[.int .i64 0, .int .u32 0, .int .u32 0, .string ⟨#[]⟩] 49)).heap.size = w.heap.size + 1 := by simp
  obtain ⟨w1, hw1⟩ : ∃ w1, w1 = (w.alloc (.cells #[.int .i64 0, .int .u32 0, .int .u32 0, .string ⟨#[]⟩] 49)).alloc (.cells #[.int .u32 (vl e), .int .u32 (vl r)] 96) := ⟨_, rfl⟩
  have HB1 := Lib.hid (show Below w.heap.size w w1 by rw [hw1]; exact bel2 (Geom.bel_alloc _ _) (Geom.bel_alloc _ _))
  have HF1 := Lib.hid (show Var w1 w.heap.size 49 [.int .i64 0, .int .u32 0, .int .u32 0, .string ⟨#[]⟩] by rw [hw1]; exact (Var.new w _ _).alloc _)
  have HP1 := Lib.hid (show Var w1 (w.heap.size + 1) 96 [.int .u32 (vl e), .int .u32 (vl r)] by
    have := Var.new (w.alloc (.cells #[.int .i64 0, .int .u32 0, .int .u32 0, .string ⟨#[]⟩] 49)) 96 [.int .u32 (vl e), .int .u32 (vl r)]
    rw [hsz1] at this
    rw [hw1]; exact this)
  clear hFB
  go_enter Tryd.func28, Tryd.ntmps28
  go_wp2
  rw [← hw1]
  clear hw1 HA0
  refine wp_region_is_tail 12 [12, 13, 14, 15, 16, 17, 18, 19, 20, 21, 22, 23] (fun w' => Below w1.heap.size w1 w')
    [.agg #[.int .u32 (vl e), .int .u32 (vl r)], .bool q, .agg #[.int .u32 (vl e), .int .u32 (vl r)], .int .i64 1, .pointer (some ⟨w.heap.size + 1, 0, none⟩), .int .u32 (vl e), .pointer (some ⟨w.heap.size + 1, 1, none⟩), .int .u32 (vl r), .agg #[.int .i64 1, .int .u32 (vl e), .int .u32 (vl r), .string ⟨#[]⟩], .tuple #[.agg #[.int .i64 fk, .int .u32 (vl fa), .int .u32 (vl fb), .string FB], .int .i64 (cd : Int)], .agg #[.int .i64 fk, .int .u32 (vl fa), .int .u32 (vl fb), .string FB], .int .i64 (cd : Int)] (by kernel_rfl) (by kernel_rfl) (by kernel_rfl) (by decide) rfl (by decide) (by simp) (Below.refl _ _).drew ?each ?done
  case each =>
    simp only [List.take_succ_cons, List.take_zero, Each]
    repeat' (first | exact trivial | refine And.intro ?_ ?_)
    all_goals
      intro ys wx hBx hdeps
      simp only [Deps, Region.binds, List.getD_cons_zero, List.getD_cons_succ, forall_const, and_true] at hdeps
      have q0 := (HP1.out.below hBx HP1.out.lt).cell (j := 0) rfl
      have q1 := (HP1.out.below hBx HP1.out.lt).cell (j := 1) rfl
      simp only [hdeps, fill, List.foldl_cons, List.foldl_nil, Act.put, List.setIfInBounds_toArray, List.set_cons_succ, List.set_cons_zero]
      first
        | (go_wp2_with fail; exact ⟨_, rfl, rfl, hBx, Below.refl _ _⟩)
        | (go_wp2_with (go_at_call 59; (with_reducible refine (HR.out _).mono ?_); rintro e w3 ⟨rfl, hm⟩); exact ⟨_, rfl, rfl, hBx.trans (hm.mono hBx.size), hm⟩)
        | (go_wp2_with (go_at_call 60; (with_reducible refine (HK.out _).mono ?_); rintro e w3 ⟨rfl, hm⟩); exact ⟨_, rfl, rfl, hBx.trans (hm.mono hBx.size), hm⟩)
        | (go_wp2_with (go_at_call 58; (with_reducible refine (HC.out _).mono ?_); rintro e w3 ⟨rfl, hm⟩); exact ⟨_, rfl, rfl, hBx.trans (hm.mono hBx.size), hm⟩)
  case done =>
    intro ys wx hBx hV
    have h22 : ys 22 = .agg #[.int .i64 fk, .int .u32 (vl fa), .int .u32 (vl fb), .string FB] := hV 10 (by decide)
    have h23 : ys 23 = .int .i64 (cd : Int) := hV 11 (by decide)
    have vf := HF1.out.below hBx HF1.out.lt
    have k0 := vf.cell (j := 0) rfl
    have k1 := vf.cell (j := 1) rfl
    have k2 := vf.cell (j := 2) rfl
    have k3 := vf.cell (j := 3) rfl
    have f0 := vf.frozen 0
    have f1 := vf.frozen 1
    have f2 := vf.frozen 2
    have f3 := vf.frozen 3
    have vr := (((vf.set 0 (.int .i64 fk)).set 1 (.int .u32 (vl fa))).set 2 (.int .u32 (vl fb))).set 3 (.string FB)
    clear hV
    simp only [h22, h23, fill, List.drop_succ_cons, List.drop_zero, List.foldl_cons, List.foldl_nil, Act.put, List.setIfInBounds_toArray, List.set_cons_succ, List.set_cons_zero]
    go_wp2
    have z0 := vr.cell (j := 0) rfl
    have z1 := vr.cell (j := 1) rfl
    have z2 := vr.cell (j := 2) rfl
    have z3 := vr.cell (j := 3) rfl
    clear vr vf k0 k1 k2 k3 f0 f1 f2 f3
    refine bodyPost_ret (v := .tuple #[.agg #[.int .i64 fk, .int .u32 (vl fa), .int .u32 (vl fb), .string FB], .int .i64 (cd : Int)]) (by rw [results_cell_tmp rfl]; simp [go_sem, z0, z1, z2, z3]) rfl ?_
    exact ⟨rfl, ((((bel2 HB1.out hBx).setCell (p := ⟨w.heap.size, 0, none⟩) (Nat.le_refl _) _).setCell (p := ⟨w.heap.size, 1, none⟩) (Nat.le_refl _) _).setCell (p := ⟨w.heap.size, 2, none⟩) (Nat.le_refl _) _).setCell (p := ⟨w.heap.size, 3, none⟩) (Nat.le_refl _) _⟩
set_option maxRecDepth 100000 in
set_option maxHeartbeats 8000000 in
theorem frame_part (s a : W) (t : List UInt8) (w : World) : Calls Tryd.prog 28 #[pcV (.part s a t)] w fun e' w' => e' = .returned (.tuple #[fV (frameP (.part s a t)).1, .int .i64 ((frameP (.part s a t)).2 : Int)]) ∧ Below w.heap.size w w' := by
  have HR := Lib.hid (fun w => partRight_any s a t w)
  have HK := Lib.hid (fun w => partKind_any s a t w)
  have HC := Lib.hid (fun w => checked_any (partR s t) ⟨2, s, a, t⟩ w)
  have HE := Lib.hid (show frameP (.part s a t) = checkedF (partR s t) ⟨2, s, a, t⟩ by
    unfold frameP checkedF
    rw [frameR_part]; rfl)
  rw [HE.out]
  generalize (checkedF (partR s t) ⟨2, s, a, t⟩).2 = cd at *
  obtain ⟨fk, fa, fb, fd, hf⟩ : ∃ fk fa fb fd, (checkedF (partR s t) ⟨2, s, a, t⟩).1 = ⟨fk, fa, fb, fd⟩ := ⟨_, _, _, _, rfl⟩
  rw [hf] at HC ⊢
  clear hf
  generalize partR s t = q at *
  have HA0 := Lib.hid (taHead_Part (.agg #[.int .u32 (vl s), .int .u32 (vl a), .string (bs t)]))
  have HA1 := Lib.hid (taPart_Part (.agg #[.int .u32 (vl s), .int .u32 (vl a), .string (bs t)]))
  unfold partV at HR HK
  unfold fV at HC ⊢
  simp only at HC ⊢
  rw [show pcV (.part s a t) = .iface 100 (.agg #[.int .u32 (vl s), .int .u32 (vl a), .string (bs t)]) from rfl]
  obtain ⟨FB, hFB⟩ : ∃ FB, FB = bs fd := ⟨_, rfl⟩
  rw [← hFB] at HC ⊢
  obtain ⟨T, hT⟩ : ∃ T, T = bs t := ⟨_, rfl⟩
  rw [← hT] at HR HK HC ⊢
  rw [← hT] at HA0
  rw [← hT] at HA1
  clear hT
  have ta0 := HA0.out
  have ta1 := HA1.out
  have hsz1 : (w.alloc (.cells #[.int .i64 0, .int .u32 0, .int .u32 0, .string ⟨#[]⟩] 49)).heap.size = w.heap.size + 1 := by simp
  obtain ⟨w1, hw1⟩ : ∃ w1, w1 = (w.alloc (.cells #[.int .i64 0, .int .u32 0, .int .u32 0, .string ⟨#[]⟩] 49)).alloc (.cells #[.int .u32 (vl s), .int .u32 (vl a), .string T] 100) := ⟨_, rfl⟩
  have HB1 := Lib.hid (show Below w.heap.size w w1 by rw [hw1]; exact bel2 (Geom.bel_alloc _ _) (Geom.bel_alloc _ _))
  have HF1 := Lib.hid (show Var w1 w.heap.size 49 [.int .i64 0, .int .u32 0, .int .u32 0, .string ⟨#[]⟩] by rw [hw1]; exact (Var.new w _ _).alloc _)
  have HP1 := Lib.hid (show Var w1 (w.heap.size + 1) 100 [.int .u32 (vl s), .int .u32 (vl a), .string T] by
    have := Var.new (w.alloc (.cells #[.int .i64 0, .int .u32 0, .int .u32 0, .string ⟨#[]⟩] 49)) 100 [.int .u32 (vl s), .int .u32 (vl a), .string T]
    rw [hsz1] at this
    rw [hw1]; exact this)
  clear hFB
  go_enter Tryd.func28, Tryd.ntmps28
  go_wp2
  rw [← hw1]
  clear hw1 HA0
  refine wp_region_is_tail 14 [27, 28, 29, 30, 31, 32, 33, 34, 35, 36, 37, 38, 39, 40] (fun w' => Below w1.heap.size w1 w')
    [.agg #[.int .u32 (vl s), .int .u32 (vl a), .string T], .bool q, .agg #[.int .u32 (vl s), .int .u32 (vl a), .string T], .int .i64 2, .pointer (some ⟨w.heap.size + 1, 0, none⟩), .int .u32 (vl s), .pointer (some ⟨w.heap.size + 1, 1, none⟩), .int .u32 (vl a), .pointer (some ⟨w.heap.size + 1, 2, none⟩), .string T, .agg #[.int .i64 2, .int .u32 (vl s), .int .u32 (vl a), .string T], .tuple #[.agg #[.int .i64 fk, .int .u32 (vl fa), .int .u32 (vl fb), .string FB], .int .i64 (cd : Int)], .agg #[.int .i64 fk, .int .u32 (vl fa), .int .u32 (vl fb), .string FB], .int .i64 (cd : Int)] (by kernel_rfl) (by kernel_rfl) (by kernel_rfl) (by decide) rfl (by decide) (by simp) (Below.refl _ _).drew ?each ?done
  case each =>
    simp only [List.take_succ_cons, List.take_zero, Each]
    repeat' (first | exact trivial | refine And.intro ?_ ?_)
    all_goals
      intro ys wx hBx hdeps
      simp only [Deps, Region.binds, List.getD_cons_zero, List.getD_cons_succ, forall_const, and_true] at hdeps
      have q0 := (HP1.out.below hBx HP1.out.lt).cell (j := 0) rfl
      have q1 := (HP1.out.below hBx HP1.out.lt).cell (j := 1) rfl
      have q2 := (HP1.out.below hBx HP1.out.lt).cell (j := 2) rfl
      simp only [hdeps, fill, List.foldl_cons, List.foldl_nil, Act.put, List.setIfInBounds_toArray, List.set_cons_succ, List.set_cons_zero]
      first
        | (go_wp2_with fail; exact ⟨_, rfl, rfl, hBx, Below.refl _ _⟩)
        | (go_wp2_with (go_at_call 61; (with_reducible refine (HR.out _).mono ?_); rintro e w3 ⟨rfl, hm⟩); exact ⟨_, rfl, rfl, hBx.trans (hm.mono hBx.size), hm⟩)
        | (go_wp2_with (go_at_call 62; (with_reducible refine (HK.out _).mono ?_); rintro e w3 ⟨rfl, hm⟩); exact ⟨_, rfl, rfl, hBx.trans (hm.mono hBx.size), hm⟩)
        | (go_wp2_with (go_at_call 58; (with_reducible refine (HC.out _).mono ?_); rintro e w3 ⟨rfl, hm⟩); exact ⟨_, rfl, rfl, hBx.trans (hm.mono hBx.size), hm⟩)
  case done =>
    intro ys wx hBx hV
    have h39 : ys 39 = .agg #[.int .i64 fk, .int .u32 (vl fa), .int .u32 (vl fb), .string FB] := hV 12 (by decide)
    have h40 : ys 40 = .int .i64 (cd : Int) := hV 13 (by decide)
    have vf := HF1.out.below hBx HF1.out.lt
    have k0 := vf.cell (j := 0) rfl
    have k1 := vf.cell (j := 1) rfl
    have k2 := vf.cell (j := 2) rfl
    have k3 := vf.cell (j := 3) rfl
    have f0 := vf.frozen 0
    have f1 := vf.frozen 1
    have f2 := vf.frozen 2
    have f3 := vf.frozen 3
    have vr := (((vf.set 0 (.int .i64 fk)).set 1 (.int .u32 (vl fa))).set 2 (.int .u32 (vl fb))).set 3 (.string FB)
    clear hV
    simp only [h39, h40, fill, List.drop_succ_cons, List.drop_zero, List.foldl_cons, List.foldl_nil, Act.put, List.setIfInBounds_toArray, List.set_cons_succ, List.set_cons_zero]
    go_wp2
    have z0 := vr.cell (j := 0) rfl
    have z1 := vr.cell (j := 1) rfl
    have z2 := vr.cell (j := 2) rfl
    have z3 := vr.cell (j := 3) rfl
    clear vr vf k0 k1 k2 k3 f0 f1 f2 f3
    refine bodyPost_ret (v := .tuple #[.agg #[.int .i64 fk, .int .u32 (vl fa), .int .u32 (vl fb), .string FB], .int .i64 (cd : Int)]) (by rw [results_cell_tmp rfl]; simp [go_sem, z0, z1, z2, z3]) rfl ?_
    exact ⟨rfl, ((((bel2 HB1.out hBx).setCell (p := ⟨w.heap.size, 0, none⟩) (Nat.le_refl _) _).setCell (p := ⟨w.heap.size, 1, none⟩) (Nat.le_refl _) _).setCell (p := ⟨w.heap.size, 2, none⟩) (Nat.le_refl _) _).setCell (p := ⟨w.heap.size, 3, none⟩) (Nat.le_refl _) _⟩
set_option maxRecDepth 100000 in
set_option maxHeartbeats 8000000 in
theorem frame_fin (s p v f u z : W) (w : World) : Calls Tryd.prog 28 #[pcV (.fin s p v f u z)] w fun e' w' => e' = .returned (.tuple #[fV (frameP (.fin s p v f u z)).1, .int .i64 ((frameP (.fin s p v f u z)).2 : Int)]) ∧ Below w.heap.size w w' := by
  have HR := Lib.hid (fun w => sealRight_any s p v f u z w)
  have HK := Lib.hid (fun w => sealKind_any s p v f u z w)
  have HC := Lib.hid (fun w => checked_any (sealPR s p v f z) ⟨3, s, p, four v f u z⟩ w)
  have HB4 := Lib.hid (fun w => sealBody_any s p v f u z w)
  have HE := Lib.hid (show frameP (.fin s p v f u z) = checkedF (sealPR s p v f z) ⟨3, s, p, four v f u z⟩ by
    unfold frameP checkedF
    rw [frameR_fin]; rfl)
  rw [HE.out]
  generalize (checkedF (sealPR s p v f z) ⟨3, s, p, four v f u z⟩).2 = cd at *
  obtain ⟨fk, fa, fb, fd, hf⟩ : ∃ fk fa fb fd, (checkedF (sealPR s p v f z) ⟨3, s, p, four v f u z⟩).1 = ⟨fk, fa, fb, fd⟩ := ⟨_, _, _, _, rfl⟩
  rw [hf] at HC ⊢
  clear hf
  generalize sealPR s p v f z = q at *
  have HA0 := Lib.hid (taHead_Seal (.agg #[.int .u32 (vl s), .int .u32 (vl p), .int .u32 (vl v), .int .u32 (vl f), .int .u32 (vl u), .int .u32 (vl z)]))
  have HA1 := Lib.hid (taPart_Seal (.agg #[.int .u32 (vl s), .int .u32 (vl p), .int .u32 (vl v), .int .u32 (vl f), .int .u32 (vl u), .int .u32 (vl z)]))
  have HA2 := Lib.hid (taSeal_Seal (.agg #[.int .u32 (vl s), .int .u32 (vl p), .int .u32 (vl v), .int .u32 (vl f), .int .u32 (vl u), .int .u32 (vl z)]))
  unfold sealV at HR HK HB4
  unfold fV at HC ⊢
  simp only at HC ⊢
  rw [show pcV (.fin s p v f u z) = .iface 61 (.agg #[.int .u32 (vl s), .int .u32 (vl p), .int .u32 (vl v), .int .u32 (vl f), .int .u32 (vl u), .int .u32 (vl z)]) from rfl]
  obtain ⟨FB, hFB⟩ : ∃ FB, FB = bs fd := ⟨_, rfl⟩
  rw [← hFB] at HC ⊢
  obtain ⟨T4, hT4⟩ : ∃ T, T = bs (four v f u z) := ⟨_, rfl⟩
  rw [← hT4] at HB4 HC
  clear hT4
  have ta0 := HA0.out
  have ta1 := HA1.out
  have ta2 := HA2.out
  have hsz1 : (w.alloc (.cells #[.int .i64 0, .int .u32 0, .int .u32 0, .string ⟨#[]⟩] 49)).heap.size = w.heap.size + 1 := by simp
  obtain ⟨w1, hw1⟩ : ∃ w1, w1 = (w.alloc (.cells #[.int .i64 0, .int .u32 0, .int .u32 0, .string ⟨#[]⟩] 49)).alloc (.cells #[.int .u32 (vl s), .int .u32 (vl p), .int .u32 (vl v), .int .u32 (vl f), .int .u32 (vl u), .int .u32 (vl z)] 61) := ⟨_, rfl⟩
  have HB1 := Lib.hid (show Below w.heap.size w w1 by rw [hw1]; exact bel2 (Geom.bel_alloc _ _) (Geom.bel_alloc _ _))
  have HF1 := Lib.hid (show Var w1 w.heap.size 49 [.int .i64 0, .int .u32 0, .int .u32 0, .string ⟨#[]⟩] by rw [hw1]; exact (Var.new w _ _).alloc _)
  have HP1 := Lib.hid (show Var w1 (w.heap.size + 1) 61 [.int .u32 (vl s), .int .u32 (vl p), .int .u32 (vl v), .int .u32 (vl f), .int .u32 (vl u), .int .u32 (vl z)] by
    have := Var.new (w.alloc (.cells #[.int .i64 0, .int .u32 0, .int .u32 0, .string ⟨#[]⟩] 49)) 61 [.int .u32 (vl s), .int .u32 (vl p), .int .u32 (vl v), .int .u32 (vl f), .int .u32 (vl u), .int .u32 (vl z)]
    rw [hsz1] at this
    rw [hw1]; exact this)
  clear hFB
  go_enter Tryd.func28, Tryd.ntmps28
  go_wp2
  rw [← hw1]
  clear hw1 HA0
  refine wp_region_is_tail 14 [44, 45, 46, 47, 48, 49, 50, 51, 52, 53, 54, 55, 56, 57] (fun w' => Below w1.heap.size w1 w')
    [.agg #[.int .u32 (vl s), .int .u32 (vl p), .int .u32 (vl v), .int .u32 (vl f), .int .u32 (vl u), .int .u32 (vl z)], .bool q, .agg #[.int .u32 (vl s), .int .u32 (vl p), .int .u32 (vl v), .int .u32 (vl f), .int .u32 (vl u), .int .u32 (vl z)], .int .i64 3, .pointer (some ⟨w.heap.size + 1, 0, none⟩), .int .u32 (vl s), .pointer (some ⟨w.heap.size + 1, 1, none⟩), .int .u32 (vl p), .agg #[.int .u32 (vl s), .int .u32 (vl p), .int .u32 (vl v), .int .u32 (vl f), .int .u32 (vl u), .int .u32 (vl z)], .string T4, .agg #[.int .i64 3, .int .u32 (vl s), .int .u32 (vl p), .string T4], .tuple #[.agg #[.int .i64 fk, .int .u32 (vl fa), .int .u32 (vl fb), .string FB], .int .i64 (cd : Int)], .agg #[.int .i64 fk, .int .u32 (vl fa), .int .u32 (vl fb), .string FB], .int .i64 (cd : Int)] (by kernel_rfl) (by kernel_rfl) (by kernel_rfl) (by decide) rfl (by decide) (by simp) (Below.refl _ _).drew ?each ?done
  case each =>
    simp only [List.take_succ_cons, List.take_zero, Each]
    repeat' (first | exact trivial | refine And.intro ?_ ?_)
    all_goals
      intro ys wx hBx hdeps
      simp only [Deps, Region.binds, List.getD_cons_zero, List.getD_cons_succ, forall_const, and_true] at hdeps
      have q0 := (HP1.out.below hBx HP1.out.lt).cell (j := 0) rfl
      have q1 := (HP1.out.below hBx HP1.out.lt).cell (j := 1) rfl
      have q2 := (HP1.out.below hBx HP1.out.lt).cell (j := 2) rfl
      have q3 := (HP1.out.below hBx HP1.out.lt).cell (j := 3) rfl
      have q4 := (HP1.out.below hBx HP1.out.lt).cell (j := 4) rfl
      have q5 := (HP1.out.below hBx HP1.out.lt).cell (j := 5) rfl
      simp only [hdeps, fill, List.foldl_cons, List.foldl_nil, Act.put, List.setIfInBounds_toArray, List.set_cons_succ, List.set_cons_zero]
      first
        | (go_wp2_with fail; exact ⟨_, rfl, rfl, hBx, Below.refl _ _⟩)
        | (go_wp2_with (go_at_call 63; (with_reducible refine (HR.out _).mono ?_); rintro e w3 ⟨rfl, hm⟩); exact ⟨_, rfl, rfl, hBx.trans (hm.mono hBx.size), hm⟩)
        | (go_wp2_with (go_at_call 64; (with_reducible refine (HK.out _).mono ?_); rintro e w3 ⟨rfl, hm⟩); exact ⟨_, rfl, rfl, hBx.trans (hm.mono hBx.size), hm⟩)
        | (go_wp2_with (go_at_call 58; (with_reducible refine (HC.out _).mono ?_); rintro e w3 ⟨rfl, hm⟩); exact ⟨_, rfl, rfl, hBx.trans (hm.mono hBx.size), hm⟩)
        | (go_wp2_with (go_at_call 65; (with_reducible refine (HB4.out _).mono ?_); rintro e w3 ⟨rfl, hm⟩); exact ⟨_, rfl, rfl, hBx.trans (hm.mono hBx.size), hm⟩)
  case done =>
    intro ys wx hBx hV
    have h56 : ys 56 = .agg #[.int .i64 fk, .int .u32 (vl fa), .int .u32 (vl fb), .string FB] := hV 12 (by decide)
    have h57 : ys 57 = .int .i64 (cd : Int) := hV 13 (by decide)
    have vf := HF1.out.below hBx HF1.out.lt
    have k0 := vf.cell (j := 0) rfl
    have k1 := vf.cell (j := 1) rfl
    have k2 := vf.cell (j := 2) rfl
    have k3 := vf.cell (j := 3) rfl
    have f0 := vf.frozen 0
    have f1 := vf.frozen 1
    have f2 := vf.frozen 2
    have f3 := vf.frozen 3
    have vr := (((vf.set 0 (.int .i64 fk)).set 1 (.int .u32 (vl fa))).set 2 (.int .u32 (vl fb))).set 3 (.string FB)
    clear hV
    simp only [h56, h57, fill, List.drop_succ_cons, List.drop_zero, List.foldl_cons, List.foldl_nil, Act.put, List.setIfInBounds_toArray, List.set_cons_succ, List.set_cons_zero]
    go_wp2
    have z0 := vr.cell (j := 0) rfl
    have z1 := vr.cell (j := 1) rfl
    have z2 := vr.cell (j := 2) rfl
    have z3 := vr.cell (j := 3) rfl
    clear vr vf k0 k1 k2 k3 f0 f1 f2 f3
    refine bodyPost_ret (v := .tuple #[.agg #[.int .i64 fk, .int .u32 (vl fa), .int .u32 (vl fb), .string FB], .int .i64 (cd : Int)]) (by rw [results_cell_tmp rfl]; simp [go_sem, z0, z1, z2, z3]) rfl ?_
    exact ⟨rfl, ((((bel2 HB1.out hBx).setCell (p := ⟨w.heap.size, 0, none⟩) (Nat.le_refl _) _).setCell (p := ⟨w.heap.size, 1, none⟩) (Nat.le_refl _) _).setCell (p := ⟨w.heap.size, 2, none⟩) (Nat.le_refl _) _).setCell (p := ⟨w.heap.size, 3, none⟩) (Nat.le_refl _) _⟩
set_option maxRecDepth 100000 in
set_option maxHeartbeats 8000000 in
theorem frame_floor (s g f : W) (w : World) : Calls Tryd.prog 28 #[pcV (.floor s g f)] w fun e' w' => e' = .returned (.tuple #[fV (frameP (.floor s g f)).1, .int .i64 ((frameP (.floor s g f)).2 : Int)]) ∧ Below w.heap.size w w' := by
  have HR := Lib.hid (fun w => floorRight_any s g f w)
  have HK := Lib.hid (fun w => floorKind_any s g f w)
  have HC := Lib.hid (fun w => checked_any (floorPR s f) ⟨4, s, g, CrcM.put f.toNat⟩ w)
  have HB4 : Hid (∀ w, Calls Tryd.prog 68 #[.int .u32 (vl f)] w fun e' w' => e' = .returned (.string (bs (CrcM.put f.toNat))) ∧ Below w.heap.size w w') := fun w => Crc.put_any f w
  have HE := Lib.hid (show frameP (.floor s g f) = checkedF (floorPR s f) ⟨4, s, g, CrcM.put f.toNat⟩ by
    unfold frameP checkedF
    rw [frameR_floor]; rfl)
  rw [HE.out]
  generalize (checkedF (floorPR s f) ⟨4, s, g, CrcM.put f.toNat⟩).2 = cd at *
  obtain ⟨fk, fa, fb, fd, hf⟩ : ∃ fk fa fb fd, (checkedF (floorPR s f) ⟨4, s, g, CrcM.put f.toNat⟩).1 = ⟨fk, fa, fb, fd⟩ := ⟨_, _, _, _, rfl⟩
  rw [hf] at HC ⊢
  clear hf
  generalize floorPR s f = q at *
  have HA0 := Lib.hid (taHead_Floor (.agg #[.int .u32 (vl s), .int .u32 (vl g), .int .u32 (vl f)]))
  have HA1 := Lib.hid (taPart_Floor (.agg #[.int .u32 (vl s), .int .u32 (vl g), .int .u32 (vl f)]))
  have HA2 := Lib.hid (taSeal_Floor (.agg #[.int .u32 (vl s), .int .u32 (vl g), .int .u32 (vl f)]))
  have HA3 := Lib.hid (taFloor_Floor (.agg #[.int .u32 (vl s), .int .u32 (vl g), .int .u32 (vl f)]))
  unfold floorV at HR HK
  unfold fV at HC ⊢
  simp only at HC ⊢
  rw [show pcV (.floor s g f) = .iface 102 (.agg #[.int .u32 (vl s), .int .u32 (vl g), .int .u32 (vl f)]) from rfl]
  obtain ⟨FB, hFB⟩ : ∃ FB, FB = bs fd := ⟨_, rfl⟩
  rw [← hFB] at HC ⊢
  obtain ⟨T4, hT4⟩ : ∃ T, T = bs (CrcM.put f.toNat) := ⟨_, rfl⟩
  rw [← hT4] at HB4 HC
  clear hT4
  have ta0 := HA0.out
  have ta1 := HA1.out
  have ta2 := HA2.out
  have ta3 := HA3.out
  have hsz1 : (w.alloc (.cells #[.int .i64 0, .int .u32 0, .int .u32 0, .string ⟨#[]⟩] 49)).heap.size = w.heap.size + 1 := by simp
  obtain ⟨w1, hw1⟩ : ∃ w1, w1 = (w.alloc (.cells #[.int .i64 0, .int .u32 0, .int .u32 0, .string ⟨#[]⟩] 49)).alloc (.cells #[.int .u32 (vl s), .int .u32 (vl g), .int .u32 (vl f)] 102) := ⟨_, rfl⟩
  have HB1 := Lib.hid (show Below w.heap.size w w1 by rw [hw1]; exact bel2 (Geom.bel_alloc _ _) (Geom.bel_alloc _ _))
  have HF1 := Lib.hid (show Var w1 w.heap.size 49 [.int .i64 0, .int .u32 0, .int .u32 0, .string ⟨#[]⟩] by rw [hw1]; exact (Var.new w _ _).alloc _)
  have HP1 := Lib.hid (show Var w1 (w.heap.size + 1) 102 [.int .u32 (vl s), .int .u32 (vl g), .int .u32 (vl f)] by
    have := Var.new (w.alloc (.cells #[.int .i64 0, .int .u32 0, .int .u32 0, .string ⟨#[]⟩] 49)) 102 [.int .u32 (vl s), .int .u32 (vl g), .int .u32 (vl f)]
    rw [hsz1] at this
    rw [hw1]; exact this)
  clear hFB
  go_enter Tryd.func28, Tryd.ntmps28
  go_wp2
  rw [← hw1]
  clear hw1 HA0
  refine wp_region_is_tail 15 [61, 62, 63, 64, 65, 66, 67, 68, 69, 70, 71, 72, 73, 74, 75] (fun w' => Below w1.heap.size w1 w')
    [.agg #[.int .u32 (vl s), .int .u32 (vl g), .int .u32 (vl f)], .bool q, .agg #[.int .u32 (vl s), .int .u32 (vl g), .int .u32 (vl f)], .int .i64 4, .pointer (some ⟨w.heap.size + 1, 0, none⟩), .int .u32 (vl s), .pointer (some ⟨w.heap.size + 1, 1, none⟩), .int .u32 (vl g), .pointer (some ⟨w.heap.size + 1, 2, none⟩), .int .u32 (vl f), .string T4, .agg #[.int .i64 4, .int .u32 (vl s), .int .u32 (vl g), .string T4], .tuple #[.agg #[.int .i64 fk, .int .u32 (vl fa), .int .u32 (vl fb), .string FB], .int .i64 (cd : Int)], .agg #[.int .i64 fk, .int .u32 (vl fa), .int .u32 (vl fb), .string FB], .int .i64 (cd : Int)] (by kernel_rfl) (by kernel_rfl) (by kernel_rfl) (by decide) rfl (by decide) (by simp) (Below.refl _ _).drew ?each ?done
  case each =>
    simp only [List.take_succ_cons, List.take_zero, Each]
    repeat' (first | exact trivial | refine And.intro ?_ ?_)
    all_goals
      intro ys wx hBx hdeps
      simp only [Deps, Region.binds, List.getD_cons_zero, List.getD_cons_succ, forall_const, and_true] at hdeps
      have q0 := (HP1.out.below hBx HP1.out.lt).cell (j := 0) rfl
      have q1 := (HP1.out.below hBx HP1.out.lt).cell (j := 1) rfl
      have q2 := (HP1.out.below hBx HP1.out.lt).cell (j := 2) rfl
      simp only [hdeps, fill, List.foldl_cons, List.foldl_nil, Act.put, List.setIfInBounds_toArray, List.set_cons_succ, List.set_cons_zero]
      first
        | (go_wp2_with fail; exact ⟨_, rfl, rfl, hBx, Below.refl _ _⟩)
        | (go_wp2_with (go_at_call 66; (with_reducible refine (HR.out _).mono ?_); rintro e w3 ⟨rfl, hm⟩); exact ⟨_, rfl, rfl, hBx.trans (hm.mono hBx.size), hm⟩)
        | (go_wp2_with (go_at_call 67; (with_reducible refine (HK.out _).mono ?_); rintro e w3 ⟨rfl, hm⟩); exact ⟨_, rfl, rfl, hBx.trans (hm.mono hBx.size), hm⟩)
        | (go_wp2_with (go_at_call 58; (with_reducible refine (HC.out _).mono ?_); rintro e w3 ⟨rfl, hm⟩); exact ⟨_, rfl, rfl, hBx.trans (hm.mono hBx.size), hm⟩)
        | (go_wp2_with (go_at_call 68; (with_reducible refine (HB4.out _).mono ?_); rintro e w3 ⟨rfl, hm⟩); exact ⟨_, rfl, rfl, hBx.trans (hm.mono hBx.size), hm⟩)
  case done =>
    intro ys wx hBx hV
    have h74 : ys 74 = .agg #[.int .i64 fk, .int .u32 (vl fa), .int .u32 (vl fb), .string FB] := hV 13 (by decide)
    have h75 : ys 75 = .int .i64 (cd : Int) := hV 14 (by decide)
    have vf := HF1.out.below hBx HF1.out.lt
    have k0 := vf.cell (j := 0) rfl
    have k1 := vf.cell (j := 1) rfl
    have k2 := vf.cell (j := 2) rfl
    have k3 := vf.cell (j := 3) rfl
    have f0 := vf.frozen 0
    have f1 := vf.frozen 1
    have f2 := vf.frozen 2
    have f3 := vf.frozen 3
    have vr := (((vf.set 0 (.int .i64 fk)).set 1 (.int .u32 (vl fa))).set 2 (.int .u32 (vl fb))).set 3 (.string FB)
    clear hV
    simp only [h74, h75, fill, List.drop_succ_cons, List.drop_zero, List.foldl_cons, List.foldl_nil, Act.put, List.setIfInBounds_toArray, List.set_cons_succ, List.set_cons_zero]
    go_wp2
    have z0 := vr.cell (j := 0) rfl
    have z1 := vr.cell (j := 1) rfl
    have z2 := vr.cell (j := 2) rfl
    have z3 := vr.cell (j := 3) rfl
    clear vr vf k0 k1 k2 k3 f0 f1 f2 f3
    refine bodyPost_ret (v := .tuple #[.agg #[.int .i64 fk, .int .u32 (vl fa), .int .u32 (vl fb), .string FB], .int .i64 (cd : Int)]) (by rw [results_cell_tmp rfl]; simp [go_sem, z0, z1, z2, z3]) rfl ?_
    exact ⟨rfl, ((((bel2 HB1.out hBx).setCell (p := ⟨w.heap.size, 0, none⟩) (Nat.le_refl _) _).setCell (p := ⟨w.heap.size, 1, none⟩) (Nat.le_refl _) _).setCell (p := ⟨w.heap.size, 2, none⟩) (Nat.le_refl _) _).setCell (p := ⟨w.heap.size, 3, none⟩) (Nat.le_refl _) _⟩
set_option maxRecDepth 100000 in
set_option maxHeartbeats 8000000 in
theorem frame_none (w : World) : Calls Tryd.prog 28 #[pcV .none] w fun e' w' => e' = .returned (.tuple #[fV (frameP .none).1, .int .i64 ((frameP .none).2 : Int)]) ∧ Below w.heap.size w w' := by
  rw [frameP_none]
  unfold fV zeroF
  rw [show pcV .none = .nilIface from rfl]
  have ta0 := taHead_nil
  have ta1 := taPart_nil
  have ta2 := taSeal_nil
  have ta3 := taFloor_nil
  show Calls Tryd.prog _ _ _ fun e' w' => e' = .returned (.tuple #[.agg #[.int .i64 0, .int .u32 0, .int .u32 0, .string ⟨#[]⟩], .int .i64 2]) ∧ Below w.heap.size w w'
  go_enter Tryd.func28, Tryd.ntmps28
  go_wp2
  refine bodyPost_ret (v := .tuple #[.agg #[.int .i64 0, .int .u32 0, .int .u32 0, .string ⟨#[]⟩], .int .i64 2]) (by rw [results_cell_tmp rfl]; simp [go_sem]) rfl ?_
  exact ⟨rfl, Geom.bel_alloc _ _⟩
theorem frame_any (p : Pc) (w : World) : Calls Tryd.prog 28 #[pcV p] w fun e' w' => e' = .returned (.tuple #[fV (frameP p).1, .int .i64 ((frameP p).2 : Int)]) ∧ Below w.heap.size w w' := by
  rcases p with _ | ⟨e, r⟩ | ⟨s, a, t⟩ | ⟨s, p, v, f, u, z⟩ | ⟨s, g, f⟩
  · exact frame_none w
  · exact frame_head e r w
  · exact frame_part s a t w
  · exact frame_fin s p v f u z w
  · exact frame_floor s g f w
end Go.Proofs.YtligapgjdpdihaaDoor.Piece
