/-
  What package group's textOf answers.
-/
import Derived.Test.YtligapgjdpdihaaGreatDoorRunPieceX
import Derived.Test.YtligapgjdpdihaaGreatDoorRunGroupM
import Derived.Test.YtligapgjdpdihaaGreatDoorRunBuild
set_option linter.unusedVariables false
set_option linter.unusedSimpArgs false
namespace Go.Proofs.YtligapgjdpdihaaGreatDoor.Group
open Go.RowKit
open CrcM (W)
open Crc (le4 sumOf vl wd putS)
open Flash (bs bs_size bs_list list_bs cut)
open Go.Proofs.YtligapgjdpdihaaGreatDoor.Frame (Fr zeroF fV fC bel2 below_drewN)
open Piece (pieceR isSeqB ofF ofF_ok ofF_not pcOf pcV Pc of_any asPart_any asSeal_any asPartV asSealV isPartP isSealP sealV partV)
open Tup Bytes Own
open Build (Bld TB TY Stays)
open Go.Proofs.YtligapgjdpdihaaGreatDoor.Region (fill Then Deps Each wp_region_is wp_region_is_tail wp_region_each wp_region_tail)
/-- the texts of these Parts, or nothing -/
def okText (s : W) (l : List Fr) : List UInt8 := if partsOk s 0 l = true then textsF l else []
theorem okText_t {s : W} {l : List Fr} (h : partsOk s 0 l = true) : okText s l = textsF l := by unfold okText; rw [if_pos h]
theorem okText_f {s : W} {l : List Fr} (h : partsOk s 0 l = false) : okText s l = [] := by unfold okText; rw [if_neg (by simp [h])]
set_option maxRecDepth 100000 in
set_option maxHeartbeats 8000000 in
theorem textOf_any (a : Option Addr) (l : List Fr) (cap : Nat) (hl : l.length ≤ 1000) (hz : ∀ f ∈ l, f.body.length ≤ 1048576) (s : W) (w : World) (hr : FAt w a l) :
    Calls Tryz.prog 15 #[.slice a l.length cap, .int .u32 (vl s)] w fun e w' => e = .returned (.tuple #[.string (bs (okText s l)), .bool (partsOk s 0 l)]) ∧ Below w.heap.size w w' := by
  have HR := Lib.hid hr
  have HZ := Lib.hid hz
  clear hr hz
  obtain ⟨n, hn⟩ : ∃ n, n = l.length := ⟨_, rfl⟩
  rw [← hn]
  have HL := Lib.hid hn
  rw [← hn] at hl
  clear hn
  go_enter Tryz.func15, Tryz.ntmps15
  go_wp2
  go_loopw [13] (fun i wr => ∃ k : Nat, i = .int .i64 (k : Int) ∧ k ≤ n ∧ partsOk s 0 (l.take k) = true ∧ Build.Wr w (textsF (l.take k)) wr) (fun i _ => n - (intOf i).toNat)
  case atStart => exact ⟨0, rfl, Nat.zero_le _, rfl, Build.Wr.new w⟩
  case round =>
    obtain ⟨k, rfl, hk, hpk, hwr⟩ := hrel
    have HPK := Lib.hid hpk
    have HW := Lib.hid hwr
    clear hpk hwr
    by_cases hlt : k < n
    case neg =>
      have d1 : decide ((k : Int) < (n : Int)) = false := by simp; omega
      have d2 : decide (k < n) = false := by simp; omega
      have hkl : l.length ≤ k := by rw [← HL.out]; omega
      have HE := Lib.hid (show partsOk s 0 l = true ∧ bs (textsF (l.take k)) = bs (textsF l) by
        have := HPK.out
        rw [List.take_of_length_le hkl] at this ⊢
        exact ⟨this, rfl⟩)
      clear hkl
      go_wp2_with (go_at_call 44; (with_reducible refine (Build.Wr.str HW.out).mono ?_); rintro e w9 ⟨rfl, hw9⟩)
      go_ret2
      refine ⟨?_, hw9.below⟩
      rw [okText_t HE.out.1, HE.out.1, ← HE.out.2]
      rfl
    have d1 : decide ((k : Int) < (n : Int)) = true := by simp; omega
    have d2 : decide (k < n) = true := by simp; omega
    have hlt' : k < l.length := by rw [← HL.out]; exact hlt
    obtain ⟨b, off, ha, hblt, c0, c1, c2, c3⟩ := FAt.get (HR.out.below HW.out.below) (List.getElem?_eq_getElem hlt')
    subst ha
    have hzk := HZ.out _ (List.getElem_mem hlt')
    have HBAD := Lib.hid (fun h => partsOk_bad s hlt' h)
    have HNX := Lib.hid (fun h => partsOk_next s hlt' HPK.out h)
    have HTX := Lib.hid (texts_next hlt')
    have HTL := Lib.hid (show (textsF (l.take k)).length ≤ 1048576000 by
      have h := texts_len (mem_take_of HZ.out k)
      rw [List.length_take] at h; omega)
    generalize l[k] = x at *
    clear hlt'
    have hb47 : x.body.length ≤ maxLen := by unfold maxLen; omega
    have HIC := Lib.hid (fun w => isCount_any x.b k (by omega) w)
    by_cases hp : pieceR x = true ∧ x.kind = 2
    case neg =>
      have HP := Lib.hid (fun w => partOf_not x hb47 (by
        cases h : pieceR x with
        | false => exact .inl rfl
        | true => exact .inr fun e => hp ⟨h, e⟩) w)
      have HOK := Lib.hid (show okAt s k x = false by
        unfold okAt
        cases h : pieceR x with
        | false => rfl
        | true => rw [decide_eq_false (fun e => hp ⟨h, e⟩)]; rfl)
      clear hp HIC
      obtain ⟨kd, xa, xb, body⟩ := x
      unfold fV at HP
      simp only at c0 c1 c2 c3 HP
      obtain ⟨B, hB⟩ : ∃ B, B = bs body := ⟨_, rfl⟩
      rw [← hB] at c3 HP
      clear hB hb47 hzk
      go_wp2_with (first
        | (go_at_call 42; ((with_reducible refine (HP.out _).mono ?_); rintro e w2 ⟨rfl, bz⟩; obtain ⟨w1, hw1⟩ : ∃ wx, wx = (wr.alloc (.cells #[.int .i64 kd, .int .u32 (vl xa), .int .u32 (vl xb), .string B] 29)) := ⟨_, rfl⟩; have bw1 := Lib.hid (show Below wr.heap.size wr w1 by rw [hw1]; exact (Geom.bel_alloc _ _)); have zw1 := Lib.hid (show wr.heap.size + 1 ≤ w1.heap.size by rw [hw1]; simp); have vw1f := Lib.hid (show Var w1 (wr.heap.size) 29 [.int .i64 kd, .int .u32 (vl xa), .int .u32 (vl xb), .string B] by rw [hw1]; exact (Var.new wr 29 [.int .i64 kd, .int .u32 (vl xa), .int .u32 (vl xb), .string B])); have hbel : Below w1.heap.size w1 w2 := (by rw [hw1]; exact bz); clear bz; have bw2 := Lib.hid (bel2 bw1.out hbel); have zw2 := Lib.hid hbel.size; have vw2f := Lib.hid (vw1f.out.below hbel vw1f.out.lt); clear hbel; have vf1 := (show Var (w2.alloc (.cells #[.int .u32 0, .int .u32 0, .string ⟨#[]⟩] 81)) (w2.heap.size) 81 [.int .u32 0, .int .u32 0, .string ⟨#[]⟩] from (Var.new w2 81 [.int .u32 0, .int .u32 0, .string ⟨#[]⟩])); have c2 := vf1.cell (j := 0) rfl; have c3 := vf1.cell (j := 1) rfl; have c4 := vf1.cell (j := 2) rfl; clear vf1)))
      go_ret2
      have HE := HBAD.out HOK.out
      refine ⟨?_, bel2 HW.out.below (bel2 bw2.out (Geom.bel_alloc _ _))⟩
      rw [okText_f HE, HE]
      rfl
    obtain ⟨hp1, hp2⟩ := hp
    have HP := Lib.hid (fun w => partOf_yes x hb47 hp1 hp2 w)
    obtain ⟨kd, xa, xb, body⟩ := x
    simp only at hp2
    subst hp2
    unfold fV partV at HP
    simp only at c0 c1 c2 c3 HP HIC hzk
    obtain ⟨B, hB⟩ : ∃ B, B = bs body := ⟨_, rfl⟩
    rw [← hB] at c3 HP
    have HBL := Lib.hid (show B.data.toList = body by rw [hB, list_bs])
    have HBS := Lib.hid (show B.size ≤ 1048576 by rw [hB, bs_size]; exact hzk)
    clear hB hb47 hzk
    have hne := Lib.hid (show okAt s k ⟨2, xa, xb, body⟩ = (decide (xa = s) && decide (vl xb = (k : Int))) by unfold okAt; rw [hp1]; simp)
    clear hp1
    by_cases ha : xa = s
    case neg =>
      have q1 : (vl xa == vl s) = false := by rw [beq_eq_false_iff_ne]; exact fun e => ha (Crc.vl_inj e)
      have q1' : (vl xa != vl s) = true := by rw [bne, q1]; rfl
      have HOK := Lib.hid (show okAt s k ⟨2, xa, xb, body⟩ = false by rw [hne.out, decide_eq_false ha]; rfl)
      clear ha hne HIC
      go_wp2_with (first
        | (go_at_call 42; ((with_reducible refine (HP.out _).mono ?_); rintro e w2 ⟨rfl, bz⟩; obtain ⟨w1, hw1⟩ : ∃ wx, wx = (wr.alloc (.cells #[.int .i64 2, .int .u32 (vl xa), .int .u32 (vl xb), .string B] 29)) := ⟨_, rfl⟩; have bw1 := Lib.hid (show Below wr.heap.size wr w1 by rw [hw1]; exact (Geom.bel_alloc _ _)); have zw1 := Lib.hid (show wr.heap.size + 1 ≤ w1.heap.size by rw [hw1]; simp); have vw1f := Lib.hid (show Var w1 (wr.heap.size) 29 [.int .i64 2, .int .u32 (vl xa), .int .u32 (vl xb), .string B] by rw [hw1]; exact (Var.new wr 29 [.int .i64 2, .int .u32 (vl xa), .int .u32 (vl xb), .string B])); have hbel : Below w1.heap.size w1 w2 := (by rw [hw1]; exact bz); clear bz; have bw2 := Lib.hid (bel2 bw1.out hbel); have zw2 := Lib.hid hbel.size; have vw2f := Lib.hid (vw1f.out.below hbel vw1f.out.lt); clear hbel; have vf1 := (show Var (w2.alloc (.cells #[.int .u32 (vl xa), .int .u32 (vl xb), .string B] 81)) (w2.heap.size) 81 [.int .u32 (vl xa), .int .u32 (vl xb), .string B] from (Var.new w2 81 [.int .u32 (vl xa), .int .u32 (vl xb), .string B])); have c2 := vf1.cell (j := 0) rfl; have c3 := vf1.cell (j := 1) rfl; have c4 := vf1.cell (j := 2) rfl; clear vf1)))
      go_ret2
      have HE := HBAD.out HOK.out
      refine ⟨?_, bel2 HW.out.below (bel2 bw2.out (Geom.bel_alloc _ _))⟩
      rw [okText_f HE, HE]
      rfl
    have q1 : (vl xa == vl s) = true := by rw [ha]; exact beq_self_eq_true _
    have q1' : (vl xa != vl s) = false := by rw [bne, q1]; rfl
    by_cases hat : vl xb = (k : Int)
    case neg =>
      have HOK := Lib.hid (show okAt s k ⟨2, xa, xb, body⟩ = false by rw [hne.out, decide_eq_false hat, Bool.and_false])
      rw [decide_eq_false hat] at HIC
      clear ha hat hne
      go_wp2_with (first
        | (go_at_call 42; ((with_reducible refine (HP.out _).mono ?_); rintro e w2 ⟨rfl, bz⟩; obtain ⟨w1, hw1⟩ : ∃ wx, wx = (wr.alloc (.cells #[.int .i64 2, .int .u32 (vl xa), .int .u32 (vl xb), .string B] 29)) := ⟨_, rfl⟩; have bw1 := Lib.hid (show Below wr.heap.size wr w1 by rw [hw1]; exact (Geom.bel_alloc _ _)); have zw1 := Lib.hid (show wr.heap.size + 1 ≤ w1.heap.size by rw [hw1]; simp); have vw1f := Lib.hid (show Var w1 (wr.heap.size) 29 [.int .i64 2, .int .u32 (vl xa), .int .u32 (vl xb), .string B] by rw [hw1]; exact (Var.new wr 29 [.int .i64 2, .int .u32 (vl xa), .int .u32 (vl xb), .string B])); have hbel : Below w1.heap.size w1 w2 := (by rw [hw1]; exact bz); clear bz; have bw2 := Lib.hid (bel2 bw1.out hbel); have zw2 := Lib.hid hbel.size; have vw2f := Lib.hid (vw1f.out.below hbel vw1f.out.lt); clear hbel; have vf1 := (show Var (w2.alloc (.cells #[.int .u32 (vl xa), .int .u32 (vl xb), .string B] 81)) (w2.heap.size) 81 [.int .u32 (vl xa), .int .u32 (vl xb), .string B] from (Var.new w2 81 [.int .u32 (vl xa), .int .u32 (vl xb), .string B])); have c2 := vf1.cell (j := 0) rfl; have c3 := vf1.cell (j := 1) rfl; have c4 := vf1.cell (j := 2) rfl; clear vf1))
        | (go_at_call 16; (with_reducible refine (HIC.out _).mono ?_); rintro e wsame ⟨rfl, rfl⟩))
      go_ret2
      have HE := HBAD.out HOK.out
      refine ⟨?_, bel2 HW.out.below (bel2 bw2.out (Geom.bel_alloc _ _))⟩
      rw [okText_f HE, HE]
      rfl
    case pos =>
      have HOK := Lib.hid (show okAt s k ⟨2, xa, xb, body⟩ = true by rw [hne.out, decide_eq_true ha, decide_eq_true hat]; rfl)
      rw [decide_eq_true hat] at HIC
      clear ha hat hne
      go_wp2_with (first
        | (go_at_call 42; ((with_reducible refine (HP.out _).mono ?_); rintro e w2 ⟨rfl, bz⟩; obtain ⟨w1, hw1⟩ : ∃ wx, wx = (wr.alloc (.cells #[.int .i64 2, .int .u32 (vl xa), .int .u32 (vl xb), .string B] 29)) := ⟨_, rfl⟩; have bw1 := Lib.hid (show Below wr.heap.size wr w1 by rw [hw1]; exact (Geom.bel_alloc _ _)); have zw1 := Lib.hid (show wr.heap.size + 1 ≤ w1.heap.size by rw [hw1]; simp); have vw1f := Lib.hid (show Var w1 (wr.heap.size) 29 [.int .i64 2, .int .u32 (vl xa), .int .u32 (vl xb), .string B] by rw [hw1]; exact (Var.new wr 29 [.int .i64 2, .int .u32 (vl xa), .int .u32 (vl xb), .string B])); have hbel : Below w1.heap.size w1 w2 := (by rw [hw1]; exact bz); clear bz; have bw2 := Lib.hid (bel2 bw1.out hbel); have zw2 := Lib.hid hbel.size; have vw2f := Lib.hid (vw1f.out.below hbel vw1f.out.lt); clear hbel; have vf1 := (show Var (w2.alloc (.cells #[.int .u32 (vl xa), .int .u32 (vl xb), .string B] 81)) (w2.heap.size) 81 [.int .u32 (vl xa), .int .u32 (vl xb), .string B] from (Var.new w2 81 [.int .u32 (vl xa), .int .u32 (vl xb), .string B])); have c2 := vf1.cell (j := 0) rfl; have c3 := vf1.cell (j := 1) rfl; have c4 := vf1.cell (j := 2) rfl; clear vf1))
        | (go_at_call 16; (with_reducible refine (HIC.out _).mono ?_); rintro e wsame ⟨rfl, rfl⟩)
        | (go_at_call 43; (with_reducible refine (Build.Wr.text (HW.out.grow (bel2 bw2.out (Geom.bel_alloc _ _))) B (by have := HTL.out; have := HBS.out; omega)).mono ?_); rintro e w9 ⟨rfl, hw9⟩))
      have HW9 := Lib.hid hw9
      clear hw9
      go_roundw
      case rel => exact ⟨k + 1, by go_num, by omega, HNX.out HOK.out, by rw [HTX.out]; have := HW9.out; rw [HBL.out] at this; exact this⟩
      case measure => simp [intOf]; omega
end Go.Proofs.YtligapgjdpdihaaGreatDoor.Group
