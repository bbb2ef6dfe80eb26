/-
  Joined texts: TapeM, FrameXa.
-/
import Derived.Test.YtcmjambbdfangaaGreatRunCommon
import Derived.Test.YtcmjambbdfangaaGreatRunFrameM
import Derived.Test.YtcmjambbdfangaaGreatRunRefFrame
import Derived.Test.YtcmjambbdfangaaGreatRunChartXa
import Derived.Test.YtcmjambbdfangaaGreatRunRefPiece
import Derived.Test.YtcmjambbdfangaaGreatRunTup
/-
  A tape as the document has it: a device, and its account. Nothing of the program's functions.
-/
set_option linter.unusedVariables false
set_option linter.unusedSimpArgs false
namespace Go.Proofs.YtcmjambbdfangaaGreat.Tape
open CrcM (W)
open Crc (vl wd)
open Flash (Dev programD eraseD readD flushD fuseD blank program_ok program_keeps erase_keeps newD over cut)
open Chart (Ch openC takeC eraseC setC pgC newC)
open Go.Proofs.YtcmjambbdfangaaGreat.Frame (Fr page bytesG fV)

structure Tp where
  d : Dev
  c : Ch
structure Tp.Ok (t : Tp) : Prop where
  d : t.d.Ok
  c : t.c.Ok
  pg : t.c.pg = t.d.pg
  pgs : t.c.pgs = t.d.pgs
  rgs : t.c.rgs = t.d.rgs
def Tp.geo (t : Tp) : Geom.Gm := ⟨t.d.pg, t.d.pgs, t.d.rgs⟩
def headF (e r : Nat) : Fr := ⟨1, BitVec.ofNat 32 e, BitVec.ofNat 32 r, []⟩
/-- the next page, with these bytes -/
def writeT (t : Tp) (b : List UInt8) : (Nat × Nat) × Tp :=
  if (programD t.d (takeC t.c).1.1 b).1 ≠ 0 then ((0, (programD t.d (takeC t.c).1.1 b).1), ⟨(programD t.d (takeC t.c).1.1 b).2, (takeC t.c).2⟩)
  else (((takeC t.c).1.1, 0), ⟨(programD t.d (takeC t.c).1.1 b).2, (takeC t.c).2⟩)
def headB (t : Tp) : List UInt8 := page t.d.pg (headF (openC t.c).1.2.1 (openC t.c).1.1)
/-- a new region -/
def openT (t : Tp) : Nat × Tp :=
  if (openC t.c).1.2.2 = false then (8, ⟨t.d, (openC t.c).2⟩)
  else ((programD t.d (((openC t.c).1.1 * t.d.pgs : Nat) : Int) (headB t)).1, ⟨(programD t.d (((openC t.c).1.1 * t.d.pgs : Nat) : Int) (headB t)).2, (openC t.c).2⟩)
def appendT (t : Tp) (f : Fr) : (Nat × Nat) × Tp :=
  if (bytesG t.geo f).2 ≠ 0 then ((0, (bytesG t.geo f).2), t)
  else if t.c.left = 0 then (if (openT t).1 ≠ 0 then ((0, (openT t).1), (openT t).2) else writeT (openT t).2 (bytesG t.geo f).1)
  else writeT t (bytesG t.geo f).1
def eraseT (t : Tp) (i : Int) : Nat × Tp :=
  if (eraseC t.c i).1 ≠ 0 then ((eraseC t.c i).1, t)
  else if (eraseD t.d i).1 ≠ 0 then ((eraseD t.d i).1, ⟨(eraseD t.d i).2, t.c⟩)
  else (0, ⟨(eraseD t.d i).2, (eraseC t.c i).2⟩)
def flushT (t : Tp) : Nat × Tp := ((flushD t.d).1, ⟨(flushD t.d).2, t.c⟩)
def fuseT (t : Tp) (k : Int) : Tp := ⟨fuseD t.d k, t.c⟩
def newT (pg pgs rgs : Nat) : Tp := ⟨newD pg pgs rgs [], newC pg pgs rgs⟩
theorem geo_right {t : Tp} (h : t.Ok) : Geom.rightG t.geo = true :=
  Geom.right_small.2 ⟨by have := h.d.p0; simp only [Tp.geo]; omega, by have := h.d.p1; simp only [Tp.geo]; omega, by have := h.d.s0; simp only [Tp.geo]; omega, by have := h.d.s1; simp only [Tp.geo]; omega, by have := h.d.r0; simp only [Tp.geo]; omega, by have := h.d.r1; simp only [Tp.geo]; omega⟩
theorem program_geo (d : Dev) (p : Int) (b : List UInt8) : (programD d p b).2.pg = d.pg ∧ (programD d p b).2.pgs = d.pgs ∧ (programD d p b).2.rgs = d.rgs := by
  unfold programD
  split
  · exact ⟨rfl, rfl, rfl⟩
  split
  · exact ⟨rfl, rfl, rfl⟩
  split
  · exact ⟨rfl, rfl, rfl⟩
  · obtain ⟨_, _, a, b, c⟩ := Flash.blow_img d
    exact ⟨a, b, c⟩
theorem erase_geo (d : Dev) (r : Int) : (eraseD d r).2.pg = d.pg ∧ (eraseD d r).2.pgs = d.pgs ∧ (eraseD d r).2.rgs = d.rgs := by
  obtain ⟨_, _, a, b, c⟩ := Flash.blow_img d
  unfold eraseD
  split
  · exact ⟨rfl, rfl, rfl⟩
  split
  · exact ⟨rfl, rfl, rfl⟩
  split
  · exact ⟨rfl, rfl, rfl⟩
  split
  · exact ⟨a, b, c⟩
  · exact ⟨a, b, c⟩
theorem flush_geo (d : Dev) : (flushD d).2.pg = d.pg ∧ (flushD d).2.pgs = d.pgs ∧ (flushD d).2.rgs = d.rgs := by
  obtain ⟨_, _, a, b, c⟩ := Flash.blow_img d
  unfold flushD
  split
  · exact ⟨rfl, rfl, rfl⟩
  split
  · exact ⟨a, b, c⟩
  · exact ⟨a, b, c⟩
theorem open_geo (c : Ch) : (openC c).2.pg = c.pg ∧ (openC c).2.pgs = c.pgs ∧ (openC c).2.rgs = c.rgs := by
  unfold openC
  split
  · exact ⟨rfl, rfl, rfl⟩
  · split <;> exact ⟨rfl, rfl, rfl⟩
theorem take_geo (c : Ch) : (takeC c).2.pg = c.pg ∧ (takeC c).2.pgs = c.pgs ∧ (takeC c).2.rgs = c.rgs := by
  unfold takeC
  split
  · exact ⟨rfl, rfl, rfl⟩
  · split <;> exact ⟨rfl, rfl, rfl⟩
theorem eraseC_geo (c : Ch) (i : Int) : (eraseC c i).2.pg = c.pg ∧ (eraseC c i).2.pgs = c.pgs ∧ (eraseC c i).2.rgs = c.rgs := by
  unfold eraseC
  split
  · exact ⟨rfl, rfl, rfl⟩
  · split <;> exact ⟨rfl, rfl, rfl⟩
theorem write_ok {t : Tp} (h : t.Ok) (b : List UInt8) : (writeT t b).2.Ok := by
  have k : Tp.Ok ⟨(programD t.d (takeC t.c).1.1 b).2, (takeC t.c).2⟩ := by
    obtain ⟨a1, a2, a3⟩ := program_geo t.d (takeC t.c).1.1 b
    obtain ⟨b1, b2, b3⟩ := take_geo t.c
    exact ⟨program_keeps h.d _ _, Chart.take_keeps h.c, by simp only; rw [a1, b1, h.pg], by simp only; rw [a2, b2, h.pgs], by simp only; rw [a3, b3, h.rgs]⟩
  unfold writeT
  split <;> exact k
theorem open_ok {t : Tp} (h : t.Ok) : (openT t).2.Ok := by
  obtain ⟨b1, b2, b3⟩ := open_geo t.c
  unfold openT
  split
  · exact ⟨h.d, Chart.open_keeps h.c, by simp only; rw [b1, h.pg], by simp only; rw [b2, h.pgs], by simp only; rw [b3, h.rgs]⟩
  · obtain ⟨a1, a2, a3⟩ := program_geo t.d (((openC t.c).1.1 * t.d.pgs : Nat) : Int) (headB t)
    exact ⟨program_keeps h.d _ _, Chart.open_keeps h.c, by simp only; rw [a1, b1, h.pg], by simp only; rw [a2, b2, h.pgs], by simp only; rw [a3, b3, h.rgs]⟩
theorem append_ok {t : Tp} (h : t.Ok) (f : Fr) : (appendT t f).2.Ok := by
  unfold appendT
  split
  · exact h
  split
  · split
    · exact open_ok h
    · exact write_ok (open_ok h) _
  · exact write_ok h _
theorem erase_ok {t : Tp} (h : t.Ok) (i : Int) : (eraseT t i).2.Ok := by
  obtain ⟨a1, a2, a3⟩ := erase_geo t.d i
  obtain ⟨b1, b2, b3⟩ := eraseC_geo t.c i
  unfold eraseT
  split
  · exact h
  split
  · exact ⟨erase_keeps h.d i, h.c, by simp only; rw [a1, h.pg], by simp only; rw [a2, h.pgs], by simp only; rw [a3, h.rgs]⟩
  · exact ⟨erase_keeps h.d i, Chart.erase_keeps h.c i, by simp only; rw [a1, b1, h.pg], by simp only; rw [a2, b2, h.pgs], by simp only; rw [a3, b3, h.rgs]⟩
theorem flush_ok {t : Tp} (h : t.Ok) : (flushT t).2.Ok := by
  obtain ⟨a1, a2, a3⟩ := flush_geo t.d
  exact ⟨Flash.flush_keeps h.d, h.c, by simp only [flushT]; rw [a1, h.pg], by simp only [flushT]; rw [a2, h.pgs], by simp only [flushT]; rw [a3, h.rgs]⟩
theorem fuse_ok {t : Tp} (h : t.Ok) (k : Int) : (fuseT t k).Ok := ⟨Flash.fuse_keeps h.d k, h.c, h.pg, h.pgs, h.rgs⟩
theorem new_ok {pg pgs rgs : Nat} (p0 : 32 ≤ pg) (p1 : pg ≤ 128) (s0 : 3 ≤ pgs) (s1 : pgs ≤ 10) (r0 : 4 ≤ rgs) (r1 : rgs ≤ 12) : (newT pg pgs rgs).Ok :=
  ⟨Flash.new_ok (Nat.zero_le _) p0 p1 s0 s1 r0 r1, Chart.new_ok p0 p1 s0 s1 r0 r1, rfl, rfl, rfl⟩
/-- what an account tells of a new region -/
theorem open_says {c : Ch} (h : c.Ok) (ho : (openC c).1.2.2 = true) : (openC c).1.1 < c.rgs ∧ 1 ≤ (openC c).1.2.1 ∧ (openC c).1.2.1 ≤ 2147483647 := by
  unfold openC at ho ⊢
  split at ho
  · simp at ho
  · rename_i hm
    rw [if_neg hm]
    cases hn : c.next with
    | none => rw [hn] at ho; simp at ho
    | some r => exact ⟨(Chart.next_lt h hn).1, by simp only; omega, by simp only; omega⟩
theorem head_piece {e r : Nat} (h1 : 1 ≤ e) (h2 : e ≤ 2147483647) : Piece.frameP (.head (BitVec.ofNat 32 e) (BitVec.ofNat 32 r)) = (headF e r, 0) := by
  have hv : vl (BitVec.ofNat 32 e) = (e : Int) := by unfold vl; rw [BitVec.toNat_ofNat, Nat.mod_eq_of_lt (by omega)]
  unfold Piece.frameP
  rw [if_pos]
  · rfl
  · unfold Piece.pieceR Piece.pcFrame Piece.isSeqB
    simp only [hv, if_true, List.isEmpty_nil, Bool.and_true, Bool.and_eq_true, decide_eq_true_eq]
    omega
theorem vl_ofNat {n : Nat} (h : n < 4294967296) : vl (BitVec.ofNat 32 n) = (n : Int) := by unfold vl; rw [BitVec.toNat_ofNat, Nat.mod_eq_of_lt (by omega)]
theorem head_fits {pg e r : Nat} (p0 : 32 ≤ pg) (p1 : pg ≤ 128) : (headF e r).Ok pg := ⟨by show (1 : Int) ≤ 1; omega, by show (1 : Int) ≤ 4; omega, by show 0 + 15 ≤ pg; omega, p0, p1⟩
theorem head_bytes {t : Tp} (h : t.Ok) (e r : Nat) : bytesG t.geo (headF e r) = (page t.d.pg (headF e r), 0) := by
  have := h.d.p0
  rw [Go.Proofs.YtcmjambbdfangaaGreat.Frame.bytesG_ok (geo_right h) (by show ¬ ((1 : Int) < 1 ∨ (4 : Int) < 1); omega) (by show ¬ t.geo.page.toNat - 15 < 0; omega)]
  rfl
/-- an account that gives a region back, and takes it again as it was -/
theorem set_back {c : Ch} (h : c.Ok) {i : Int} (he : (eraseC c i).1 = 0) : setC (eraseC c i).2 i (Chart.epochC c i) (Chart.usedC c i) = (0, c) := by
  unfold eraseC at he ⊢
  split at he
  · simp at he
  rename_i hi
  split at he
  · simp at he
  rename_i h0
  rw [if_neg hi, if_neg h0]
  have hi' : c.is i = true := by simpa using hi
  obtain ⟨k, rfl, hk⟩ := Ch.is_lt hi'
  simp only [Int.toNat_natCast, not_or] at h0 ⊢
  have e1 : Chart.epochC c (k : Int) = c.ep k := by unfold Chart.epochC; rw [if_pos hi']; rfl
  have e2 : Chart.usedC c (k : Int) = c.us k := by unfold Chart.usedC; rw [if_pos hi']; rfl
  rw [e1, e2]
  have a1 := h.ep k
  have a2 := h.us k
  unfold setC
  rw [if_neg (by
    have x1 : (c.put k 0 0).is (k : Int) = true := Ch.is_nat (show k < (c.put k 0 0).rgs from hk)
    have x2 : (c.put k 0 0).slots = c.slots := rfl
    rw [x1, x2]
    simp only [Bool.true_eq_false, false_or, not_or]
    omega), if_neg (by
    have : (c.put k 0 0).ep (k : Int).toNat = 0 := by rw [Int.toNat_natCast, Chart.put_ep h.len hk, if_pos rfl]
    rw [this]; simp)]
  simp only [Int.toNat_natCast]
  congr 1
  refine Chart.ch_ext rfl rfl rfl ?_ rfl
  show (c.st.set k (0, 0)).set k (c.ep k, c.us k) = c.st
  rw [List.set_set]
  have hl : k < c.st.length := by rw [h.len]; exact hk
  have := Chart.st_get hl
  rw [← this]
  exact List.set_getElem_self hl
end Go.Proofs.YtcmjambbdfangaaGreat.Tape
/-
  What package frame's small functions answer: only, Blank, isKind, parse.
-/
set_option linter.unusedVariables false
set_option linter.unusedSimpArgs false
namespace Go.Proofs.YtcmjambbdfangaaGreat.Frame
open Go.RowKit
open CrcM (W)
open Crc (le4 sumOf vl wd putS)
open Flash (bs bs_size bs_list list_bs)
open Tup Bytes
open Go.Proofs.YtcmjambbdfangaaGreat.Region (fill Then Deps Each wp_region_is wp_region_is_tail wp_region_each wp_region_tail)

/-- is each byte this one? -/
def onlyL (c : UInt8) (l : List UInt8) : Bool := l.all (· == c)
theorem only_snoc (c : UInt8) (b : ByteArray) (k : Nat) (h : k < b.size) : onlyL c (b.data.toList.take (k + 1)) = (onlyL c (b.data.toList.take k) && (b[k] == c)) := by
  have hl : k < b.data.toList.length := by simpa using h
  rw [List.take_succ_eq_append_getElem hl]
  simp only [onlyL, List.all_append, List.all_cons, List.all_nil, Bool.and_true]
  rfl
theorem only_drop (c : UInt8) (b : ByteArray) (k : Nat) (h : k < b.size) (h2 : (b[k] == c) = false) : onlyL c b.data.toList = false := by
  unfold onlyL
  rw [List.all_eq_false]
  exact ⟨b[k], by simp [ByteArray.getElem_eq_getElem_data], by simpa using h2⟩
theorem byte_eq_int (a c : UInt8) : ((a.toNat : Int) == (c.toNat : Int)) = (a == c) := by
  rw [Bool.eq_iff_iff]
  simp only [beq_iff_eq]
  exact ⟨fun h => UInt8.toNat_inj.1 (by omega), fun h => by rw [h]⟩
theorem byte_ne_int (a c : UInt8) : ((a.toNat : Int) != (c.toNat : Int)) = !(a == c) := by
  unfold bne; rw [byte_eq_int]
set_option maxRecDepth 100000 in
set_option maxHeartbeats 4000000 in
theorem only_any (c : UInt8) (ci : Int) (hci : ci = (c.toNat : Int)) (b : ByteArray) (hb : b.size ≤ maxLen) (w : World) :
    Calls Tryz.prog 96 #[.string b, .int .u8 ci] w fun e w' => e = .returned (.bool (onlyL c b.data.toList)) ∧ w' = w := by
  unfold maxLen at hb
  go_enter Tryz.func96, Tryz.ntmps96
  go_wp2
  go_loop [8] (fun i => ∃ k : Nat, k ≤ b.size ∧ i = .int .i64 (k : Int) ∧ onlyL c (b.data.toList.take k) = true) (fun i => b.size - (intOf i).toNat)
  case atStart => exact ⟨0, Nat.zero_le _, rfl, rfl⟩
  case round =>
    obtain ⟨k, hk, rfl, hbl⟩ := hrel
    by_cases hlt : k < b.size
    · have d1 : decide ((k : Int) < (b.size : Int)) = true := by simp; omega
      have hki : (k : Int) < (b.size : Int) := by omega
      have HS := Lib.hid (only_snoc c b k hlt)
      have HD := Lib.hid (only_drop c b k hlt)
      rw [hbl] at HS
      clear hbl
      have q0 := byte_ne_int b[k] c
      have q1 := byte_eq_int b[k] c
      rw [← hci] at q0 q1
      cases hc : (b[k] == c) with
      | true =>
        rw [hc] at HS q0 q1
        clear hc HD hci
        simp only [Bool.not_true] at q0
        go_wp2
        go_round
        case rel => exact ⟨k + 1, by omega, by go_num, by rw [HS.out]; rfl⟩
        case measure => simp [intOf]; omega
      | false =>
        have HE := Lib.hid (HD.out hc)
        rw [hc] at q0 q1
        clear hc HS HD hci
        simp only [Bool.not_false] at q0
        go_wp2
        go_ret
        exact ⟨by rw [HE.out]; rfl, rfl⟩
    · obtain rfl : k = b.size := by omega
      have d1 : decide ((b.size : Int) < (b.size : Int)) = false := by simp
      have HE := Lib.hid (show onlyL c b.data.toList = true by rw [List.take_of_length_le (by simp)] at hbl; exact hbl)
      clear hbl hci
      go_wp2
      go_ret
      exact ⟨by rw [HE.out]; rfl, rfl⟩
theorem fBlank_any (b : ByteArray) (hs : b.size ≤ maxLen) (w : World) :
    Calls Tryz.prog 66 #[.string b] w fun e w' => e = .returned (.bool (Flash.blank b.data.toList)) ∧ Below w.heap.size w w' := by
  have HO := Lib.hid (fun w => only_any 255 255 rfl b hs w)
  have HE := Lib.hid (show onlyL 255 b.data.toList = Flash.blank b.data.toList from rfl)
  go_enter Tryz.func66, Tryz.ntmps66
  go_wp2_with (go_at_call 96; (with_reducible refine (HO.out _).mono ?_); rintro e w5 ⟨rfl, rfl⟩)
  go_ret
  exact ⟨by rw [HE.out]; rfl, Below.refl _ _⟩
def isKindB (k : Int) : Bool := decide (1 ≤ k) && decide (k ≤ 4)
theorem isKind_any (k : Int) (w : World) :
    Calls Tryz.prog 78 #[.int .i64 k] w fun e w' => e = .returned (.bool (isKindB k)) ∧ w = w' := by
  unfold isKindB
  cases h1 : decide (1 ≤ k) <;> cases h2 : decide (k ≤ 4)
  all_goals
    go_enter Tryz.func78, Tryz.ntmps78
    go_wp2
    go_ret
    exact ⟨rfl, rfl⟩
/-- may these bytes, ahead of the sum, be a frame's? -/
def formedT (t : List UInt8) : Bool := decide (1 ≤ (t.getD 0 0).toNat) && decide ((t.getD 0 0).toNat ≤ 4) && decide (11 + sizeAt t ≤ t.length) && onlyL 0 (t.drop (11 + sizeAt t))
def parseF (t : List UInt8) : Fr × Nat := if formedT t = false then (zeroF, 2) else (⟨(t.getD 0 0).toNat, wd (le4 t 1), wd (le4 t 5), (t.drop 11).take (sizeAt t)⟩, 0)
theorem getD_take {l : List UInt8} {n k : Nat} (h : k < n) : (l.take n).getD k 0 = l.getD k 0 := by
  rw [List.getD_eq_getElem?_getD, List.getD_eq_getElem?_getD, List.getElem?_take_of_lt h]
theorem sizeAt_take {l : List UInt8} {n : Nat} (h : 11 ≤ n) : sizeAt (l.take n) = sizeAt l := by
  unfold sizeAt; rw [getD_take (by omega), getD_take (by omega)]
theorem le4_take {l : List UInt8} {n k : Nat} (h : k + 4 ≤ n) : le4 (l.take n) k = le4 l k := by
  unfold le4; rw [getD_take (by omega), getD_take (by omega), getD_take (by omega), getD_take (by omega)]
theorem formed_take {l : List UInt8} (h : 32 ≤ l.length) : formedT (l.take (l.length - 4)) = formed l := by
  unfold formedT formed onlyL
  rw [getD_take (by omega), sizeAt_take (by omega), List.length_take]
  have : decide (11 + sizeAt l ≤ min (l.length - 4) l.length) = decide (sizeAt l ≤ l.length - 15) := by
    rw [decide_eq_decide]; omega
  rw [this]
theorem read_parse {l : List UInt8} (h : ¬ (l.length < 32 ∨ 128 < l.length)) (hb : Flash.blank l = false) (hs : le4 l (l.length - 4) = sumOf (l.take (l.length - 4))) : readF l = parseF (l.take (l.length - 4)) := by
  have hf := formed_take (l := l) (by omega)
  unfold parseF
  rw [hf]
  cases hv : formed l with
  | false => rw [read_form h hb hs hv, if_pos rfl]
  | true =>
    rw [read_ok h hb hs hv, if_neg (by simp), getD_take (by omega), sizeAt_take (by omega), le4_take (by omega), le4_take (by omega)]
    have hsz : sizeAt l ≤ l.length - 15 := by
      unfold formed at hv
      simp only [Bool.and_eq_true, decide_eq_true_eq] at hv
      exact hv.1.2
    congr 2
    rw [List.drop_take, List.take_take, Nat.min_eq_left (by omega)]
/-- a variable, where another one is written -/
theorem Var.othr {w : World} {k : Nat} {t : TypeId} {cs : List Value} (h : Var w k t cs) (p : Addr) (v : Value) (hp : k ≠ p.block) : Var (w.setCell p v) k t cs := (Foot.Grows.set (S := fun j => j = p.block) w p v rfl).var h hp
set_option maxRecDepth 100000 in
set_option maxHeartbeats 8000000 in
theorem parse_bad (t : ByteArray) (h1 : 11 ≤ t.size) (h2 : t.size ≤ 124) (w : World) (hf : formedT t.data.toList = false)
    (hx : isKindB ((t.data.toList.getD 0 0).toNat : Int) = false ∨ (isKindB ((t.data.toList.getD 0 0).toNat : Int) = true ∧ t.size < 11 + sizeAt t.data.toList) ∨ (isKindB ((t.data.toList.getD 0 0).toNat : Int) = true ∧ 11 + sizeAt t.data.toList ≤ t.size ∧ onlyL 0 (t.data.toList.drop (11 + sizeAt t.data.toList)) = false)) :
    Calls Tryz.prog 69 #[.string t] w fun e w' => e = .returned (.tuple #[fV (parseF t.data.toList).1, .int .i64 ((parseF t.data.toList).2 : Int)]) ∧ Below w.heap.size w w' := by
  have HE := Lib.hid (show parseF t.data.toList = (zeroF, 2) by unfold parseF; rw [if_pos hf])
  clear hf
  rw [HE.out]
  clear HE
  have hll : t.data.toList.length = t.size := by simp
  have h0 : 0 < t.size := by omega
  have h9 : 9 < t.size := by omega
  have h10 : 10 < t.size := by omega
  have i9 : (9 : Int) < (t.size : Int) := by omega
  have i10 : (10 : Int) < (t.size : Int) := by omega
  have i0 : (0 : Int) < (t.size : Int) := by omega
  obtain ⟨l, hl⟩ : ∃ l, l = t.data.toList := ⟨_, rfl⟩
  rw [← hl] at hll hx
  obtain ⟨n0, q0⟩ : ∃ n0, (t[0]'h0).toNat = n0 := ⟨_, rfl⟩
  obtain ⟨n9, q9⟩ : ∃ n9, (t[9]'h9).toNat = n9 := ⟨_, rfl⟩
  obtain ⟨n10, q10⟩ : ∃ n10, (t[10]'h10).toNat = n10 := ⟨_, rfl⟩
  have m0 : n0 < 256 := by rw [← q0]; exact UInt8.toNat_lt _
  have m9 : n9 < 256 := by rw [← q9]; exact UInt8.toNat_lt _
  have m10 : n10 < 256 := by rw [← q10]; exact UInt8.toNat_lt _
  have g0 : (l.getD 0 0).toNat = n0 := by rw [hl, Crc.getD_byte t 0 h0, q0]
  have g9 : sizeAt l = n9 + n10 * 256 := by unfold sizeAt; rw [hl, Crc.getD_byte t 9 h9, Crc.getD_byte t 10 h10, q9, q10]
  rw [g0, g9] at hx
  have HK := Lib.hid (fun w => isKind_any (n0 : Int) w)
  rcases hx with x1 | ⟨x1, x2⟩ | ⟨x1, x2, x3⟩
  · rw [x1] at HK
    have HV1 := Lib.hid (Var.new w 31 [.int .i64 0, .int .u32 0, .int .u32 0, .string ⟨#[]⟩])
    clear g0 g9 hll hl
    go_enter Tryz.func69, Tryz.ntmps69
    go_wp2
    obtain ⟨w1, hw1⟩ : ∃ w1, w1 = w.alloc (.cells #[.int .i64 0, .int .u32 0, .int .u32 0, .string ⟨#[]⟩] 31) := ⟨_, rfl⟩
    have HB1 := Lib.hid (show Below w.heap.size w w1 by rw [hw1]; exact Geom.bel_alloc _ _)
    rw [show w.alloc (.cells [.int .i64 0, .int .u32 0, .int .u32 0, .string ⟨#[]⟩].toArray 31) = w1 from hw1.symm] at HV1
    rw [← hw1]
    clear hw1
    refine wp_region_is [10, 11, 12, 13, 14, 15, 16, 17, 18, 5] (fun w' => Below w1.heap.size w1 w')
      [.string t, .int .u8 (n9 : Int), .int .i64 (n9 : Int), .int .i64 (11 + (n9 : Int)), .string t, .int .u8 (n10 : Int), .int .i64 (n10 : Int), .int .i64 ((n10 : Int) * 256), .int .i64 (11 + (n9 : Int) + (n10 : Int) * 256), .int .i64 (11 + (n9 : Int) + (n10 : Int) * 256)] (by kernel_rfl) (by kernel_rfl) rfl (by decide) (by simp) (Below.refl _ _).drew ?each ?done
    case each =>
      simp only [Each]
      repeat' (first | exact trivial | refine And.intro ?_ ?_)
      all_goals
        intro ys wx hBx hdeps
        simp only [Deps, Region.binds, List.getD_cons_zero, List.getD_cons_succ, forall_const, and_true] at hdeps
        simp only [hdeps, fill, List.foldl_cons, List.foldl_nil, Act.put, List.setIfInBounds_toArray, List.set_cons_succ, List.set_cons_zero]
        go_wp2_with fail
        exact ⟨_, rfl, rfl, hBx, Below.refl _ _⟩
    case done =>
      intro ys wx hBx hV
      have h5 : ys 5 = .int .i64 (11 + (n9 : Int) + (n10 : Int) * 256) := hV 9 (by decide)
      have HBx := Lib.hid (bel2 HB1.out hBx)
      have z0 := (HV1.out.below hBx HV1.out.lt).cell (j := 0) rfl
      have z1 := (HV1.out.below hBx HV1.out.lt).cell (j := 1) rfl
      have z2 := (HV1.out.below hBx HV1.out.lt).cell (j := 2) rfl
      have z3 := (HV1.out.below hBx HV1.out.lt).cell (j := 3) rfl
      have f0 := (HV1.out.below hBx HV1.out.lt).frozen 0
      have f1 := (HV1.out.below hBx HV1.out.lt).frozen 1
      have f2 := (HV1.out.below hBx HV1.out.lt).frozen 2
      have f3 := (HV1.out.below hBx HV1.out.lt).frozen 3
      have vz := ((((HV1.out.below hBx HV1.out.lt).set 0 (.int .i64 0)).set 1 (.int .u32 0)).set 2 (.int .u32 0)).set 3 (.string ⟨#[]⟩)
      clear hBx hV
      simp only [h5, fill, List.drop_succ_cons, List.drop_zero, List.foldl_cons, List.foldl_nil, Act.put, List.setIfInBounds_toArray, List.set_cons_succ, List.set_cons_zero]
      go_wp2_with (first | (go_at_call 78; (with_reducible refine (HK.out _).mono ?_); rintro e w5 ⟨rfl, rfl⟩))
      have k0 := vz.cell (j := 0) rfl
      have k1 := vz.cell (j := 1) rfl
      have k2 := vz.cell (j := 2) rfl
      have k3 := vz.cell (j := 3) rfl
      clear z0 z1 z2 z3 f0 f1 f2 f3 vz
      refine bodyPost_ret (v := .tuple #[fV zeroF, .int .i64 2]) (by rw [results_cell_tmp rfl]; simp [go_sem, k0, k1, k2, k3]; rfl) rfl ?_
      exact ⟨rfl, (((HBx.out.setCell (p := ⟨w.heap.size, 0, none⟩) (Nat.le_refl _) _).setCell (p := ⟨w.heap.size, 1, none⟩) (Nat.le_refl _) _).setCell (p := ⟨w.heap.size, 2, none⟩) (Nat.le_refl _) _).setCell (p := ⟨w.heap.size, 3, none⟩) (Nat.le_refl _) _⟩
  · rw [x1] at HK
    have HV1 := Lib.hid (Var.new w 31 [.int .i64 0, .int .u32 0, .int .u32 0, .string ⟨#[]⟩])
    have x3 : decide ((t.size : Int) < 11 + (n9 : Int) + (n10 : Int) * 256) = true := decide_eq_true (by omega)
    clear g0 g9 hll hl
    go_enter Tryz.func69, Tryz.ntmps69
    go_wp2
    obtain ⟨w1, hw1⟩ : ∃ w1, w1 = w.alloc (.cells #[.int .i64 0, .int .u32 0, .int .u32 0, .string ⟨#[]⟩] 31) := ⟨_, rfl⟩
    have HB1 := Lib.hid (show Below w.heap.size w w1 by rw [hw1]; exact Geom.bel_alloc _ _)
    rw [show w.alloc (.cells [.int .i64 0, .int .u32 0, .int .u32 0, .string ⟨#[]⟩].toArray 31) = w1 from hw1.symm] at HV1
    rw [← hw1]
    clear hw1
    refine wp_region_is [10, 11, 12, 13, 14, 15, 16, 17, 18, 5] (fun w' => Below w1.heap.size w1 w')
      [.string t, .int .u8 (n9 : Int), .int .i64 (n9 : Int), .int .i64 (11 + (n9 : Int)), .string t, .int .u8 (n10 : Int), .int .i64 (n10 : Int), .int .i64 ((n10 : Int) * 256), .int .i64 (11 + (n9 : Int) + (n10 : Int) * 256), .int .i64 (11 + (n9 : Int) + (n10 : Int) * 256)] (by kernel_rfl) (by kernel_rfl) rfl (by decide) (by simp) (Below.refl _ _).drew ?each ?done
    case each =>
      simp only [Each]
      repeat' (first | exact trivial | refine And.intro ?_ ?_)
      all_goals
        intro ys wx hBx hdeps
        simp only [Deps, Region.binds, List.getD_cons_zero, List.getD_cons_succ, forall_const, and_true] at hdeps
        simp only [hdeps, fill, List.foldl_cons, List.foldl_nil, Act.put, List.setIfInBounds_toArray, List.set_cons_succ, List.set_cons_zero]
        go_wp2_with fail
        exact ⟨_, rfl, rfl, hBx, Below.refl _ _⟩
    case done =>
      intro ys wx hBx hV
      have h5 : ys 5 = .int .i64 (11 + (n9 : Int) + (n10 : Int) * 256) := hV 9 (by decide)
      have HBx := Lib.hid (bel2 HB1.out hBx)
      have z0 := (HV1.out.below hBx HV1.out.lt).cell (j := 0) rfl
      have z1 := (HV1.out.below hBx HV1.out.lt).cell (j := 1) rfl
      have z2 := (HV1.out.below hBx HV1.out.lt).cell (j := 2) rfl
      have z3 := (HV1.out.below hBx HV1.out.lt).cell (j := 3) rfl
      have f0 := (HV1.out.below hBx HV1.out.lt).frozen 0
      have f1 := (HV1.out.below hBx HV1.out.lt).frozen 1
      have f2 := (HV1.out.below hBx HV1.out.lt).frozen 2
      have f3 := (HV1.out.below hBx HV1.out.lt).frozen 3
      have vz := ((((HV1.out.below hBx HV1.out.lt).set 0 (.int .i64 0)).set 1 (.int .u32 0)).set 2 (.int .u32 0)).set 3 (.string ⟨#[]⟩)
      clear hBx hV
      simp only [h5, fill, List.drop_succ_cons, List.drop_zero, List.foldl_cons, List.foldl_nil, Act.put, List.setIfInBounds_toArray, List.set_cons_succ, List.set_cons_zero]
      go_wp2_with (first | (go_at_call 78; (with_reducible refine (HK.out _).mono ?_); rintro e w5 ⟨rfl, rfl⟩))
      have k0 := vz.cell (j := 0) rfl
      have k1 := vz.cell (j := 1) rfl
      have k2 := vz.cell (j := 2) rfl
      have k3 := vz.cell (j := 3) rfl
      clear z0 z1 z2 z3 f0 f1 f2 f3 vz
      refine bodyPost_ret (v := .tuple #[fV zeroF, .int .i64 2]) (by rw [results_cell_tmp rfl]; simp [go_sem, k0, k1, k2, k3]; rfl) rfl ?_
      exact ⟨rfl, (((HBx.out.setCell (p := ⟨w.heap.size, 0, none⟩) (Nat.le_refl _) _).setCell (p := ⟨w.heap.size, 1, none⟩) (Nat.le_refl _) _).setCell (p := ⟨w.heap.size, 2, none⟩) (Nat.le_refl _) _).setCell (p := ⟨w.heap.size, 3, none⟩) (Nat.le_refl _) _⟩
  · rw [x1] at HK
    have HV1 := Lib.hid (Var.new w 31 [.int .i64 0, .int .u32 0, .int .u32 0, .string ⟨#[]⟩])
    have x4 : decide ((t.size : Int) < 11 + (n9 : Int) + (n10 : Int) * 256) = false := decide_eq_false (by omega)
    have hds := Txt.dropS l (11 + (n9 + n10 * 256)) (11 + (n9 : Int) + (n10 : Int) * 256) (by omega) (by omega)
    rw [hl, bs_list, ← hl] at hds
    have HO := Lib.hid (fun w => only_any 0 0 rfl (bs (l.drop (11 + (n9 + n10 * 256)))) (by rw [bs_size, List.length_drop]; unfold maxLen; omega) w)
    rw [list_bs, x3] at HO
    obtain ⟨TD, hTD⟩ : ∃ TD, TD = bs (l.drop (11 + (n9 + n10 * 256))) := ⟨_, rfl⟩
    rw [← hTD] at hds HO
    clear g0 g9 hll hl hTD x3
    go_enter Tryz.func69, Tryz.ntmps69
    go_wp2
    obtain ⟨w1, hw1⟩ : ∃ w1, w1 = w.alloc (.cells #[.int .i64 0, .int .u32 0, .int .u32 0, .string ⟨#[]⟩] 31) := ⟨_, rfl⟩
    have HB1 := Lib.hid (show Below w.heap.size w w1 by rw [hw1]; exact Geom.bel_alloc _ _)
    rw [show w.alloc (.cells [.int .i64 0, .int .u32 0, .int .u32 0, .string ⟨#[]⟩].toArray 31) = w1 from hw1.symm] at HV1
    rw [← hw1]
    clear hw1
    refine wp_region_is [10, 11, 12, 13, 14, 15, 16, 17, 18, 5] (fun w' => Below w1.heap.size w1 w')
      [.string t, .int .u8 (n9 : Int), .int .i64 (n9 : Int), .int .i64 (11 + (n9 : Int)), .string t, .int .u8 (n10 : Int), .int .i64 (n10 : Int), .int .i64 ((n10 : Int) * 256), .int .i64 (11 + (n9 : Int) + (n10 : Int) * 256), .int .i64 (11 + (n9 : Int) + (n10 : Int) * 256)] (by kernel_rfl) (by kernel_rfl) rfl (by decide) (by simp) (Below.refl _ _).drew ?each ?done
    case each =>
      simp only [Each]
      repeat' (first | exact trivial | refine And.intro ?_ ?_)
      all_goals
        intro ys wx hBx hdeps
        simp only [Deps, Region.binds, List.getD_cons_zero, List.getD_cons_succ, forall_const, and_true] at hdeps
        simp only [hdeps, fill, List.foldl_cons, List.foldl_nil, Act.put, List.setIfInBounds_toArray, List.set_cons_succ, List.set_cons_zero]
        go_wp2_with fail
        exact ⟨_, rfl, rfl, hBx, Below.refl _ _⟩
    case done =>
      intro ys wx hBx hV
      have h5 : ys 5 = .int .i64 (11 + (n9 : Int) + (n10 : Int) * 256) := hV 9 (by decide)
      have HBx := Lib.hid (bel2 HB1.out hBx)
      have z0 := (HV1.out.below hBx HV1.out.lt).cell (j := 0) rfl
      have z1 := (HV1.out.below hBx HV1.out.lt).cell (j := 1) rfl
      have z2 := (HV1.out.below hBx HV1.out.lt).cell (j := 2) rfl
      have z3 := (HV1.out.below hBx HV1.out.lt).cell (j := 3) rfl
      have f0 := (HV1.out.below hBx HV1.out.lt).frozen 0
      have f1 := (HV1.out.below hBx HV1.out.lt).frozen 1
      have f2 := (HV1.out.below hBx HV1.out.lt).frozen 2
      have f3 := (HV1.out.below hBx HV1.out.lt).frozen 3
      have vz := ((((HV1.out.below hBx HV1.out.lt).set 0 (.int .i64 0)).set 1 (.int .u32 0)).set 2 (.int .u32 0)).set 3 (.string ⟨#[]⟩)
      clear hBx hV
      simp only [h5, fill, List.drop_succ_cons, List.drop_zero, List.foldl_cons, List.foldl_nil, Act.put, List.setIfInBounds_toArray, List.set_cons_succ, List.set_cons_zero]
      go_wp2_with (first | (go_at_call 78; (with_reducible refine (HK.out _).mono ?_); rintro e w5 ⟨rfl, rfl⟩) | (go_at_call 96; (with_reducible refine (HO.out _).mono ?_); rintro e w5 ⟨rfl, rfl⟩))
      have k0 := vz.cell (j := 0) rfl
      have k1 := vz.cell (j := 1) rfl
      have k2 := vz.cell (j := 2) rfl
      have k3 := vz.cell (j := 3) rfl
      clear z0 z1 z2 z3 f0 f1 f2 f3 vz
      refine bodyPost_ret (v := .tuple #[fV zeroF, .int .i64 2]) (by rw [results_cell_tmp rfl]; simp [go_sem, k0, k1, k2, k3]; rfl) rfl ?_
      exact ⟨rfl, (((HBx.out.setCell (p := ⟨w.heap.size, 0, none⟩) (Nat.le_refl _) _).setCell (p := ⟨w.heap.size, 1, none⟩) (Nat.le_refl _) _).setCell (p := ⟨w.heap.size, 2, none⟩) (Nat.le_refl _) _).setCell (p := ⟨w.heap.size, 3, none⟩) (Nat.le_refl _) _⟩
set_option maxRecDepth 100000 in
set_option maxHeartbeats 8000000 in
theorem parse_ok (t : ByteArray) (h1 : 11 ≤ t.size) (h2 : t.size ≤ 124) (w : World) (hf : formedT t.data.toList = true) :
    Calls Tryz.prog 69 #[.string t] w fun e w' => e = .returned (.tuple #[fV (parseF t.data.toList).1, .int .i64 ((parseF t.data.toList).2 : Int)]) ∧ Below w.heap.size w w' := by
  have hx : isKindB ((t.data.toList.getD 0 0).toNat : Int) = true ∧ 11 + sizeAt t.data.toList ≤ t.size ∧ onlyL 0 (t.data.toList.drop (11 + sizeAt t.data.toList)) = true := by
    have hf := hf
    unfold formedT at hf
    unfold isKindB
    simp only [Bool.and_eq_true, decide_eq_true_eq] at hf ⊢
    have hll : t.data.toList.length = t.size := by simp
    exact ⟨⟨by omega, by omega⟩, by omega, hf.2⟩
  have HE := Lib.hid (show parseF t.data.toList = (⟨(t.data.toList.getD 0 0).toNat, wd (le4 t.data.toList 1), wd (le4 t.data.toList 5), (t.data.toList.drop 11).take (sizeAt t.data.toList)⟩, 0) by unfold parseF; rw [if_neg (by simp [hf])])
  clear hf
  rw [HE.out]
  clear HE
  have hll : t.data.toList.length = t.size := by simp
  have h0 : 0 < t.size := by omega
  have h9 : 9 < t.size := by omega
  have h10 : 10 < t.size := by omega
  have i9 : (9 : Int) < (t.size : Int) := by omega
  have i10 : (10 : Int) < (t.size : Int) := by omega
  have i0 : (0 : Int) < (t.size : Int) := by omega
  obtain ⟨l, hl⟩ : ∃ l, l = t.data.toList := ⟨_, rfl⟩
  rw [← hl] at hll hx⊢
  obtain ⟨n0, q0⟩ : ∃ n0, (t[0]'h0).toNat = n0 := ⟨_, rfl⟩
  obtain ⟨n9, q9⟩ : ∃ n9, (t[9]'h9).toNat = n9 := ⟨_, rfl⟩
  obtain ⟨n10, q10⟩ : ∃ n10, (t[10]'h10).toNat = n10 := ⟨_, rfl⟩
  have m0 : n0 < 256 := by rw [← q0]; exact UInt8.toNat_lt _
  have m9 : n9 < 256 := by rw [← q9]; exact UInt8.toNat_lt _
  have m10 : n10 < 256 := by rw [← q10]; exact UInt8.toNat_lt _
  have g0 : (l.getD 0 0).toNat = n0 := by rw [hl, Crc.getD_byte t 0 h0, q0]
  have g9 : sizeAt l = n9 + n10 * 256 := by unfold sizeAt; rw [hl, Crc.getD_byte t 9 h9, Crc.getD_byte t 10 h10, q9, q10]
  rw [g0, g9] at hx
  have HK := Lib.hid (fun w => isKind_any (n0 : Int) w)
  rw [g0, g9]
  obtain ⟨x1, x2, x3⟩ := hx
  rw [x1] at HK
  have x4 : decide ((t.size : Int) < 11 + (n9 : Int) + (n10 : Int) * 256) = false := decide_eq_false (by omega)
  have hds := Txt.dropS l (11 + (n9 + n10 * 256)) (11 + (n9 : Int) + (n10 : Int) * 256) (by omega) (by omega)
  rw [hl, bs_list, ← hl] at hds
  have HO := Lib.hid (fun w => only_any 0 0 rfl (bs (l.drop (11 + (n9 + n10 * 256)))) (by rw [bs_size, List.length_drop]; unfold maxLen; omega) w)
  rw [list_bs, x3] at HO
  obtain ⟨TD, hTD⟩ : ∃ TD, TD = bs (l.drop (11 + (n9 + n10 * 256))) := ⟨_, rfl⟩
  rw [← hTD] at hds HO
  have hcs := Txt.cutSS l 11 (11 + (n9 + n10 * 256)) 11 (11 + (n9 : Int) + (n10 : Int) * 256) rfl (by omega) (by omega) (by omega)
  rw [Nat.add_sub_cancel_left, hl, bs_list, ← hl] at hcs
  obtain ⟨BD, hBD⟩ : ∃ BD, BD = bs (Flash.cut l 11 (n9 + n10 * 256)) := ⟨_, rfl⟩
  rw [← hBD] at hcs
  have HG1 := Lib.hid (fun w => Crc.get_yes t (by unfold maxLen; omega) 1 (by omega) w)
  have HG5 := Lib.hid (fun w => Crc.get_yes t (by unfold maxLen; omega) 5 (by omega) w)
  rw [← hl, show ((1 : Nat) : Int) = 1 from rfl] at HG1
  rw [← hl, show ((5 : Nat) : Int) = 5 from rfl] at HG5
  have a1 := wd_le4 l 1
  have a5 := wd_le4 l 5
  obtain ⟨A1, hA1⟩ : ∃ A1, A1 = le4 l 1 := ⟨_, rfl⟩
  obtain ⟨A5, hA5⟩ : ∃ A5, A5 = le4 l 5 := ⟨_, rfl⟩
  rw [← hA1] at a1 HG1 ⊢
  rw [← hA5] at a5 HG5 ⊢
  have HFV := Lib.hid (show fV ⟨(n0 : Int), wd A1, wd A5, (l.drop 11).take (n9 + n10 * 256)⟩ = .agg #[.int .i64 (n0 : Int), .int .u32 A1, .int .u32 A5, .string BD] by
    unfold fV
    rw [a1, a5, hBD]; rfl)
  simp only
  rw [HFV.out]
  clear HFV
  have HV1 := Lib.hid (Var.new w 31 [.int .i64 0, .int .u32 0, .int .u32 0, .string ⟨#[]⟩])
  clear g0 g9 hll hl hTD x3 hBD hA1 hA5 a1 a5
  go_enter Tryz.func69, Tryz.ntmps69
  go_wp2
  obtain ⟨w1, hw1⟩ : ∃ w1, w1 = w.alloc (.cells #[.int .i64 0, .int .u32 0, .int .u32 0, .string ⟨#[]⟩] 31) := ⟨_, rfl⟩
  have HB1 := Lib.hid (show Below w.heap.size w w1 by rw [hw1]; exact Geom.bel_alloc _ _)
  rw [show w.alloc (.cells [.int .i64 0, .int .u32 0, .int .u32 0, .string ⟨#[]⟩].toArray 31) = w1 from hw1.symm] at HV1
  rw [← hw1]
  clear hw1
  refine wp_region_is [10, 11, 12, 13, 14, 15, 16, 17, 18, 5] (fun w' => Below w1.heap.size w1 w')
    [.string t, .int .u8 (n9 : Int), .int .i64 (n9 : Int), .int .i64 (11 + (n9 : Int)), .string t, .int .u8 (n10 : Int), .int .i64 (n10 : Int), .int .i64 ((n10 : Int) * 256), .int .i64 (11 + (n9 : Int) + (n10 : Int) * 256), .int .i64 (11 + (n9 : Int) + (n10 : Int) * 256)] (by kernel_rfl) (by kernel_rfl) rfl (by decide) (by simp) (Below.refl _ _).drew ?each ?done
  case each =>
    simp only [Each]
    repeat' (first | exact trivial | refine And.intro ?_ ?_)
    all_goals
      intro ys wx hBx hdeps
      simp only [Deps, Region.binds, List.getD_cons_zero, List.getD_cons_succ, forall_const, and_true] at hdeps
      simp only [hdeps, fill, List.foldl_cons, List.foldl_nil, Act.put, List.setIfInBounds_toArray, List.set_cons_succ, List.set_cons_zero]
      go_wp2_with fail
      exact ⟨_, rfl, rfl, hBx, Below.refl _ _⟩
  case done =>
    intro ys wx hBx hV
    have h5 : ys 5 = .int .i64 (11 + (n9 : Int) + (n10 : Int) * 256) := hV 9 (by decide)
    have HBx := Lib.hid (bel2 HB1.out hBx)
    have HV2 := Lib.hid (HV1.out.below hBx HV1.out.lt)
    obtain ⟨w2, hw2⟩ : ∃ w2, w2 = wx := ⟨_, rfl⟩
    rw [← hw2] at HBx HV2
    clear hBx hV
    simp only [h5, fill, List.drop_succ_cons, List.drop_zero, List.foldl_cons, List.foldl_nil, Act.put, List.setIfInBounds_toArray, List.set_cons_succ, List.set_cons_zero]
    rw [← hw2]
    clear hw2
    go_wp2_with (first | (go_at_call 78; (with_reducible refine (HK.out _).mono ?_); rintro e w5 ⟨rfl, rfl⟩) | (go_at_call 96; (with_reducible refine (HO.out _).mono ?_); rintro e w5 ⟨rfl, rfl⟩))
    have HF5 := Lib.hid (Var.new w5 31 [.int .i64 (n0 : Int), .int .u32 0, .int .u32 0, .string BD])
    have HB5 := Lib.hid (bel2 HBx.out (Geom.bel_alloc w5 (.cells #[.int .i64 (n0 : Int), .int .u32 0, .int .u32 0, .string BD] 31)))
    have HV5 := Lib.hid (HV2.out.alloc (.cells #[.int .i64 (n0 : Int), .int .u32 0, .int .u32 0, .string BD] 31))
    have hlt := HBx.out.size
    have hz5 : (w5.alloc (.cells #[.int .i64 (n0 : Int), .int .u32 0, .int .u32 0, .string BD] 31)).heap.size = w5.heap.size + 1 := by simp
    have hlv := HV2.out.lt
    (with_reducible refine (HG1.out _).mono ?_)
    rintro e w6 ⟨rfl, hd6⟩
    have HF6 := Lib.hid (HF5.out.below (Crc.belD hd6) HF5.out.lt)
    have HV6 := Lib.hid (HV5.out.below (Crc.belD hd6) HV5.out.lt)
    have HB6 := Lib.hid (bel2 HB5.out (Crc.belD hd6))
    clear hd6 HF5 HV5 HB5 HBx HV2 hz5
    have f1 := HF6.out.frozen 1
    have c1 := HF6.out.cell (j := 1) rfl
    have HF7 := Lib.hid (HF6.out.set 1 (.int .u32 A1))
    have HV7 := Lib.hid (Var.othr HV6.out ⟨w5.heap.size, 1, none⟩ (.int .u32 A1) (by show w.heap.size ≠ w5.heap.size; omega))
    have HB7 := Lib.hid (HB6.out.setCell (p := ⟨w5.heap.size, 1, none⟩) hlt (.int .u32 A1))
    clear HF6 HV6 HB6
    go_wp2_with fail
    go_at_call 98
    (with_reducible refine (HG5.out _).mono ?_)
    rintro e w8 ⟨rfl, hd8⟩
    have HF8 := Lib.hid (HF7.out.below (Crc.belD hd8) HF7.out.lt)
    have HV8 := Lib.hid (HV7.out.below (Crc.belD hd8) HV7.out.lt)
    have HB8 := Lib.hid (bel2 HB7.out (Crc.belD hd8))
    clear hd8 HF7 HV7 HB7 f1 c1
    have f2 := HF8.out.frozen 2
    have c2 := HF8.out.cell (j := 2) rfl
    have vf := HF8.out.set 2 (.int .u32 A5)
    have vv := Var.othr HV8.out ⟨w5.heap.size, 2, none⟩ (.int .u32 A5) (by show w.heap.size ≠ w5.heap.size; omega)
    have HB9 := Lib.hid (HB8.out.setCell (p := ⟨w5.heap.size, 2, none⟩) hlt (.int .u32 A5))
    have k0 := vf.cell (j := 0) rfl
    have k1 := vf.cell (j := 1) rfl
    have k2 := vf.cell (j := 2) rfl
    have k3 := vf.cell (j := 3) rfl
    have z0 := vv.cell (j := 0) rfl
    have z1 := vv.cell (j := 1) rfl
    have z2 := vv.cell (j := 2) rfl
    have z3 := vv.cell (j := 3) rfl
    have y0 := vv.frozen 0
    have y1 := vv.frozen 1
    have y2 := vv.frozen 2
    have y3 := vv.frozen 3
    have vz := (((vv.set 0 (.int .i64 (n0 : Int))).set 1 (.int .u32 A1)).set 2 (.int .u32 A5)).set 3 (.string BD)
    go_wp2
    have r0 := vz.cell (j := 0) rfl
    have r1 := vz.cell (j := 1) rfl
    have r2 := vz.cell (j := 2) rfl
    have r3 := vz.cell (j := 3) rfl
    clear z0 z1 z2 z3 y0 y1 y2 y3 vz vf vv k0 k1 k2 k3 f2 c2
    refine bodyPost_ret (v := .tuple #[.agg #[.int .i64 (n0 : Int), .int .u32 A1, .int .u32 A5, .string BD], .int .i64 0]) (by rw [results_cell_tmp rfl]; simp [go_sem, r0, r1, r2, r3]) rfl ?_
    exact ⟨rfl, (((HB9.out.setCell (p := ⟨w.heap.size, 0, none⟩) (Nat.le_refl _) _).setCell (p := ⟨w.heap.size, 1, none⟩) (Nat.le_refl _) _).setCell (p := ⟨w.heap.size, 2, none⟩) (Nat.le_refl _) _).setCell (p := ⟨w.heap.size, 3, none⟩) (Nat.le_refl _) _⟩
theorem parse_any (t : ByteArray) (h1 : 11 ≤ t.size) (h2 : t.size ≤ 124) (w : World) :
    Calls Tryz.prog 69 #[.string t] w fun e w' => e = .returned (.tuple #[fV (parseF t.data.toList).1, .int .i64 ((parseF t.data.toList).2 : Int)]) ∧ Below w.heap.size w w' := by
  cases hf : formedT t.data.toList with
  | true => exact parse_ok t h1 h2 w hf
  | false =>
    refine parse_bad t h1 h2 w hf ?_
    have hll : t.data.toList.length = t.size := by simp
    unfold formedT at hf
    rw [hll] at hf
    unfold isKindB
    by_cases e1 : 1 ≤ (t.data.toList.getD 0 0).toNat ∧ (t.data.toList.getD 0 0).toNat ≤ 4
    · have k1 : decide ((1 : Int) ≤ ((t.data.toList.getD 0 0).toNat : Int)) = true := decide_eq_true (by omega)
      have k2 : decide (((t.data.toList.getD 0 0).toNat : Int) ≤ 4) = true := decide_eq_true (by omega)
      rw [k1, k2]
      rw [decide_eq_true e1.1, decide_eq_true e1.2] at hf
      by_cases e2 : 11 + sizeAt t.data.toList ≤ t.size
      · rw [decide_eq_true e2] at hf
        exact .inr (.inr ⟨rfl, e2, by simpa using hf⟩)
      · exact .inr (.inl ⟨rfl, by omega⟩)
    · left
      rcases Decidable.not_and_iff_or_not.mp e1 with h | h
      · rw [decide_eq_false (by omega)]; rfl
      · rw [Bool.and_eq_false_iff]; right; exact decide_eq_false (by omega)
end Go.Proofs.YtcmjambbdfangaaGreat.Frame
