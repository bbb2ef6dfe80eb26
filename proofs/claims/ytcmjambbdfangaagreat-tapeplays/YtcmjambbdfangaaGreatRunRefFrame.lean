/-
  Joined texts: RefFrame, RefFrameB.
-/
import Derived.Test.YtcmjambbdfangaaGreatRunFrameM
import Derived.Test.YtcmjambbdfangaaGreatRunFlashA
import Derived.Test.YtcmjambbdfangaaGreatRunGeomA
import Derived.Test.YtcmjambbdfangaaGreatRunRegion
import Derived.Deep.QuietTactic
import Derived.BigQuiet
import Derived.Laws.ResultCell
/-
  What the document's own page, FrameBytes answer.
-/
set_option linter.unusedVariables false
set_option linter.unusedSimpArgs false
namespace Go.Proofs.YtcmjambbdfangaaGreat.Frame
open Go.RowKit
open CrcM (W)
open Crc (le4 sumOf vl wd putS)
open Flash (bs bs_size bs_list list_bs)
open Tup Bytes
open Go.Proofs.YtcmjambbdfangaaGreat.Region (fill Then Deps Each wp_region_is wp_region_is_tail wp_region_each wp_region_tail)

theorem below_drewN (w : World) (k : Nat) : Below w.heap.size w (w.drewN k) := ⟨rfl, rfl, rfl, Nat.le_refl _, fun _ _ => rfl⟩
theorem bel2 {a w1 w2 : World} (h : Below a.heap.size a w1) (k : Below w1.heap.size w1 w2) : Below a.heap.size a w2 := h.trans (k.mono h.size)
/-- a frame as a value -/
def fV (f : Fr) : Value := .agg #[.int .i64 f.kind, .int .u32 (vl f.a), .int .u32 (vl f.b), .string (bs f.body)]
def fC (f : Fr) : List Value := [.int .i64 f.kind, .int .u32 (vl f.a), .int .u32 (vl f.b), .string (bs f.body)]
/-- a slice of these bytes, somewhere -/
def BytesAt (w : World) (v : Value) (l : List UInt8) : Prop := ∃ g c, v = .slice (some ⟨g, 0, none⟩) l.length c ∧ Row8 w g l
theorem BytesAt.below {w w' : World} {v : Value} {l : List UInt8} (h : BytesAt w v l) (hb : Below w.heap.size w w') : BytesAt w' v l := by
  obtain ⟨g, c, e, r⟩ := h
  exact ⟨g, c, e, r.below hb⟩
/-- the values of a region's operations, some of them rows of bytes -/
def VB (tab : List Value) (bts : List (Nat × List UInt8)) : Nat → Value → World → Prop := fun i v w => match bts.lookup i with | some l => BytesAt w v l | none => v = tab.getD i undef
theorem VB.mono (tab : List Value) (bts : List (Nat × List UInt8)) : ∀ i v w w', VB tab bts i v w → Below w.heap.size w w' → VB tab bts i v w' := by
  intro i v w w' h hb
  unfold VB at h ⊢
  split <;> rename_i e
  · rw [e] at h; exact BytesAt.below h hb
  · rw [e] at h; exact h
theorem row_new (w : World) (t : TypeId) (l : List UInt8) : Row8 (w.alloc (.cells (l.map fun c => Value.int .u8 (c.toNat : Int)).toArray t)) w.heap.size l := fun j hj => by
  refine ⟨?_, ?_⟩
  · have := (lies_new w (l.map fun c => Value.int .u8 (c.toNat : Int)) t) j (.int .u8 ((l.getD j 0).toNat : Int)) (by rw [List.getElem?_map, List.getElem?_eq_getElem hj, List.getD_eq_getElem?_getD, List.getElem?_eq_getElem hj]; rfl)
    rwa [Nat.zero_add] at this
  · exact (Var.new w t (l.map fun c => Value.int .u8 (c.toNat : Int))).frozen j
theorem mask255 (n : Nat) (h : n < 4294967296) : bits .and .u32 (n : Int) 255 = ((n % 256 : Nat) : Int) := by
  have := u32_and_nat n 255 h (by decide)
  rw [show n &&& 255 = n % 256 from Nat.and_two_pow_sub_one_eq_mod n 8] at this
  exact this
theorem i64_and255 (n : Int) : bits .and .i64 n 255 = n % 256 := by
  have h255 : (BitVec.ofInt 64 255).toNat = 2 ^ 8 - 1 := by decide
  have key : (BitVec.ofInt 64 n &&& BitVec.ofInt 64 255).toNat = (n % ((2 ^ 64 : Nat) : Int)).toNat % 2 ^ 8 := by
    rw [BitVec.toNat_and, BitVec.toNat_ofInt, h255, Nat.and_two_pow_sub_one_eq_mod]
  show IntKind.i64.wrap ((BitVec.ofInt 64 n &&& BitVec.ofInt 64 255).toNat : Nat) = n % 256
  rw [key, IntKind.wrap_i64]
  omega
set_option maxRecDepth 100000 in
theorem refPut_any (x : W) (w : World) :
    Calls Tryz.prog 112 #[.int .u32 (vl x)] w fun e w' => e = .returned (.string (putS x)) ∧ Below w.heap.size w w' := by
  have hx := x.isLt
  obtain ⟨n, hn⟩ : ∃ n, n = x.toNat := ⟨_, rfl⟩
  have hv : vl x = (n : Int) := by unfold vl; rw [hn]
  rw [← hn] at hx
  have m0 := mask255 n hx
  have m1 := mask255 (n / 256) (by omega)
  have m2 := mask255 (n / 65536) (by omega)
  obtain ⟨n0, h0⟩ : ∃ n0, n0 = n % 256 := ⟨_, rfl⟩
  obtain ⟨n1, h1⟩ : ∃ n1, n1 = n / 256 % 256 := ⟨_, rfl⟩
  obtain ⟨n2, h2⟩ : ∃ n2, n2 = n / 65536 % 256 := ⟨_, rfl⟩
  obtain ⟨n3, h3⟩ : ∃ n3, n3 = n / 16777216 := ⟨_, rfl⟩
  rw [← h0] at m0
  rw [← h1] at m1
  rw [← h2] at m2
  have d1 : (n : Int) / 256 = ((n / 256 : Nat) : Int) := rfl
  have d2 : (n : Int) / 65536 = ((n / 65536 : Nat) : Int) := rfl
  have d3 : (n : Int) / 16777216 = (n3 : Int) := by rw [h3]; rfl
  rw [← d1] at m1
  rw [← d2] at m2
  have l0 : n0 < 256 := by omega
  have l1 : n1 < 256 := by omega
  have l2 : n2 < 256 := by omega
  have l3 : n3 < 256 := by omega
  have HE := Lib.hid (show putS x = bs [u8 n0, u8 n1, u8 n2, u8 n3] by
    unfold putS bs CrcM.put u8
    rw [← hn, h0, h1, h2, h3]
    rw [Nat.mod_eq_of_lt (show n / 16777216 < 256 by omega)])
  rw [hv]
  have htx := (row_new w 5 [u8 n0, u8 n1, u8 n2, u8 n3]).text (P := Tryz.prog) 55 9 5 4 Tryz.underlying55 Tryz.underlying5 Tryz.underlying9 4 rfl
  simp only [List.map_cons, List.map_nil, u8_int l0, u8_int l1, u8_int l2, u8_int l3] at htx
  have HB := Lib.hid (Geom.bel_alloc w (.cells #[.int .u8 (n0 : Int), .int .u8 (n1 : Int), .int .u8 (n2 : Int), .int .u8 (n3 : Int)] 5))
  clear hv hn h0 h1 h2 h3 d1 d2
  go_enter Tryz.func112, Tryz.ntmps112
  go_wp2
  go_ret
  rw [HE.out]
  exact ⟨rfl, HB.out⟩
set_option maxRecDepth 100000 in
set_option maxHeartbeats 8000000 in
theorem refPage_any (pg : Nat) (f : Fr) (hf : f.Ok pg) (w : World) :
    Calls Tryz.prog 88 #[.int .i64 (pg : Int), fV f] w fun e w' => e = .returned (.string (bs (page pg f))) ∧ Below w.heap.size w w' := by
  obtain ⟨k1, k4, hfit, p0, p1⟩ := hf
  obtain ⟨kd, a, b, body⟩ := f
  simp only at k1 k4 hfit
  obtain ⟨K, rfl⟩ : ∃ K : Nat, kd = (K : Int) := ⟨kd.toNat, by omega⟩
  have hK : K < 256 := by omega
  have HK8 := Lib.hid (u8_int hK)
  obtain ⟨n, hn⟩ : ∃ n, n = body.length := ⟨_, rfl⟩
  have hn1 : n ≤ 113 := by omega
  have hn256 : n < 256 := by omega
  have HN8 := Lib.hid (u8_int hn256)
  have H08 := Lib.hid (u8_int (show 0 < 256 by decide))
  obtain ⟨B, hB⟩ : ∃ B, B = bs body := ⟨_, rfl⟩
  have hBs : B.size = n := by rw [hB, hn, bs_size]
  obtain ⟨T1, hT1⟩ : ∃ T1, T1 = bs [u8 K] := ⟨_, rfl⟩
  obtain ⟨T2, hT2⟩ : ∃ T2, T2 = putS a := ⟨_, rfl⟩
  obtain ⟨T3, hT3⟩ : ∃ T3, T3 = putS b := ⟨_, rfl⟩
  obtain ⟨T4, hT4⟩ : ∃ T4, T4 = bs [u8 n, u8 0] := ⟨_, rfl⟩
  have s1 : T1.size = 1 := by rw [hT1]; rfl
  have s2 : T2.size = 4 := by rw [hT2]; rfl
  have s3 : T3.size = 4 := by rw [hT3]; rfl
  have s4 : T4.size = 2 := by rw [hT4]; rfl
  have HT1 := Lib.hid (show (⟨[u8 K].toArray⟩ : ByteArray) = T1 from hT1.symm)
  have HT4 := Lib.hid (show (⟨[u8 n, u8 0].toArray⟩ : ByteArray) = T4 from hT4.symm)
  have HPA := Lib.hid (fun w => refPut_any a w)
  have HPB := Lib.hid (fun w => refPut_any b w)
  rw [← hT2] at HPA
  rw [← hT3] at HPB
  obtain ⟨S, hS⟩ : ∃ S, S = T1 ++ T2 ++ T3 ++ T4 ++ B := ⟨_, rfl⟩
  have hSs : S.size = 11 + n := by rw [hS]; simp only [ByteArray.size_append]; omega
  have HS := Lib.hid hS
  have HF := Lib.hid (fun w => Flash.fill_any 0 ((pg : Int) - 4 - (11 + (n : Int))) (pg - 15 - n) (.inl (by omega)) (by omega) w)
  rw [show (((0 : UInt8).toNat : Int)) = 0 from rfl] at HF
  obtain ⟨Z, hZ⟩ : ∃ Z, Z = bs (List.replicate (pg - 15 - n) (0 : UInt8)) := ⟨_, rfl⟩
  rw [← hZ] at HF
  have hZs : Z.size = pg - 15 - n := by rw [hZ, bs_size, List.length_replicate]
  have hcore : (S ++ Z).data.toList = core pg ⟨K, a, b, body⟩ := by
    rw [hS, hZ, hT1, hT2, hT3, hT4, hB]
    unfold core head putS bs
    simp only [ByteArray.data_append, Array.toList_append, ← hn, Int.toNat_natCast, Nat.mod_eq_of_lt hn256, Nat.div_eq_of_lt hn256, List.append_assoc, List.cons_append, List.nil_append]
  have hSZ : (S ++ Z).size ≤ maxLen := by rw [ByteArray.size_append, hSs, hZs]; unfold maxLen; omega
  have HC := Lib.hid (fun w => Crc.refCrc_any (S ++ Z) hSZ w)
  rw [hcore] at HC
  have HPS := Lib.hid (fun w => refPut_any (CrcM.sum (core pg ⟨K, a, b, body⟩)) w)
  have HE := Lib.hid (show bs (page pg ⟨K, a, b, body⟩) = S ++ Z ++ putS (CrcM.sum (core pg ⟨K, a, b, body⟩)) by
    apply ByteArray.ext
    simp only [ByteArray.data_append]
    unfold page bs putS
    rw [← hcore]
    simp [ByteArray.data_append])
  have hP4 : (putS (CrcM.sum (core pg ⟨K, a, b, body⟩))).size = 4 := rfl
  unfold sumOf at HC
  generalize CrcM.sum (core pg ⟨K, a, b, body⟩) = sm at *
  unfold fV
  simp only
  rw [← hB]
  have HV := Lib.hid (Var.new w 31 [.int .i64 (K : Int), .int .u32 (vl a), .int .u32 (vl b), .string B])
  have hsl : n + (pg - 15 - n) ≤ 113 := by omega
  have hand : bits .and .i64 (n : Int) 255 = (n : Int) := by
    rw [i64_and255]; omega
  have hshr : (n : Int) / 256 = 0 := by omega
  clear hB hT1 hT2 hT3 hT4 hS hn hZ hcore hSZ hK
  go_enter Tryz.func88, Tryz.ntmps88
  go_wp2
  obtain ⟨w1, hw1⟩ : ∃ w1, w1 = w.alloc (.cells #[.int .i64 (K : Int), .int .u32 (vl a), .int .u32 (vl b), .string B] 31) := ⟨_, rfl⟩
  have HB1 := Lib.hid (show Below w.heap.size w w1 by rw [hw1]; exact Geom.bel_alloc _ _)
  rw [show w.alloc (.cells [.int .i64 (K : Int), .int .u32 (vl a), .int .u32 (vl b), .string B].toArray 31) = w1 from hw1.symm] at HV
  rw [← hw1]
  clear hw1
  refine wp_region_each [6, 7, 8, 9, 10, 11, 12, 13, 14, 15, 16, 17, 18, 19, 20, 21, 22, 23, 24, 25, 26, 27, 28, 29, 30, 31, 32, 33, 34, 5] (fun w' => Below w1.heap.size w1 w') (VB [.pointer (some ⟨w.heap.size, 0, none⟩), .int .i64 (K : Int), .int .u8 (K : Int), undef, .string T1, .pointer (some ⟨w.heap.size, 1, none⟩), .int .u32 (vl a), .string T2, .string (T1 ++ T2), .pointer (some ⟨w.heap.size, 2, none⟩), .int .u32 (vl b), .string T3, .string (T1 ++ T2 ++ T3), .pointer (some ⟨w.heap.size, 3, none⟩), .string B, .int .i64 (n : Int), .int .i64 (n : Int), .int .u8 (n : Int), .pointer (some ⟨w.heap.size, 3, none⟩), .string B, .int .i64 (n : Int), .int .i64 0, .int .u8 0, undef, .string T4, .string (T1 ++ T2 ++ T3 ++ T4), .pointer (some ⟨w.heap.size, 3, none⟩), .string B, .string (T1 ++ T2 ++ T3 ++ T4 ++ B), .string (T1 ++ T2 ++ T3 ++ T4 ++ B)] [(3, [u8 K]), (23, [u8 n, u8 0])]) (by kernel_rfl) (by kernel_rfl) rfl (by decide) (by simp) (VB.mono _ _) (Below.refl _ _).drew ?each ?done
  case each =>
    simp only [Each]
    refine ⟨?o0, ?o1, ?o2, ?o3, ?o4, ?o5, ?o6, ?o7, ?o8, ?o9, ?o10, ?o11, ?o12, ?o13, ?o14, ?o15, ?o16, ?o17, ?o18, ?o19, ?o20, ?o21, ?o22, ?o23, ?o24, ?o25, ?o26, ?o27, ?o28, ?o29, trivial⟩
    case o0 =>
      intro ys wx hBx hdeps
      clear hdeps
      simp only [fill, List.foldl_cons, List.foldl_nil, Act.put, List.setIfInBounds_toArray, List.set_cons_succ, List.set_cons_zero]
      go_wp2_with fail
      exact ⟨_, rfl, rfl, hBx, Below.refl _ _⟩
    case o1 =>
      intro ys wx hBx hdeps
      simp only [Deps, Region.binds, List.getD_cons_zero, List.getD_cons_succ, forall_const, and_true, true_and] at hdeps
      have y0 : ys 6 = .pointer (some ⟨w.heap.size, 0, none⟩) := by first | exact hdeps | exact hdeps.1 | exact hdeps.2.1 | exact hdeps.2.2.1 | exact hdeps.2.2.2.1 | exact hdeps.2.2.2.2.1 | exact hdeps.2.2.2.2.2.1 | exact hdeps.2.2.2.2.2.2.1 | exact hdeps.2.2.2.2.2.2.2.1 | exact hdeps.2.2.2.2.2.2.2.2.1 | exact hdeps.2.2.2.2.2.2.2.2.2.1 | exact hdeps.2.2.2.2.2.2.2.2.2.2.1 | exact hdeps.2.2.2.2.2.2.2.2.2.2.2.1 | exact hdeps.2 | exact hdeps.2.2 | exact hdeps.2.2.2 | exact hdeps.2.2.2.2 | exact hdeps.2.2.2.2.2 | exact hdeps.2.2.2.2.2.2 | exact hdeps.2.2.2.2.2.2.2 | exact hdeps.2.2.2.2.2.2.2.2 | exact hdeps.2.2.2.2.2.2.2.2.2 | exact hdeps.2.2.2.2.2.2.2.2.2.2 | exact hdeps.2.2.2.2.2.2.2.2.2.2.2
      clear hdeps
      have b0 := (HV.out.below hBx HV.out.lt).cell (j := 0) rfl
      simp only [y0, fill, List.foldl_cons, List.foldl_nil, Act.put, List.setIfInBounds_toArray, List.set_cons_succ, List.set_cons_zero]
      go_wp2_with fail
      exact ⟨_, rfl, rfl, hBx, Below.refl _ _⟩
    case o2 =>
      intro ys wx hBx hdeps
      simp only [Deps, Region.binds, List.getD_cons_zero, List.getD_cons_succ, forall_const, and_true, true_and] at hdeps
      have y1 : ys 7 = .int .i64 (K : Int) := by first | exact hdeps | exact hdeps.1 | exact hdeps.2.1 | exact hdeps.2.2.1 | exact hdeps.2.2.2.1 | exact hdeps.2.2.2.2.1 | exact hdeps.2.2.2.2.2.1 | exact hdeps.2.2.2.2.2.2.1 | exact hdeps.2.2.2.2.2.2.2.1 | exact hdeps.2.2.2.2.2.2.2.2.1 | exact hdeps.2.2.2.2.2.2.2.2.2.1 | exact hdeps.2.2.2.2.2.2.2.2.2.2.1 | exact hdeps.2.2.2.2.2.2.2.2.2.2.2.1 | exact hdeps.2 | exact hdeps.2.2 | exact hdeps.2.2.2 | exact hdeps.2.2.2.2 | exact hdeps.2.2.2.2.2 | exact hdeps.2.2.2.2.2.2 | exact hdeps.2.2.2.2.2.2.2 | exact hdeps.2.2.2.2.2.2.2.2 | exact hdeps.2.2.2.2.2.2.2.2.2 | exact hdeps.2.2.2.2.2.2.2.2.2.2 | exact hdeps.2.2.2.2.2.2.2.2.2.2.2
      clear hdeps
      simp only [y1, fill, List.foldl_cons, List.foldl_nil, Act.put, List.setIfInBounds_toArray, List.set_cons_succ, List.set_cons_zero]
      go_wp2_with fail
      exact ⟨_, rfl, rfl, hBx, Below.refl _ _⟩
    case o3 =>
      intro ys wx hBx hdeps
      simp only [Deps, Region.binds, List.getD_cons_zero, List.getD_cons_succ, forall_const, and_true, true_and] at hdeps
      have y2 : ys 8 = .int .u8 (K : Int) := by first | exact hdeps | exact hdeps.1 | exact hdeps.2.1 | exact hdeps.2.2.1 | exact hdeps.2.2.2.1 | exact hdeps.2.2.2.2.1 | exact hdeps.2.2.2.2.2.1 | exact hdeps.2.2.2.2.2.2.1 | exact hdeps.2.2.2.2.2.2.2.1 | exact hdeps.2.2.2.2.2.2.2.2.1 | exact hdeps.2.2.2.2.2.2.2.2.2.1 | exact hdeps.2.2.2.2.2.2.2.2.2.2.1 | exact hdeps.2.2.2.2.2.2.2.2.2.2.2.1 | exact hdeps.2 | exact hdeps.2.2 | exact hdeps.2.2.2 | exact hdeps.2.2.2.2 | exact hdeps.2.2.2.2.2 | exact hdeps.2.2.2.2.2.2 | exact hdeps.2.2.2.2.2.2.2 | exact hdeps.2.2.2.2.2.2.2.2 | exact hdeps.2.2.2.2.2.2.2.2.2 | exact hdeps.2.2.2.2.2.2.2.2.2.2 | exact hdeps.2.2.2.2.2.2.2.2.2.2.2
      clear hdeps
      simp only [y2, fill, List.foldl_cons, List.foldl_nil, Act.put, List.setIfInBounds_toArray, List.set_cons_succ, List.set_cons_zero]
      go_wp2_with fail
      have hr := row_new wx 5 [u8 K]
      simp only [List.map_cons, List.map_nil, HK8.out] at hr
      exact ⟨_, rfl, ⟨_, _, rfl, hr⟩, hBx.alloc hBx.size _, Geom.bel_alloc _ _⟩
    case o4 =>
      intro ys wx hBx hdeps
      simp only [Deps, Region.binds, List.getD_cons_zero, List.getD_cons_succ, forall_const, and_true, true_and] at hdeps
      have z3 : BytesAt wx (ys 9) ([u8 K]) := by first | exact hdeps | exact hdeps.1 | exact hdeps.2.1 | exact hdeps.2.2.1 | exact hdeps.2.2.2.1 | exact hdeps.2.2.2.2.1 | exact hdeps.2.2.2.2.2.1 | exact hdeps.2.2.2.2.2.2.1 | exact hdeps.2.2.2.2.2.2.2.1 | exact hdeps.2.2.2.2.2.2.2.2.1 | exact hdeps.2.2.2.2.2.2.2.2.2.1 | exact hdeps.2.2.2.2.2.2.2.2.2.2.1 | exact hdeps.2.2.2.2.2.2.2.2.2.2.2.1 | exact hdeps.2 | exact hdeps.2.2 | exact hdeps.2.2.2 | exact hdeps.2.2.2.2 | exact hdeps.2.2.2.2.2 | exact hdeps.2.2.2.2.2.2 | exact hdeps.2.2.2.2.2.2.2 | exact hdeps.2.2.2.2.2.2.2.2 | exact hdeps.2.2.2.2.2.2.2.2.2 | exact hdeps.2.2.2.2.2.2.2.2.2.2 | exact hdeps.2.2.2.2.2.2.2.2.2.2.2
      obtain ⟨g3, c3, y3, r3⟩ := z3
      clear hdeps
      have htx := r3.text (P := Tryz.prog) 55 9 5 c3 Tryz.underlying55 Tryz.underlying5 Tryz.underlying9 1 rfl
      rw [show (⟨[u8 K].toArray⟩ : ByteArray) = T1 from HT1.out] at htx
      simp only [y3, fill, List.foldl_cons, List.foldl_nil, Act.put, List.setIfInBounds_toArray, List.set_cons_succ, List.set_cons_zero]
      go_wp2_with fail
      exact ⟨_, rfl, rfl, hBx, Below.refl _ _⟩
    case o5 =>
      intro ys wx hBx hdeps
      clear hdeps
      simp only [fill, List.foldl_cons, List.foldl_nil, Act.put, List.setIfInBounds_toArray, List.set_cons_succ, List.set_cons_zero]
      go_wp2_with fail
      exact ⟨_, rfl, rfl, hBx, Below.refl _ _⟩
    case o6 =>
      intro ys wx hBx hdeps
      simp only [Deps, Region.binds, List.getD_cons_zero, List.getD_cons_succ, forall_const, and_true, true_and] at hdeps
      have y5 : ys 11 = .pointer (some ⟨w.heap.size, 1, none⟩) := by first | exact hdeps | exact hdeps.1 | exact hdeps.2.1 | exact hdeps.2.2.1 | exact hdeps.2.2.2.1 | exact hdeps.2.2.2.2.1 | exact hdeps.2.2.2.2.2.1 | exact hdeps.2.2.2.2.2.2.1 | exact hdeps.2.2.2.2.2.2.2.1 | exact hdeps.2.2.2.2.2.2.2.2.1 | exact hdeps.2.2.2.2.2.2.2.2.2.1 | exact hdeps.2.2.2.2.2.2.2.2.2.2.1 | exact hdeps.2.2.2.2.2.2.2.2.2.2.2.1 | exact hdeps.2 | exact hdeps.2.2 | exact hdeps.2.2.2 | exact hdeps.2.2.2.2 | exact hdeps.2.2.2.2.2 | exact hdeps.2.2.2.2.2.2 | exact hdeps.2.2.2.2.2.2.2 | exact hdeps.2.2.2.2.2.2.2.2 | exact hdeps.2.2.2.2.2.2.2.2.2 | exact hdeps.2.2.2.2.2.2.2.2.2.2 | exact hdeps.2.2.2.2.2.2.2.2.2.2.2
      clear hdeps
      have b1 := (HV.out.below hBx HV.out.lt).cell (j := 1) rfl
      simp only [y5, fill, List.foldl_cons, List.foldl_nil, Act.put, List.setIfInBounds_toArray, List.set_cons_succ, List.set_cons_zero]
      go_wp2_with fail
      exact ⟨_, rfl, rfl, hBx, Below.refl _ _⟩
    case o7 =>
      intro ys wx hBx hdeps
      simp only [Deps, Region.binds, List.getD_cons_zero, List.getD_cons_succ, forall_const, and_true, true_and] at hdeps
      have y6 : ys 12 = .int .u32 (vl a) := by first | exact hdeps | exact hdeps.1 | exact hdeps.2.1 | exact hdeps.2.2.1 | exact hdeps.2.2.2.1 | exact hdeps.2.2.2.2.1 | exact hdeps.2.2.2.2.2.1 | exact hdeps.2.2.2.2.2.2.1 | exact hdeps.2.2.2.2.2.2.2.1 | exact hdeps.2.2.2.2.2.2.2.2.1 | exact hdeps.2.2.2.2.2.2.2.2.2.1 | exact hdeps.2.2.2.2.2.2.2.2.2.2.1 | exact hdeps.2.2.2.2.2.2.2.2.2.2.2.1 | exact hdeps.2 | exact hdeps.2.2 | exact hdeps.2.2.2 | exact hdeps.2.2.2.2 | exact hdeps.2.2.2.2.2 | exact hdeps.2.2.2.2.2.2 | exact hdeps.2.2.2.2.2.2.2 | exact hdeps.2.2.2.2.2.2.2.2 | exact hdeps.2.2.2.2.2.2.2.2.2 | exact hdeps.2.2.2.2.2.2.2.2.2.2 | exact hdeps.2.2.2.2.2.2.2.2.2.2.2
      clear hdeps
      simp only [y6, fill, List.foldl_cons, List.foldl_nil, Act.put, List.setIfInBounds_toArray, List.set_cons_succ, List.set_cons_zero]
      go_wp2_with (go_at_call 112; (with_reducible refine (HPA.out _).mono ?_); rintro e w3 ⟨rfl, hn3⟩)
      exact ⟨_, rfl, rfl, hBx.trans (hn3.mono hBx.size), hn3⟩
    case o8 =>
      intro ys wx hBx hdeps
      simp only [Deps, Region.binds, List.getD_cons_zero, List.getD_cons_succ, forall_const, and_true, true_and] at hdeps
      have y4 : ys 10 = .string T1 := by first | exact hdeps | exact hdeps.1 | exact hdeps.2.1 | exact hdeps.2.2.1 | exact hdeps.2.2.2.1 | exact hdeps.2.2.2.2.1 | exact hdeps.2.2.2.2.2.1 | exact hdeps.2.2.2.2.2.2.1 | exact hdeps.2.2.2.2.2.2.2.1 | exact hdeps.2.2.2.2.2.2.2.2.1 | exact hdeps.2.2.2.2.2.2.2.2.2.1 | exact hdeps.2.2.2.2.2.2.2.2.2.2.1 | exact hdeps.2.2.2.2.2.2.2.2.2.2.2.1 | exact hdeps.2 | exact hdeps.2.2 | exact hdeps.2.2.2 | exact hdeps.2.2.2.2 | exact hdeps.2.2.2.2.2 | exact hdeps.2.2.2.2.2.2 | exact hdeps.2.2.2.2.2.2.2 | exact hdeps.2.2.2.2.2.2.2.2 | exact hdeps.2.2.2.2.2.2.2.2.2 | exact hdeps.2.2.2.2.2.2.2.2.2.2 | exact hdeps.2.2.2.2.2.2.2.2.2.2.2
      have y7 : ys 13 = .string T2 := by first | exact hdeps | exact hdeps.1 | exact hdeps.2.1 | exact hdeps.2.2.1 | exact hdeps.2.2.2.1 | exact hdeps.2.2.2.2.1 | exact hdeps.2.2.2.2.2.1 | exact hdeps.2.2.2.2.2.2.1 | exact hdeps.2.2.2.2.2.2.2.1 | exact hdeps.2.2.2.2.2.2.2.2.1 | exact hdeps.2.2.2.2.2.2.2.2.2.1 | exact hdeps.2.2.2.2.2.2.2.2.2.2.1 | exact hdeps.2.2.2.2.2.2.2.2.2.2.2.1 | exact hdeps.2 | exact hdeps.2.2 | exact hdeps.2.2.2 | exact hdeps.2.2.2.2 | exact hdeps.2.2.2.2.2 | exact hdeps.2.2.2.2.2.2 | exact hdeps.2.2.2.2.2.2.2 | exact hdeps.2.2.2.2.2.2.2.2 | exact hdeps.2.2.2.2.2.2.2.2.2 | exact hdeps.2.2.2.2.2.2.2.2.2.2 | exact hdeps.2.2.2.2.2.2.2.2.2.2.2
      clear hdeps
      simp only [y4, y7, fill, List.foldl_cons, List.foldl_nil, Act.put, List.setIfInBounds_toArray, List.set_cons_succ, List.set_cons_zero]
      go_wp2_with fail
      exact ⟨_, rfl, rfl, hBx, Below.refl _ _⟩
    case o9 =>
      intro ys wx hBx hdeps
      clear hdeps
      simp only [fill, List.foldl_cons, List.foldl_nil, Act.put, List.setIfInBounds_toArray, List.set_cons_succ, List.set_cons_zero]
      go_wp2_with fail
      exact ⟨_, rfl, rfl, hBx, Below.refl _ _⟩
    case o10 =>
      intro ys wx hBx hdeps
      simp only [Deps, Region.binds, List.getD_cons_zero, List.getD_cons_succ, forall_const, and_true, true_and] at hdeps
      have y9 : ys 15 = .pointer (some ⟨w.heap.size, 2, none⟩) := by first | exact hdeps | exact hdeps.1 | exact hdeps.2.1 | exact hdeps.2.2.1 | exact hdeps.2.2.2.1 | exact hdeps.2.2.2.2.1 | exact hdeps.2.2.2.2.2.1 | exact hdeps.2.2.2.2.2.2.1 | exact hdeps.2.2.2.2.2.2.2.1 | exact hdeps.2.2.2.2.2.2.2.2.1 | exact hdeps.2.2.2.2.2.2.2.2.2.1 | exact hdeps.2.2.2.2.2.2.2.2.2.2.1 | exact hdeps.2.2.2.2.2.2.2.2.2.2.2.1 | exact hdeps.2 | exact hdeps.2.2 | exact hdeps.2.2.2 | exact hdeps.2.2.2.2 | exact hdeps.2.2.2.2.2 | exact hdeps.2.2.2.2.2.2 | exact hdeps.2.2.2.2.2.2.2 | exact hdeps.2.2.2.2.2.2.2.2 | exact hdeps.2.2.2.2.2.2.2.2.2 | exact hdeps.2.2.2.2.2.2.2.2.2.2 | exact hdeps.2.2.2.2.2.2.2.2.2.2.2
      clear hdeps
      have b2 := (HV.out.below hBx HV.out.lt).cell (j := 2) rfl
      simp only [y9, fill, List.foldl_cons, List.foldl_nil, Act.put, List.setIfInBounds_toArray, List.set_cons_succ, List.set_cons_zero]
      go_wp2_with fail
      exact ⟨_, rfl, rfl, hBx, Below.refl _ _⟩
    case o11 =>
      intro ys wx hBx hdeps
      simp only [Deps, Region.binds, List.getD_cons_zero, List.getD_cons_succ, forall_const, and_true, true_and] at hdeps
      have y10 : ys 16 = .int .u32 (vl b) := by first | exact hdeps | exact hdeps.1 | exact hdeps.2.1 | exact hdeps.2.2.1 | exact hdeps.2.2.2.1 | exact hdeps.2.2.2.2.1 | exact hdeps.2.2.2.2.2.1 | exact hdeps.2.2.2.2.2.2.1 | exact hdeps.2.2.2.2.2.2.2.1 | exact hdeps.2.2.2.2.2.2.2.2.1 | exact hdeps.2.2.2.2.2.2.2.2.2.1 | exact hdeps.2.2.2.2.2.2.2.2.2.2.1 | exact hdeps.2.2.2.2.2.2.2.2.2.2.2.1 | exact hdeps.2 | exact hdeps.2.2 | exact hdeps.2.2.2 | exact hdeps.2.2.2.2 | exact hdeps.2.2.2.2.2 | exact hdeps.2.2.2.2.2.2 | exact hdeps.2.2.2.2.2.2.2 | exact hdeps.2.2.2.2.2.2.2.2 | exact hdeps.2.2.2.2.2.2.2.2.2 | exact hdeps.2.2.2.2.2.2.2.2.2.2 | exact hdeps.2.2.2.2.2.2.2.2.2.2.2
      clear hdeps
      simp only [y10, fill, List.foldl_cons, List.foldl_nil, Act.put, List.setIfInBounds_toArray, List.set_cons_succ, List.set_cons_zero]
      go_wp2_with (go_at_call 112; (with_reducible refine (HPB.out _).mono ?_); rintro e w3 ⟨rfl, hn3⟩)
      exact ⟨_, rfl, rfl, hBx.trans (hn3.mono hBx.size), hn3⟩
    case o12 =>
      intro ys wx hBx hdeps
      simp only [Deps, Region.binds, List.getD_cons_zero, List.getD_cons_succ, forall_const, and_true, true_and] at hdeps
      have y8 : ys 14 = .string (T1 ++ T2) := by first | exact hdeps | exact hdeps.1 | exact hdeps.2.1 | exact hdeps.2.2.1 | exact hdeps.2.2.2.1 | exact hdeps.2.2.2.2.1 | exact hdeps.2.2.2.2.2.1 | exact hdeps.2.2.2.2.2.2.1 | exact hdeps.2.2.2.2.2.2.2.1 | exact hdeps.2.2.2.2.2.2.2.2.1 | exact hdeps.2.2.2.2.2.2.2.2.2.1 | exact hdeps.2.2.2.2.2.2.2.2.2.2.1 | exact hdeps.2.2.2.2.2.2.2.2.2.2.2.1 | exact hdeps.2 | exact hdeps.2.2 | exact hdeps.2.2.2 | exact hdeps.2.2.2.2 | exact hdeps.2.2.2.2.2 | exact hdeps.2.2.2.2.2.2 | exact hdeps.2.2.2.2.2.2.2 | exact hdeps.2.2.2.2.2.2.2.2 | exact hdeps.2.2.2.2.2.2.2.2.2 | exact hdeps.2.2.2.2.2.2.2.2.2.2 | exact hdeps.2.2.2.2.2.2.2.2.2.2.2
      have y11 : ys 17 = .string T3 := by first | exact hdeps | exact hdeps.1 | exact hdeps.2.1 | exact hdeps.2.2.1 | exact hdeps.2.2.2.1 | exact hdeps.2.2.2.2.1 | exact hdeps.2.2.2.2.2.1 | exact hdeps.2.2.2.2.2.2.1 | exact hdeps.2.2.2.2.2.2.2.1 | exact hdeps.2.2.2.2.2.2.2.2.1 | exact hdeps.2.2.2.2.2.2.2.2.2.1 | exact hdeps.2.2.2.2.2.2.2.2.2.2.1 | exact hdeps.2.2.2.2.2.2.2.2.2.2.2.1 | exact hdeps.2 | exact hdeps.2.2 | exact hdeps.2.2.2 | exact hdeps.2.2.2.2 | exact hdeps.2.2.2.2.2 | exact hdeps.2.2.2.2.2.2 | exact hdeps.2.2.2.2.2.2.2 | exact hdeps.2.2.2.2.2.2.2.2 | exact hdeps.2.2.2.2.2.2.2.2.2 | exact hdeps.2.2.2.2.2.2.2.2.2.2 | exact hdeps.2.2.2.2.2.2.2.2.2.2.2
      clear hdeps
      simp only [y8, y11, fill, List.foldl_cons, List.foldl_nil, Act.put, List.setIfInBounds_toArray, List.set_cons_succ, List.set_cons_zero]
      go_wp2_with fail
      exact ⟨_, rfl, rfl, hBx, Below.refl _ _⟩
    case o13 =>
      intro ys wx hBx hdeps
      clear hdeps
      simp only [fill, List.foldl_cons, List.foldl_nil, Act.put, List.setIfInBounds_toArray, List.set_cons_succ, List.set_cons_zero]
      go_wp2_with fail
      exact ⟨_, rfl, rfl, hBx, Below.refl _ _⟩
    case o14 =>
      intro ys wx hBx hdeps
      simp only [Deps, Region.binds, List.getD_cons_zero, List.getD_cons_succ, forall_const, and_true, true_and] at hdeps
      have y13 : ys 19 = .pointer (some ⟨w.heap.size, 3, none⟩) := by first | exact hdeps | exact hdeps.1 | exact hdeps.2.1 | exact hdeps.2.2.1 | exact hdeps.2.2.2.1 | exact hdeps.2.2.2.2.1 | exact hdeps.2.2.2.2.2.1 | exact hdeps.2.2.2.2.2.2.1 | exact hdeps.2.2.2.2.2.2.2.1 | exact hdeps.2.2.2.2.2.2.2.2.1 | exact hdeps.2.2.2.2.2.2.2.2.2.1 | exact hdeps.2.2.2.2.2.2.2.2.2.2.1 | exact hdeps.2.2.2.2.2.2.2.2.2.2.2.1 | exact hdeps.2 | exact hdeps.2.2 | exact hdeps.2.2.2 | exact hdeps.2.2.2.2 | exact hdeps.2.2.2.2.2 | exact hdeps.2.2.2.2.2.2 | exact hdeps.2.2.2.2.2.2.2 | exact hdeps.2.2.2.2.2.2.2.2 | exact hdeps.2.2.2.2.2.2.2.2.2 | exact hdeps.2.2.2.2.2.2.2.2.2.2 | exact hdeps.2.2.2.2.2.2.2.2.2.2.2
      clear hdeps
      have b3 := (HV.out.below hBx HV.out.lt).cell (j := 3) rfl
      simp only [y13, fill, List.foldl_cons, List.foldl_nil, Act.put, List.setIfInBounds_toArray, List.set_cons_succ, List.set_cons_zero]
      go_wp2_with fail
      exact ⟨_, rfl, rfl, hBx, Below.refl _ _⟩
    case o15 =>
      intro ys wx hBx hdeps
      simp only [Deps, Region.binds, List.getD_cons_zero, List.getD_cons_succ, forall_const, and_true, true_and] at hdeps
      have y14 : ys 20 = .string B := by first | exact hdeps | exact hdeps.1 | exact hdeps.2.1 | exact hdeps.2.2.1 | exact hdeps.2.2.2.1 | exact hdeps.2.2.2.2.1 | exact hdeps.2.2.2.2.2.1 | exact hdeps.2.2.2.2.2.2.1 | exact hdeps.2.2.2.2.2.2.2.1 | exact hdeps.2.2.2.2.2.2.2.2.1 | exact hdeps.2.2.2.2.2.2.2.2.2.1 | exact hdeps.2.2.2.2.2.2.2.2.2.2.1 | exact hdeps.2.2.2.2.2.2.2.2.2.2.2.1 | exact hdeps.2 | exact hdeps.2.2 | exact hdeps.2.2.2 | exact hdeps.2.2.2.2 | exact hdeps.2.2.2.2.2 | exact hdeps.2.2.2.2.2.2 | exact hdeps.2.2.2.2.2.2.2 | exact hdeps.2.2.2.2.2.2.2.2 | exact hdeps.2.2.2.2.2.2.2.2.2 | exact hdeps.2.2.2.2.2.2.2.2.2.2 | exact hdeps.2.2.2.2.2.2.2.2.2.2.2
      clear hdeps
      simp only [y14, fill, List.foldl_cons, List.foldl_nil, Act.put, List.setIfInBounds_toArray, List.set_cons_succ, List.set_cons_zero]
      go_wp2_with fail
      exact ⟨_, rfl, rfl, hBx, Below.refl _ _⟩
    case o16 =>
      intro ys wx hBx hdeps
      simp only [Deps, Region.binds, List.getD_cons_zero, List.getD_cons_succ, forall_const, and_true, true_and] at hdeps
      have y15 : ys 21 = .int .i64 (n : Int) := by first | exact hdeps | exact hdeps.1 | exact hdeps.2.1 | exact hdeps.2.2.1 | exact hdeps.2.2.2.1 | exact hdeps.2.2.2.2.1 | exact hdeps.2.2.2.2.2.1 | exact hdeps.2.2.2.2.2.2.1 | exact hdeps.2.2.2.2.2.2.2.1 | exact hdeps.2.2.2.2.2.2.2.2.1 | exact hdeps.2.2.2.2.2.2.2.2.2.1 | exact hdeps.2.2.2.2.2.2.2.2.2.2.1 | exact hdeps.2.2.2.2.2.2.2.2.2.2.2.1 | exact hdeps.2 | exact hdeps.2.2 | exact hdeps.2.2.2 | exact hdeps.2.2.2.2 | exact hdeps.2.2.2.2.2 | exact hdeps.2.2.2.2.2.2 | exact hdeps.2.2.2.2.2.2.2 | exact hdeps.2.2.2.2.2.2.2.2 | exact hdeps.2.2.2.2.2.2.2.2.2 | exact hdeps.2.2.2.2.2.2.2.2.2.2 | exact hdeps.2.2.2.2.2.2.2.2.2.2.2
      clear hdeps
      simp only [y15, fill, List.foldl_cons, List.foldl_nil, Act.put, List.setIfInBounds_toArray, List.set_cons_succ, List.set_cons_zero]
      go_wp2_with fail
      exact ⟨_, rfl, rfl, hBx, Below.refl _ _⟩
    case o17 =>
      intro ys wx hBx hdeps
      simp only [Deps, Region.binds, List.getD_cons_zero, List.getD_cons_succ, forall_const, and_true, true_and] at hdeps
      have y16 : ys 22 = .int .i64 (n : Int) := by first | exact hdeps | exact hdeps.1 | exact hdeps.2.1 | exact hdeps.2.2.1 | exact hdeps.2.2.2.1 | exact hdeps.2.2.2.2.1 | exact hdeps.2.2.2.2.2.1 | exact hdeps.2.2.2.2.2.2.1 | exact hdeps.2.2.2.2.2.2.2.1 | exact hdeps.2.2.2.2.2.2.2.2.1 | exact hdeps.2.2.2.2.2.2.2.2.2.1 | exact hdeps.2.2.2.2.2.2.2.2.2.2.1 | exact hdeps.2.2.2.2.2.2.2.2.2.2.2.1 | exact hdeps.2 | exact hdeps.2.2 | exact hdeps.2.2.2 | exact hdeps.2.2.2.2 | exact hdeps.2.2.2.2.2 | exact hdeps.2.2.2.2.2.2 | exact hdeps.2.2.2.2.2.2.2 | exact hdeps.2.2.2.2.2.2.2.2 | exact hdeps.2.2.2.2.2.2.2.2.2 | exact hdeps.2.2.2.2.2.2.2.2.2.2 | exact hdeps.2.2.2.2.2.2.2.2.2.2.2
      clear hdeps
      simp only [y16, fill, List.foldl_cons, List.foldl_nil, Act.put, List.setIfInBounds_toArray, List.set_cons_succ, List.set_cons_zero]
      go_wp2_with fail
      exact ⟨_, rfl, rfl, hBx, Below.refl _ _⟩
    case o18 =>
      intro ys wx hBx hdeps
      clear hdeps
      simp only [fill, List.foldl_cons, List.foldl_nil, Act.put, List.setIfInBounds_toArray, List.set_cons_succ, List.set_cons_zero]
      go_wp2_with fail
      exact ⟨_, rfl, rfl, hBx, Below.refl _ _⟩
    case o19 =>
      intro ys wx hBx hdeps
      simp only [Deps, Region.binds, List.getD_cons_zero, List.getD_cons_succ, forall_const, and_true, true_and] at hdeps
      have y18 : ys 24 = .pointer (some ⟨w.heap.size, 3, none⟩) := by first | exact hdeps | exact hdeps.1 | exact hdeps.2.1 | exact hdeps.2.2.1 | exact hdeps.2.2.2.1 | exact hdeps.2.2.2.2.1 | exact hdeps.2.2.2.2.2.1 | exact hdeps.2.2.2.2.2.2.1 | exact hdeps.2.2.2.2.2.2.2.1 | exact hdeps.2.2.2.2.2.2.2.2.1 | exact hdeps.2.2.2.2.2.2.2.2.2.1 | exact hdeps.2.2.2.2.2.2.2.2.2.2.1 | exact hdeps.2.2.2.2.2.2.2.2.2.2.2.1 | exact hdeps.2 | exact hdeps.2.2 | exact hdeps.2.2.2 | exact hdeps.2.2.2.2 | exact hdeps.2.2.2.2.2 | exact hdeps.2.2.2.2.2.2 | exact hdeps.2.2.2.2.2.2.2 | exact hdeps.2.2.2.2.2.2.2.2 | exact hdeps.2.2.2.2.2.2.2.2.2 | exact hdeps.2.2.2.2.2.2.2.2.2.2 | exact hdeps.2.2.2.2.2.2.2.2.2.2.2
      clear hdeps
      have b3 := (HV.out.below hBx HV.out.lt).cell (j := 3) rfl
      simp only [y18, fill, List.foldl_cons, List.foldl_nil, Act.put, List.setIfInBounds_toArray, List.set_cons_succ, List.set_cons_zero]
      go_wp2_with fail
      exact ⟨_, rfl, rfl, hBx, Below.refl _ _⟩
    case o20 =>
      intro ys wx hBx hdeps
      simp only [Deps, Region.binds, List.getD_cons_zero, List.getD_cons_succ, forall_const, and_true, true_and] at hdeps
      have y19 : ys 25 = .string B := by first | exact hdeps | exact hdeps.1 | exact hdeps.2.1 | exact hdeps.2.2.1 | exact hdeps.2.2.2.1 | exact hdeps.2.2.2.2.1 | exact hdeps.2.2.2.2.2.1 | exact hdeps.2.2.2.2.2.2.1 | exact hdeps.2.2.2.2.2.2.2.1 | exact hdeps.2.2.2.2.2.2.2.2.1 | exact hdeps.2.2.2.2.2.2.2.2.2.1 | exact hdeps.2.2.2.2.2.2.2.2.2.2.1 | exact hdeps.2.2.2.2.2.2.2.2.2.2.2.1 | exact hdeps.2 | exact hdeps.2.2 | exact hdeps.2.2.2 | exact hdeps.2.2.2.2 | exact hdeps.2.2.2.2.2 | exact hdeps.2.2.2.2.2.2 | exact hdeps.2.2.2.2.2.2.2 | exact hdeps.2.2.2.2.2.2.2.2 | exact hdeps.2.2.2.2.2.2.2.2.2 | exact hdeps.2.2.2.2.2.2.2.2.2.2 | exact hdeps.2.2.2.2.2.2.2.2.2.2.2
      clear hdeps
      simp only [y19, fill, List.foldl_cons, List.foldl_nil, Act.put, List.setIfInBounds_toArray, List.set_cons_succ, List.set_cons_zero]
      go_wp2_with fail
      exact ⟨_, rfl, rfl, hBx, Below.refl _ _⟩
    case o21 =>
      intro ys wx hBx hdeps
      simp only [Deps, Region.binds, List.getD_cons_zero, List.getD_cons_succ, forall_const, and_true, true_and] at hdeps
      have y20 : ys 26 = .int .i64 (n : Int) := by first | exact hdeps | exact hdeps.1 | exact hdeps.2.1 | exact hdeps.2.2.1 | exact hdeps.2.2.2.1 | exact hdeps.2.2.2.2.1 | exact hdeps.2.2.2.2.2.1 | exact hdeps.2.2.2.2.2.2.1 | exact hdeps.2.2.2.2.2.2.2.1 | exact hdeps.2.2.2.2.2.2.2.2.1 | exact hdeps.2.2.2.2.2.2.2.2.2.1 | exact hdeps.2.2.2.2.2.2.2.2.2.2.1 | exact hdeps.2.2.2.2.2.2.2.2.2.2.2.1 | exact hdeps.2 | exact hdeps.2.2 | exact hdeps.2.2.2 | exact hdeps.2.2.2.2 | exact hdeps.2.2.2.2.2 | exact hdeps.2.2.2.2.2.2 | exact hdeps.2.2.2.2.2.2.2 | exact hdeps.2.2.2.2.2.2.2.2 | exact hdeps.2.2.2.2.2.2.2.2.2 | exact hdeps.2.2.2.2.2.2.2.2.2.2 | exact hdeps.2.2.2.2.2.2.2.2.2.2.2
      clear hdeps
      simp only [y20, fill, List.foldl_cons, List.foldl_nil, Act.put, List.setIfInBounds_toArray, List.set_cons_succ, List.set_cons_zero]
      go_wp2_with fail
      exact ⟨_, rfl, rfl, hBx, Below.refl _ _⟩
    case o22 =>
      intro ys wx hBx hdeps
      simp only [Deps, Region.binds, List.getD_cons_zero, List.getD_cons_succ, forall_const, and_true, true_and] at hdeps
      have y21 : ys 27 = .int .i64 0 := by first | exact hdeps | exact hdeps.1 | exact hdeps.2.1 | exact hdeps.2.2.1 | exact hdeps.2.2.2.1 | exact hdeps.2.2.2.2.1 | exact hdeps.2.2.2.2.2.1 | exact hdeps.2.2.2.2.2.2.1 | exact hdeps.2.2.2.2.2.2.2.1 | exact hdeps.2.2.2.2.2.2.2.2.1 | exact hdeps.2.2.2.2.2.2.2.2.2.1 | exact hdeps.2.2.2.2.2.2.2.2.2.2.1 | exact hdeps.2.2.2.2.2.2.2.2.2.2.2.1 | exact hdeps.2 | exact hdeps.2.2 | exact hdeps.2.2.2 | exact hdeps.2.2.2.2 | exact hdeps.2.2.2.2.2 | exact hdeps.2.2.2.2.2.2 | exact hdeps.2.2.2.2.2.2.2 | exact hdeps.2.2.2.2.2.2.2.2 | exact hdeps.2.2.2.2.2.2.2.2.2 | exact hdeps.2.2.2.2.2.2.2.2.2.2 | exact hdeps.2.2.2.2.2.2.2.2.2.2.2
      clear hdeps
      simp only [y21, fill, List.foldl_cons, List.foldl_nil, Act.put, List.setIfInBounds_toArray, List.set_cons_succ, List.set_cons_zero]
      go_wp2_with fail
      exact ⟨_, rfl, rfl, hBx, Below.refl _ _⟩
    case o23 =>
      intro ys wx hBx hdeps
      simp only [Deps, Region.binds, List.getD_cons_zero, List.getD_cons_succ, forall_const, and_true, true_and] at hdeps
      have y17 : ys 23 = .int .u8 (n : Int) := by first | exact hdeps | exact hdeps.1 | exact hdeps.2.1 | exact hdeps.2.2.1 | exact hdeps.2.2.2.1 | exact hdeps.2.2.2.2.1 | exact hdeps.2.2.2.2.2.1 | exact hdeps.2.2.2.2.2.2.1 | exact hdeps.2.2.2.2.2.2.2.1 | exact hdeps.2.2.2.2.2.2.2.2.1 | exact hdeps.2.2.2.2.2.2.2.2.2.1 | exact hdeps.2.2.2.2.2.2.2.2.2.2.1 | exact hdeps.2.2.2.2.2.2.2.2.2.2.2.1 | exact hdeps.2 | exact hdeps.2.2 | exact hdeps.2.2.2 | exact hdeps.2.2.2.2 | exact hdeps.2.2.2.2.2 | exact hdeps.2.2.2.2.2.2 | exact hdeps.2.2.2.2.2.2.2 | exact hdeps.2.2.2.2.2.2.2.2 | exact hdeps.2.2.2.2.2.2.2.2.2 | exact hdeps.2.2.2.2.2.2.2.2.2.2 | exact hdeps.2.2.2.2.2.2.2.2.2.2.2
      have y22 : ys 28 = .int .u8 0 := by first | exact hdeps | exact hdeps.1 | exact hdeps.2.1 | exact hdeps.2.2.1 | exact hdeps.2.2.2.1 | exact hdeps.2.2.2.2.1 | exact hdeps.2.2.2.2.2.1 | exact hdeps.2.2.2.2.2.2.1 | exact hdeps.2.2.2.2.2.2.2.1 | exact hdeps.2.2.2.2.2.2.2.2.1 | exact hdeps.2.2.2.2.2.2.2.2.2.1 | exact hdeps.2.2.2.2.2.2.2.2.2.2.1 | exact hdeps.2.2.2.2.2.2.2.2.2.2.2.1 | exact hdeps.2 | exact hdeps.2.2 | exact hdeps.2.2.2 | exact hdeps.2.2.2.2 | exact hdeps.2.2.2.2.2 | exact hdeps.2.2.2.2.2.2 | exact hdeps.2.2.2.2.2.2.2 | exact hdeps.2.2.2.2.2.2.2.2 | exact hdeps.2.2.2.2.2.2.2.2.2 | exact hdeps.2.2.2.2.2.2.2.2.2.2 | exact hdeps.2.2.2.2.2.2.2.2.2.2.2
      clear hdeps
      simp only [y17, y22, fill, List.foldl_cons, List.foldl_nil, Act.put, List.setIfInBounds_toArray, List.set_cons_succ, List.set_cons_zero]
      go_wp2_with fail
      have hr := row_new wx 5 [u8 n, u8 0]
      simp only [List.map_cons, List.map_nil, HN8.out, H08.out] at hr
      exact ⟨_, rfl, ⟨_, _, rfl, hr⟩, hBx.alloc hBx.size _, Geom.bel_alloc _ _⟩
    case o24 =>
      intro ys wx hBx hdeps
      simp only [Deps, Region.binds, List.getD_cons_zero, List.getD_cons_succ, forall_const, and_true, true_and] at hdeps
      have z23 : BytesAt wx (ys 29) ([u8 n, u8 0]) := by first | exact hdeps | exact hdeps.1 | exact hdeps.2.1 | exact hdeps.2.2.1 | exact hdeps.2.2.2.1 | exact hdeps.2.2.2.2.1 | exact hdeps.2.2.2.2.2.1 | exact hdeps.2.2.2.2.2.2.1 | exact hdeps.2.2.2.2.2.2.2.1 | exact hdeps.2.2.2.2.2.2.2.2.1 | exact hdeps.2.2.2.2.2.2.2.2.2.1 | exact hdeps.2.2.2.2.2.2.2.2.2.2.1 | exact hdeps.2.2.2.2.2.2.2.2.2.2.2.1 | exact hdeps.2 | exact hdeps.2.2 | exact hdeps.2.2.2 | exact hdeps.2.2.2.2 | exact hdeps.2.2.2.2.2 | exact hdeps.2.2.2.2.2.2 | exact hdeps.2.2.2.2.2.2.2 | exact hdeps.2.2.2.2.2.2.2.2 | exact hdeps.2.2.2.2.2.2.2.2.2 | exact hdeps.2.2.2.2.2.2.2.2.2.2 | exact hdeps.2.2.2.2.2.2.2.2.2.2.2
      obtain ⟨g23, c23, y23, r23⟩ := z23
      clear hdeps
      have htx := r23.text (P := Tryz.prog) 55 9 5 c23 Tryz.underlying55 Tryz.underlying5 Tryz.underlying9 2 rfl
      rw [show (⟨[u8 n, u8 0].toArray⟩ : ByteArray) = T4 from HT4.out] at htx
      simp only [y23, fill, List.foldl_cons, List.foldl_nil, Act.put, List.setIfInBounds_toArray, List.set_cons_succ, List.set_cons_zero]
      go_wp2_with fail
      exact ⟨_, rfl, rfl, hBx, Below.refl _ _⟩
    case o25 =>
      intro ys wx hBx hdeps
      simp only [Deps, Region.binds, List.getD_cons_zero, List.getD_cons_succ, forall_const, and_true, true_and] at hdeps
      have y12 : ys 18 = .string (T1 ++ T2 ++ T3) := by first | exact hdeps | exact hdeps.1 | exact hdeps.2.1 | exact hdeps.2.2.1 | exact hdeps.2.2.2.1 | exact hdeps.2.2.2.2.1 | exact hdeps.2.2.2.2.2.1 | exact hdeps.2.2.2.2.2.2.1 | exact hdeps.2.2.2.2.2.2.2.1 | exact hdeps.2.2.2.2.2.2.2.2.1 | exact hdeps.2.2.2.2.2.2.2.2.2.1 | exact hdeps.2.2.2.2.2.2.2.2.2.2.1 | exact hdeps.2.2.2.2.2.2.2.2.2.2.2.1 | exact hdeps.2 | exact hdeps.2.2 | exact hdeps.2.2.2 | exact hdeps.2.2.2.2 | exact hdeps.2.2.2.2.2 | exact hdeps.2.2.2.2.2.2 | exact hdeps.2.2.2.2.2.2.2 | exact hdeps.2.2.2.2.2.2.2.2 | exact hdeps.2.2.2.2.2.2.2.2.2 | exact hdeps.2.2.2.2.2.2.2.2.2.2 | exact hdeps.2.2.2.2.2.2.2.2.2.2.2
      have y24 : ys 30 = .string T4 := by first | exact hdeps | exact hdeps.1 | exact hdeps.2.1 | exact hdeps.2.2.1 | exact hdeps.2.2.2.1 | exact hdeps.2.2.2.2.1 | exact hdeps.2.2.2.2.2.1 | exact hdeps.2.2.2.2.2.2.1 | exact hdeps.2.2.2.2.2.2.2.1 | exact hdeps.2.2.2.2.2.2.2.2.1 | exact hdeps.2.2.2.2.2.2.2.2.2.1 | exact hdeps.2.2.2.2.2.2.2.2.2.2.1 | exact hdeps.2.2.2.2.2.2.2.2.2.2.2.1 | exact hdeps.2 | exact hdeps.2.2 | exact hdeps.2.2.2 | exact hdeps.2.2.2.2 | exact hdeps.2.2.2.2.2 | exact hdeps.2.2.2.2.2.2 | exact hdeps.2.2.2.2.2.2.2 | exact hdeps.2.2.2.2.2.2.2.2 | exact hdeps.2.2.2.2.2.2.2.2.2 | exact hdeps.2.2.2.2.2.2.2.2.2.2 | exact hdeps.2.2.2.2.2.2.2.2.2.2.2
      clear hdeps
      simp only [y12, y24, fill, List.foldl_cons, List.foldl_nil, Act.put, List.setIfInBounds_toArray, List.set_cons_succ, List.set_cons_zero]
      go_wp2_with fail
      exact ⟨_, rfl, rfl, hBx, Below.refl _ _⟩
    case o26 =>
      intro ys wx hBx hdeps
      clear hdeps
      simp only [fill, List.foldl_cons, List.foldl_nil, Act.put, List.setIfInBounds_toArray, List.set_cons_succ, List.set_cons_zero]
      go_wp2_with fail
      exact ⟨_, rfl, rfl, hBx, Below.refl _ _⟩
    case o27 =>
      intro ys wx hBx hdeps
      simp only [Deps, Region.binds, List.getD_cons_zero, List.getD_cons_succ, forall_const, and_true, true_and] at hdeps
      have y26 : ys 32 = .pointer (some ⟨w.heap.size, 3, none⟩) := by first | exact hdeps | exact hdeps.1 | exact hdeps.2.1 | exact hdeps.2.2.1 | exact hdeps.2.2.2.1 | exact hdeps.2.2.2.2.1 | exact hdeps.2.2.2.2.2.1 | exact hdeps.2.2.2.2.2.2.1 | exact hdeps.2.2.2.2.2.2.2.1 | exact hdeps.2.2.2.2.2.2.2.2.1 | exact hdeps.2.2.2.2.2.2.2.2.2.1 | exact hdeps.2.2.2.2.2.2.2.2.2.2.1 | exact hdeps.2.2.2.2.2.2.2.2.2.2.2.1 | exact hdeps.2 | exact hdeps.2.2 | exact hdeps.2.2.2 | exact hdeps.2.2.2.2 | exact hdeps.2.2.2.2.2 | exact hdeps.2.2.2.2.2.2 | exact hdeps.2.2.2.2.2.2.2 | exact hdeps.2.2.2.2.2.2.2.2 | exact hdeps.2.2.2.2.2.2.2.2.2 | exact hdeps.2.2.2.2.2.2.2.2.2.2 | exact hdeps.2.2.2.2.2.2.2.2.2.2.2
      clear hdeps
      have b3 := (HV.out.below hBx HV.out.lt).cell (j := 3) rfl
      simp only [y26, fill, List.foldl_cons, List.foldl_nil, Act.put, List.setIfInBounds_toArray, List.set_cons_succ, List.set_cons_zero]
      go_wp2_with fail
      exact ⟨_, rfl, rfl, hBx, Below.refl _ _⟩
    case o28 =>
      intro ys wx hBx hdeps
      simp only [Deps, Region.binds, List.getD_cons_zero, List.getD_cons_succ, forall_const, and_true, true_and] at hdeps
      have y25 : ys 31 = .string (T1 ++ T2 ++ T3 ++ T4) := by first | exact hdeps | exact hdeps.1 | exact hdeps.2.1 | exact hdeps.2.2.1 | exact hdeps.2.2.2.1 | exact hdeps.2.2.2.2.1 | exact hdeps.2.2.2.2.2.1 | exact hdeps.2.2.2.2.2.2.1 | exact hdeps.2.2.2.2.2.2.2.1 | exact hdeps.2.2.2.2.2.2.2.2.1 | exact hdeps.2.2.2.2.2.2.2.2.2.1 | exact hdeps.2.2.2.2.2.2.2.2.2.2.1 | exact hdeps.2.2.2.2.2.2.2.2.2.2.2.1 | exact hdeps.2 | exact hdeps.2.2 | exact hdeps.2.2.2 | exact hdeps.2.2.2.2 | exact hdeps.2.2.2.2.2 | exact hdeps.2.2.2.2.2.2 | exact hdeps.2.2.2.2.2.2.2 | exact hdeps.2.2.2.2.2.2.2.2 | exact hdeps.2.2.2.2.2.2.2.2.2 | exact hdeps.2.2.2.2.2.2.2.2.2.2 | exact hdeps.2.2.2.2.2.2.2.2.2.2.2
      have y27 : ys 33 = .string B := by first | exact hdeps | exact hdeps.1 | exact hdeps.2.1 | exact hdeps.2.2.1 | exact hdeps.2.2.2.1 | exact hdeps.2.2.2.2.1 | exact hdeps.2.2.2.2.2.1 | exact hdeps.2.2.2.2.2.2.1 | exact hdeps.2.2.2.2.2.2.2.1 | exact hdeps.2.2.2.2.2.2.2.2.1 | exact hdeps.2.2.2.2.2.2.2.2.2.1 | exact hdeps.2.2.2.2.2.2.2.2.2.2.1 | exact hdeps.2.2.2.2.2.2.2.2.2.2.2.1 | exact hdeps.2 | exact hdeps.2.2 | exact hdeps.2.2.2 | exact hdeps.2.2.2.2 | exact hdeps.2.2.2.2.2 | exact hdeps.2.2.2.2.2.2 | exact hdeps.2.2.2.2.2.2.2 | exact hdeps.2.2.2.2.2.2.2.2 | exact hdeps.2.2.2.2.2.2.2.2.2 | exact hdeps.2.2.2.2.2.2.2.2.2.2 | exact hdeps.2.2.2.2.2.2.2.2.2.2.2
      clear hdeps
      simp only [y25, y27, fill, List.foldl_cons, List.foldl_nil, Act.put, List.setIfInBounds_toArray, List.set_cons_succ, List.set_cons_zero]
      go_wp2_with fail
      exact ⟨_, rfl, rfl, hBx, Below.refl _ _⟩
    case o29 =>
      intro ys wx hBx hdeps
      simp only [Deps, Region.binds, List.getD_cons_zero, List.getD_cons_succ, forall_const, and_true, true_and] at hdeps
      have y28 : ys 34 = .string (T1 ++ T2 ++ T3 ++ T4 ++ B) := by first | exact hdeps | exact hdeps.1 | exact hdeps.2.1 | exact hdeps.2.2.1 | exact hdeps.2.2.2.1 | exact hdeps.2.2.2.2.1 | exact hdeps.2.2.2.2.2.1 | exact hdeps.2.2.2.2.2.2.1 | exact hdeps.2.2.2.2.2.2.2.1 | exact hdeps.2.2.2.2.2.2.2.2.1 | exact hdeps.2.2.2.2.2.2.2.2.2.1 | exact hdeps.2.2.2.2.2.2.2.2.2.2.1 | exact hdeps.2.2.2.2.2.2.2.2.2.2.2.1 | exact hdeps.2 | exact hdeps.2.2 | exact hdeps.2.2.2 | exact hdeps.2.2.2.2 | exact hdeps.2.2.2.2.2 | exact hdeps.2.2.2.2.2.2 | exact hdeps.2.2.2.2.2.2.2 | exact hdeps.2.2.2.2.2.2.2.2 | exact hdeps.2.2.2.2.2.2.2.2.2 | exact hdeps.2.2.2.2.2.2.2.2.2.2 | exact hdeps.2.2.2.2.2.2.2.2.2.2.2
      clear hdeps
      simp only [y28, fill, List.foldl_cons, List.foldl_nil, Act.put, List.setIfInBounds_toArray, List.set_cons_succ, List.set_cons_zero]
      go_wp2_with fail
      exact ⟨_, rfl, rfl, hBx, Below.refl _ _⟩
  case done =>
    intro ys wx hBx hV
    have h5 : ys 5 = .string (T1 ++ T2 ++ T3 ++ T4 ++ B) := hV 29 (by decide)
    rw [← HS.out] at h5
    have HBx := Lib.hid (bel2 HB1.out hBx)
    clear hV hBx
    simp only [h5, fill, List.drop_succ_cons, List.drop_zero, List.foldl_cons, List.foldl_nil, Act.put, List.setIfInBounds_toArray, List.set_cons_succ, List.set_cons_zero]
    go_wp2_with (first
      | (go_at_call 61; (with_reducible refine (HF.out _).mono ?_); rintro e w3 ⟨rfl, hb3⟩)
      | (go_at_call 113; (with_reducible refine (HC.out _).mono ?_); rintro e w4 ⟨rfl, rfl⟩)
      | (go_at_call 112; (with_reducible refine (HPS.out _).mono ?_); rintro e w5 ⟨rfl, hb5⟩))
    go_ret
    rw [HE.out]
    exact ⟨rfl, bel2 (bel2 HBx.out hb3) hb5⟩
end Go.Proofs.YtcmjambbdfangaaGreat.Frame
/-
  What the document's own FrameBytes, FrameRead answer.
-/
set_option linter.unusedVariables false
set_option linter.unusedSimpArgs false
namespace Go.Proofs.YtcmjambbdfangaaGreat.Frame
open Go.RowKit
open CrcM (W)
open Crc (le4 sumOf vl wd putS)
open Flash (bs bs_size bs_list list_bs)
open Tup Bytes
open Go.Proofs.YtcmjambbdfangaaGreat.Region (fill Then Deps Each wp_region_is wp_region_is_tail wp_region_each wp_region_tail)

def bytesG (g : Geom.Gm) (f : Fr) : List UInt8 × Nat := bytesF g.page.toNat (Geom.rightG g) f
theorem bytesG_right {g : Geom.Gm} {f : Fr} (h : Geom.rightG g = false) : bytesG g f = ([], 1) := by unfold bytesG bytesF; rw [h]; rfl
theorem bytesG_kind {g : Geom.Gm} {f : Fr} (h : Geom.rightG g = true) (hk : f.kind < 1 ∨ 4 < f.kind) : bytesG g f = ([], 2) := by unfold bytesG bytesF; rw [h, if_neg (by simp), if_pos hk]
theorem bytesG_long {g : Geom.Gm} {f : Fr} (h : Geom.rightG g = true) (hk : ¬ (f.kind < 1 ∨ 4 < f.kind)) (hl : g.page.toNat - 15 < f.body.length) : bytesG g f = ([], 4) := by unfold bytesG bytesF; rw [h, if_neg (by simp), if_neg hk, if_pos hl]
theorem bytesG_ok {g : Geom.Gm} {f : Fr} (h : Geom.rightG g = true) (hk : ¬ (f.kind < 1 ∨ 4 < f.kind)) (hl : ¬ g.page.toNat - 15 < f.body.length) : bytesG g f = (page g.page.toNat f, 0) := by unfold bytesG bytesF; rw [h, if_neg (by simp), if_neg hk, if_neg hl]
theorem ret_tc {s t : ByteArray} {a b : Nat} (h1 : s = t) (h2 : a = b) : Ending.returned (.tuple #[.string s, .int .i64 (a : Int)]) = .returned (.tuple #[.string t, .int .i64 (b : Int)]) := by rw [h1, h2]
set_option maxRecDepth 100000 in
set_option maxHeartbeats 8000000 in
theorem refBytes_any (g : Geom.Gm) (f : Fr) (hs : f.body.length ≤ maxLen) (w : World) :
    Calls Tryz.prog 49 #[Geom.gV g, fV f] w fun e w' => e = .returned (.tuple #[.string (bs (bytesG g f).1), .int .i64 ((bytesG g f).2 : Int)]) ∧ Below w.heap.size w w' := by
  unfold maxLen at hs
  rcases hr : Geom.rightG g with _ | _
  · have HE := Lib.hid (bytesG_right (f := f) hr)
    have HR := Lib.hid (fun w => Geom.refRight_any g w)
    obtain ⟨gp, gs, gr⟩ := g
    obtain ⟨kd, a, b, body⟩ := f
    obtain ⟨B, hB⟩ : ∃ B, B = bs body := ⟨_, rfl⟩
    unfold Geom.gV at HR ⊢
    unfold fV
    simp only at hs ⊢
    rw [← hB]
    have HG := Lib.hid ((Var.new w 23 [.int .i64 gp, .int .i64 gs, .int .i64 gr]).alloc (.cells #[.int .i64 kd, .int .u32 (vl a), .int .u32 (vl b), .string B] 31))
    have HF := Lib.hid (Var.new (w.alloc (.cells #[.int .i64 gp, .int .i64 gs, .int .i64 gr] 23)) 31 [.int .i64 kd, .int .u32 (vl a), .int .u32 (vl b), .string B])
    have hsz1 : (w.alloc (.cells #[.int .i64 gp, .int .i64 gs, .int .i64 gr] 23)).heap.size = w.heap.size + 1 := by simp
    rw [hsz1] at HF
    obtain ⟨w1, hw1⟩ : ∃ w1, w1 = (w.alloc (.cells #[.int .i64 gp, .int .i64 gs, .int .i64 gr] 23)).alloc (.cells #[.int .i64 kd, .int .u32 (vl a), .int .u32 (vl b), .string B] 31) := ⟨_, rfl⟩
    have HB1 := Lib.hid (show Below w.heap.size w w1 by rw [hw1]; exact bel2 (Geom.bel_alloc _ _) (Geom.bel_alloc _ _))
    have HG1 := Lib.hid (show Var w1 w.heap.size 23 [.int .i64 gp, .int .i64 gs, .int .i64 gr] by rw [hw1]; exact HG.out)
    have HF1 := Lib.hid (show Var w1 (w.heap.size + 1) 31 [.int .i64 kd, .int .u32 (vl a), .int .u32 (vl b), .string B] by rw [hw1]; exact HF.out)
    rw [hr] at HR
    clear hr
    go_enter Tryz.func49, Tryz.ntmps49
    go_wp2_with (go_at_call 87; (with_reducible refine (HR.out _).mono ?_); rintro e w3 ⟨rfl, hn3⟩)
    go_ret2
    rw [HE.out]
    exact ⟨rfl, bel2 (bel2 (bel2 (Geom.bel_alloc _ _) (Geom.bel_alloc _ _)) (Below.refl _ _)) hn3⟩
  by_cases hk : f.kind < 1 ∨ 4 < f.kind
  · have HE := Lib.hid (bytesG_kind hr hk)
    have hcase : (decide (f.kind < 1) = true) ∨ (decide (f.kind < 1) = false ∧ decide (4 < f.kind) = true) := by
      by_cases h1 : f.kind < 1
      · exact .inl (decide_eq_true h1)
      · exact .inr ⟨decide_eq_false h1, decide_eq_true (by omega)⟩
    have HR := Lib.hid (fun w => Geom.refRight_any g w)
    obtain ⟨gp, gs, gr⟩ := g
    obtain ⟨kd, a, b, body⟩ := f
    obtain ⟨B, hB⟩ : ∃ B, B = bs body := ⟨_, rfl⟩
    unfold Geom.gV at HR ⊢
    unfold fV
    simp only at hs ⊢
    rw [← hB]
    have HG := Lib.hid ((Var.new w 23 [.int .i64 gp, .int .i64 gs, .int .i64 gr]).alloc (.cells #[.int .i64 kd, .int .u32 (vl a), .int .u32 (vl b), .string B] 31))
    have HF := Lib.hid (Var.new (w.alloc (.cells #[.int .i64 gp, .int .i64 gs, .int .i64 gr] 23)) 31 [.int .i64 kd, .int .u32 (vl a), .int .u32 (vl b), .string B])
    have hsz1 : (w.alloc (.cells #[.int .i64 gp, .int .i64 gs, .int .i64 gr] 23)).heap.size = w.heap.size + 1 := by simp
    rw [hsz1] at HF
    obtain ⟨w1, hw1⟩ : ∃ w1, w1 = (w.alloc (.cells #[.int .i64 gp, .int .i64 gs, .int .i64 gr] 23)).alloc (.cells #[.int .i64 kd, .int .u32 (vl a), .int .u32 (vl b), .string B] 31) := ⟨_, rfl⟩
    have HB1 := Lib.hid (show Below w.heap.size w w1 by rw [hw1]; exact bel2 (Geom.bel_alloc _ _) (Geom.bel_alloc _ _))
    have HG1 := Lib.hid (show Var w1 w.heap.size 23 [.int .i64 gp, .int .i64 gs, .int .i64 gr] by rw [hw1]; exact HG.out)
    have HF1 := Lib.hid (show Var w1 (w.heap.size + 1) 31 [.int .i64 kd, .int .u32 (vl a), .int .u32 (vl b), .string B] by rw [hw1]; exact HF.out)
    rw [hr] at HR
    clear hr hk hB
    simp only at hcase
    rcases hcase with d1 | ⟨d1, d2⟩
    all_goals
      go_enter Tryz.func49, Tryz.ntmps49
      go_wp2_with (go_at_call 87; (with_reducible refine (HR.out _).mono ?_); rintro e w3 ⟨rfl, hn3⟩; have hn4 : Below w1.heap.size w1 w3 := (by rw [hw1]; exact hn3); have k0 := (HF1.out.below hn4 HF1.out.lt).cell (j := 0) rfl; have k3 := (HF1.out.below hn4 HF1.out.lt).cell (j := 3) rfl; have k1 := (HF1.out.below hn4 HF1.out.lt).cell (j := 1) rfl; have k2 := (HF1.out.below hn4 HF1.out.lt).cell (j := 2) rfl; have g0 := (HG1.out.below hn4 HG1.out.lt).cell (j := 0) rfl; have HN4 := Lib.hid hn4; clear hn3 hn4)
      go_ret2
      rw [HE.out]
      exact ⟨rfl, bel2 HB1.out HN4.out⟩
  have d1 : decide (f.kind < 1) = false := decide_eq_false (by omega)
  have d2 : decide (4 < f.kind) = false := decide_eq_false (by omega)
  have hsm := Geom.right_small.mp hr
  have HRM := Lib.hid (fun w => Geom.refRoom_any g hsm w)
  obtain ⟨p0, p1, -⟩ := hsm
  by_cases hl : g.page.toNat - 15 < f.body.length
  · have HE := Lib.hid (bytesG_long hr hk hl)
    have HR := Lib.hid (fun w => Geom.refRight_any g w)
    obtain ⟨gp, gs, gr⟩ := g
    obtain ⟨kd, a, b, body⟩ := f
    obtain ⟨B, hB⟩ : ∃ B, B = bs body := ⟨_, rfl⟩
    unfold Geom.gV at HR ⊢
    unfold fV
    simp only at hs ⊢
    rw [← hB]
    have HG := Lib.hid ((Var.new w 23 [.int .i64 gp, .int .i64 gs, .int .i64 gr]).alloc (.cells #[.int .i64 kd, .int .u32 (vl a), .int .u32 (vl b), .string B] 31))
    have HF := Lib.hid (Var.new (w.alloc (.cells #[.int .i64 gp, .int .i64 gs, .int .i64 gr] 23)) 31 [.int .i64 kd, .int .u32 (vl a), .int .u32 (vl b), .string B])
    have hsz1 : (w.alloc (.cells #[.int .i64 gp, .int .i64 gs, .int .i64 gr] 23)).heap.size = w.heap.size + 1 := by simp
    rw [hsz1] at HF
    obtain ⟨w1, hw1⟩ : ∃ w1, w1 = (w.alloc (.cells #[.int .i64 gp, .int .i64 gs, .int .i64 gr] 23)).alloc (.cells #[.int .i64 kd, .int .u32 (vl a), .int .u32 (vl b), .string B] 31) := ⟨_, rfl⟩
    have HB1 := Lib.hid (show Below w.heap.size w w1 by rw [hw1]; exact bel2 (Geom.bel_alloc _ _) (Geom.bel_alloc _ _))
    have HG1 := Lib.hid (show Var w1 w.heap.size 23 [.int .i64 gp, .int .i64 gs, .int .i64 gr] by rw [hw1]; exact HG.out)
    have HF1 := Lib.hid (show Var w1 (w.heap.size + 1) 31 [.int .i64 kd, .int .u32 (vl a), .int .u32 (vl b), .string B] by rw [hw1]; exact HF.out)
    simp only at hl p0 p1 d1 d2
    obtain ⟨n, hn⟩ : ∃ n, n = body.length := ⟨_, rfl⟩
    rw [← hn] at hl hs
    have hBn : B.size = n := by rw [hB, bs_size, hn]
    have d3 : decide (gp - 15 < (n : Int)) = true := decide_eq_true (by omega)
    unfold Geom.gV Geom.roomG at HRM
    rw [hr] at HR
    clear hr hk hB hn
    go_enter Tryz.func49, Tryz.ntmps49
    go_wp2_with (go_at_call 87; (with_reducible refine (HR.out _).mono ?_); rintro e w3 ⟨rfl, hn3⟩; have hn4 : Below w1.heap.size w1 w3 := (by rw [hw1]; exact hn3); have k0 := (HF1.out.below hn4 HF1.out.lt).cell (j := 0) rfl; have k3 := (HF1.out.below hn4 HF1.out.lt).cell (j := 3) rfl; have k1 := (HF1.out.below hn4 HF1.out.lt).cell (j := 1) rfl; have k2 := (HF1.out.below hn4 HF1.out.lt).cell (j := 2) rfl; have g0 := (HG1.out.below hn4 HG1.out.lt).cell (j := 0) rfl; have HN4 := Lib.hid hn4; clear hn3 hn4)
    have HG3 := Lib.hid (HG1.out.below HN4.out HG1.out.lt)
    have HF3 := Lib.hid (HF1.out.below HN4.out HF1.out.lt)
    refine wp_region_is [17, 18, 19, 20, 21, 22] (fun w' => Below w3.heap.size w3 w')
      [.pointer (some ⟨w.heap.size + 1, 3, none⟩), .string B, .int .i64 (n : Int), .agg #[.int .i64 gp, .int .i64 gs, .int .i64 gr], .int .i64 (gp - 15), .bool true] (by kernel_rfl) (by kernel_rfl) rfl (by decide) (by simp) (Below.refl _ _).drew ?each ?done
    case each =>
      simp only [Each]
      repeat' (first | exact trivial | refine And.intro ?_ ?_)
      all_goals
        intro ys wx hBx hdeps
        simp only [Deps, Region.binds, List.getD_cons_zero, List.getD_cons_succ, forall_const, and_true] at hdeps
        have q3 := (HF3.out.below hBx HF3.out.lt).cell (j := 3) rfl
        have q0 := (HG3.out.below hBx HG3.out.lt).cell (j := 0) rfl
        have q1 := (HG3.out.below hBx HG3.out.lt).cell (j := 1) rfl
        have q2 := (HG3.out.below hBx HG3.out.lt).cell (j := 2) rfl
        simp only [hdeps, fill, List.foldl_cons, List.foldl_nil, Act.put, List.setIfInBounds_toArray, List.set_cons_succ, List.set_cons_zero]
        first
          | (go_wp2_with fail; exact ⟨_, rfl, rfl, hBx, Below.refl _ _⟩)
          | (go_wp2_with (go_at_call 9; (with_reducible refine (HRM.out _).mono ?_); rintro e w3 ⟨rfl, hm⟩); exact ⟨_, rfl, rfl, hBx.trans (hm.mono hBx.size), hm⟩)
    case done =>
      intro ys wx hBx hV
      have h22 : ys 22 = .bool true := hV 5 (by decide)
      simp only [h22, fill, List.drop_succ_cons, List.drop_zero, List.foldl_cons, List.foldl_nil, Act.put, List.setIfInBounds_toArray, List.set_cons_succ, List.set_cons_zero]
      go_wp2
      go_ret2
      rw [HE.out]
      exact ⟨rfl, bel2 (bel2 HB1.out HN4.out) hBx⟩
  · have HE := Lib.hid (bytesG_ok hr hk hl)
    have hok : f.Ok g.page.toNat := ⟨by omega, by omega, by omega, by omega, by omega⟩
    have HPG := Lib.hid (fun w => refPage_any g.page.toNat f hok w)
    rw [show ((g.page.toNat : Nat) : Int) = g.page by omega] at HPG
    have HR := Lib.hid (fun w => Geom.refRight_any g w)
    obtain ⟨gp, gs, gr⟩ := g
    obtain ⟨kd, a, b, body⟩ := f
    obtain ⟨B, hB⟩ : ∃ B, B = bs body := ⟨_, rfl⟩
    unfold Geom.gV at HR ⊢
    unfold fV
    simp only at hs ⊢
    rw [← hB]
    have HG := Lib.hid ((Var.new w 23 [.int .i64 gp, .int .i64 gs, .int .i64 gr]).alloc (.cells #[.int .i64 kd, .int .u32 (vl a), .int .u32 (vl b), .string B] 31))
    have HF := Lib.hid (Var.new (w.alloc (.cells #[.int .i64 gp, .int .i64 gs, .int .i64 gr] 23)) 31 [.int .i64 kd, .int .u32 (vl a), .int .u32 (vl b), .string B])
    have hsz1 : (w.alloc (.cells #[.int .i64 gp, .int .i64 gs, .int .i64 gr] 23)).heap.size = w.heap.size + 1 := by simp
    rw [hsz1] at HF
    obtain ⟨w1, hw1⟩ : ∃ w1, w1 = (w.alloc (.cells #[.int .i64 gp, .int .i64 gs, .int .i64 gr] 23)).alloc (.cells #[.int .i64 kd, .int .u32 (vl a), .int .u32 (vl b), .string B] 31) := ⟨_, rfl⟩
    have HB1 := Lib.hid (show Below w.heap.size w w1 by rw [hw1]; exact bel2 (Geom.bel_alloc _ _) (Geom.bel_alloc _ _))
    have HG1 := Lib.hid (show Var w1 w.heap.size 23 [.int .i64 gp, .int .i64 gs, .int .i64 gr] by rw [hw1]; exact HG.out)
    have HF1 := Lib.hid (show Var w1 (w.heap.size + 1) 31 [.int .i64 kd, .int .u32 (vl a), .int .u32 (vl b), .string B] by rw [hw1]; exact HF.out)
    unfold fV at HPG
    simp only at hl p0 p1 d1 d2 HPG
    rw [← hB] at HPG
    obtain ⟨n, hn⟩ : ∃ n, n = body.length := ⟨_, rfl⟩
    rw [← hn] at hl hs
    have hBn : B.size = n := by rw [hB, bs_size, hn]
    have d3 : decide (gp - 15 < (n : Int)) = false := decide_eq_false (by omega)
    unfold Geom.gV Geom.roomG at HRM
    rw [hr] at HR
    clear hr hk hB hn hok
    generalize page gp.toNat ⟨kd, a, b, body⟩ = PGE at *
    go_enter Tryz.func49, Tryz.ntmps49
    go_wp2_with (go_at_call 87; (with_reducible refine (HR.out _).mono ?_); rintro e w3 ⟨rfl, hn3⟩; have hn4 : Below w1.heap.size w1 w3 := (by rw [hw1]; exact hn3); have k0 := (HF1.out.below hn4 HF1.out.lt).cell (j := 0) rfl; have k3 := (HF1.out.below hn4 HF1.out.lt).cell (j := 3) rfl; have k1 := (HF1.out.below hn4 HF1.out.lt).cell (j := 1) rfl; have k2 := (HF1.out.below hn4 HF1.out.lt).cell (j := 2) rfl; have g0 := (HG1.out.below hn4 HG1.out.lt).cell (j := 0) rfl; have HN4 := Lib.hid hn4; clear hn3 hn4)
    have HG3 := Lib.hid (HG1.out.below HN4.out HG1.out.lt)
    have HF3 := Lib.hid (HF1.out.below HN4.out HF1.out.lt)
    refine wp_region_is [17, 18, 19, 20, 21, 22] (fun w' => Below w3.heap.size w3 w')
      [.pointer (some ⟨w.heap.size + 1, 3, none⟩), .string B, .int .i64 (n : Int), .agg #[.int .i64 gp, .int .i64 gs, .int .i64 gr], .int .i64 (gp - 15), .bool false] (by kernel_rfl) (by kernel_rfl) rfl (by decide) (by simp) (Below.refl _ _).drew ?each ?done
    case each =>
      simp only [Each]
      repeat' (first | exact trivial | refine And.intro ?_ ?_)
      all_goals
        intro ys wx hBx hdeps
        simp only [Deps, Region.binds, List.getD_cons_zero, List.getD_cons_succ, forall_const, and_true] at hdeps
        have q3 := (HF3.out.below hBx HF3.out.lt).cell (j := 3) rfl
        have q0 := (HG3.out.below hBx HG3.out.lt).cell (j := 0) rfl
        have q1 := (HG3.out.below hBx HG3.out.lt).cell (j := 1) rfl
        have q2 := (HG3.out.below hBx HG3.out.lt).cell (j := 2) rfl
        simp only [hdeps, fill, List.foldl_cons, List.foldl_nil, Act.put, List.setIfInBounds_toArray, List.set_cons_succ, List.set_cons_zero]
        first
          | (go_wp2_with fail; exact ⟨_, rfl, rfl, hBx, Below.refl _ _⟩)
          | (go_wp2_with (go_at_call 9; (with_reducible refine (HRM.out _).mono ?_); rintro e w3 ⟨rfl, hm⟩); exact ⟨_, rfl, rfl, hBx.trans (hm.mono hBx.size), hm⟩)
    case done =>
      intro ys wx hBx hV
      have h22 : ys 22 = .bool false := hV 5 (by decide)
      have q0 := (HG3.out.below hBx HG3.out.lt).cell (j := 0) rfl
      have p0x := (HF3.out.below hBx HF3.out.lt).cell (j := 0) rfl
      have p1x := (HF3.out.below hBx HF3.out.lt).cell (j := 1) rfl
      have p2x := (HF3.out.below hBx HF3.out.lt).cell (j := 2) rfl
      have p3x := (HF3.out.below hBx HF3.out.lt).cell (j := 3) rfl
      have HBx := Lib.hid (bel2 (bel2 HB1.out HN4.out) hBx)
      clear hBx hV
      simp only [h22, fill, List.drop_succ_cons, List.drop_zero, List.foldl_cons, List.foldl_nil, Act.put, List.setIfInBounds_toArray, List.set_cons_succ, List.set_cons_zero]
      go_wp2_with (go_at_call 88; (with_reducible refine (HPG.out _).mono ?_); rintro e w5 ⟨rfl, hn5⟩)
      go_ret2
      rw [HE.out]
      exact ⟨rfl, bel2 HBx.out hn5⟩
end Go.Proofs.YtcmjambbdfangaaGreat.Frame
