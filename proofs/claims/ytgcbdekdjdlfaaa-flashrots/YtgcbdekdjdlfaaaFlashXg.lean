/-
  The landed device: Rot, New.
-/
import Derived.Test.YtgcbdekdjdlfaaaFlashXf
set_option linter.unusedVariables false
set_option linter.unusedSimpArgs false
namespace Go.Proofs.Ytgcbdekdjdlfaaa.Flash
open Go.RowKit
open Go.Proofs.Ytgcbdekdjdlfaaa.Own
open Tup Bytes Foot
open Go.Proofs.Ytgcbdekdjdlfaaa.Region (fill Then Deps Each wp_region_tail)

set_option maxRecDepth 100000 in
set_option maxHeartbeats 4000000 in
theorem atRot_any {w : World} {p : Nat} {d : Dev} {bB cap : Nat} {wv : Value} {fz : Nat} {E : List Ent} (h : FAt w p d bB cap wv fz E) (hd : d.Ok) (q k : Int) (x : UInt8) :
    Calls Try.prog 33 #[ptr p, .int .i64 q, .int .i64 k, .int .u8 (x.toNat : Int)] w fun e w' => e = .returned (.int .i64 ((rotD d q k x).1 : Int)) ∧ FHas w' p (rotD d q k x).2 (footF p bB wv E) ∧ Grows (· = bB) w w' := by
  have c0 := h.var.cell (j := 0) rfl
  have hpl := h.var.lt
  have HC0 := Lib.hid (fun wx (hb : Below w.heap.size w wx) => hb.cell (p := ⟨p, 0, none⟩) hpl |>.trans c0)
  have HA := Lib.hid h
  have HH := Lib.hid (fun w' (hb : Below w.heap.size w w') q => atHas_any (h.below hb) hd q)
  unfold ptr at HH ⊢
  rcases hh : d.has q with _ | _
  · have HHq := Lib.hid (fun w' hb => HH.out w' hb q)
    rw [hh] at HHq
    have HE := Lib.hid (show rotD d q k x = (1, d) by unfold rotD; rw [if_pos (.inl hh)])
    clear h hh HH hd c0 hpl
    go_enter Try.func33, Try.ntmps33
    go_wp2_with (go_at_call 45; (with_reducible refine (HHq.out _ (Below.refl _ _)).mono ?_); rintro e w4 ⟨rfl, hb4⟩)
    go_ret
    rw [HE.out]
    exact ⟨rfl, ⟨_, _, _, _, _, HA.out.below hb4, rfl⟩, .of_below hb4⟩
  · obtain ⟨i1, i2⟩ := has_lt hh
    obtain ⟨q, rfl⟩ : ∃ k : Nat, q = (k : Int) := ⟨q.toNat, by omega⟩
    rw [Int.toNat_natCast] at i1
    have HHq := Lib.hid (fun w' hb => HH.out w' hb (q : Int))
    rw [hh] at HHq
    rcases rot_cases d k with ⟨e1, e2⟩ | ⟨e1, e2, e3⟩ | ⟨e1, e2, e3, e4⟩
    · have HE := Lib.hid (show rotD d q k x = (1, d) by unfold rotD; rw [if_pos (.inr e2)])
      clear h hh HH hd i1 i2 e2 c0 hpl
      go_enter Try.func33, Try.ntmps33
      go_wp2_with (go_at_call 45; (with_reducible refine (HHq.out _ (Below.refl _ _)).mono ?_); rintro e w4 ⟨rfl, hb4⟩; have d0 := HC0.out _ hb4)
      go_ret
      rw [HE.out]
      exact ⟨rfl, ⟨_, _, _, _, _, HA.out.below hb4, rfl⟩, .of_below hb4⟩
    · have HE := Lib.hid (show rotD d q k x = (1, d) by unfold rotD; rw [if_pos (.inr e3)])
      clear h hh HH hd i1 i2 e3 c0 hpl
      go_enter Try.func33, Try.ntmps33
      go_wp2_with (go_at_call 45; (with_reducible refine (HHq.out _ (Below.refl _ _)).mono ?_); rintro e w4 ⟨rfl, hb4⟩; have d0 := HC0.out _ hb4)
      go_ret
      rw [HE.out]
      exact ⟨rfl, ⟨_, _, _, _, _, HA.out.below hb4, rfl⟩, .of_below hb4⟩
    · obtain ⟨k, rfl⟩ : ∃ j : Nat, k = (j : Int) := ⟨k.toNat, by omega⟩
      have e5 : decide (d.pg ≤ k) = false := by simp; omega
      have hkp : k < d.pg := by omega
      have HE := Lib.hid (show rotD d q k x = (0, { d with img := d.img.set (q * d.pg + k) (d.img.getD (q * d.pg + k) 0 ^^^ x) }) by rw [rot_ok i1 hkp, modify_set])
      have hpg := hd.page i1
      have HPL := Lib.hid (show q * d.pg + k < d.img.length by omega)
      have hp1 := hd.p1
      obtain ⟨y, hy⟩ : ∃ y, y = d.img.getD (q * d.pg + k) 0 := ⟨_, rfl⟩
      obtain ⟨z, hz⟩ : ∃ z, z = y ^^^ x := ⟨_, rfl⟩
      have hxr : bits .xor .u8 (y.toNat : Int) (x.toNat : Int) = (z.toNat : Int) := by rw [hz]; exact xor_u8 y x
      rw [← hy, ← hz] at HE
      have HS := Lib.hid (fun w' (hb : Below w.heap.size w w') => atStands_any (h.below hb) hd q i1)
      have HR := Lib.hid (fun w' (hb : Below w.heap.size w w') => show w'.cell? ⟨bB, q * d.pg + k, none⟩ = some (.int .u8 (y.toNat : Int)) ∧ w'.frozen? ⟨bB, q * d.pg + k, none⟩ = false by rw [hy]; exact (h.below hb).row _ (by omega))
      unfold ptr at HS
      have HI := Lib.hid (fun w' (hb : Below w.heap.size w w') => show FAt (w'.setCell ⟨bB, q * d.pg + k, none⟩ (.int .u8 (z.toNat : Int))) p { d with img := d.img.set (q * d.pg + k) z } bB cap wv fz E from
        (h.below hb).turnB (by simp) ((h.below hb).row.set (q * d.pg + k) z (by omega)) (Grows.set _ _ _ rfl))
      clear h hh HH hd i1 i2 e3 e4 c0 hpl hy hz hpg
      go_enter Try.func33, Try.ntmps33
      go_wp2_with (first
        | (go_at_call 45; (with_reducible refine (HHq.out _ (Below.refl _ _)).mono ?_); rintro e w4 ⟨rfl, hb4⟩; have d0 := HC0.out _ hb4)
        | (go_at_call 48; (with_reducible refine (HS.out _ hb4).mono ?_); rintro e w5 ⟨rfl, k5, rfl⟩; have HB5 := Lib.hid (bel2 hb4 (below_drewN _ k5)); have g1 := (HR.out _ HB5.out).1; have g2 := (HR.out _ HB5.out).2))
      go_ret
      rw [HE.out]
      exact ⟨rfl, ⟨_, _, _, _, _, HI.out _ HB5.out, rfl⟩, (Grows.of_below HB5.out).trans (Grows.set (S := (· = bB)) _ _ _ rfl) (fun _ h => .inl h)⟩
theorem newD_img (pg pgs rgs : Nat) (im : List UInt8) {N : Nat} (hN : pg * pgs * rgs = N) (h : im.length ≤ N) : over (List.replicate N 255) 0 im = (newD pg pgs rgs im).img := by
  unfold over newD
  simp only [List.take_zero, List.nil_append, Nat.zero_add, List.drop_replicate]
  rw [hN]
theorem copyS {w : World} {B : Nat} {l : List UInt8} (h : Row8 w B l) (P n c : Nat) (s : ByteArray) (hs : s.size ≤ n) (hP : P + n ≤ l.length) :
    ∃ w9, (∀ ty, (Builtin.copy_ #[61, 9] ty #[.slice (some ⟨B, P, none⟩) n c, .string s]).run Try.prog w = .ok (goInt s.size) w9) ∧ Row8 w9 B (over l P s.data.toList) ∧ Grows (· = B) w w9 := by
  have hsl : s.data.toList.length = s.size := by simp
  obtain ⟨a, b⟩ := setCells_row h s.data.toList P (by omega)
  refine ⟨_, fun ty => ?_, a, b⟩
  have hst := run_storeCells_cells (P := Try.prog) B P (s.data.toList.map fun c : UInt8 => Value.int .u8 (c.toNat : Int)) 0 w
    (fun j hj => by rw [List.length_map, hsl] at hj; rw [Nat.add_zero, (h (P + j) (by omega)).1]; rfl)
    (fun j hj => by rw [List.length_map, hsl] at hj; rw [Nat.add_zero]; exact (h (P + j) (by omega)).2)
    (fun v hv => by obtain ⟨c, _, rfl⟩ := List.mem_map.1 hv; rfl)
  rw [Nat.add_zero] at hst
  have hmin : Nat.min s.size n = s.size := Nat.min_eq_left hs
  have htk : List.take s.size (List.map (fun b : UInt8 => Value.int IntKind.u8 (b.toNat : Int)) s.data.toList) = List.map (fun b : UInt8 => Value.int IntKind.u8 (b.toNat : Int)) s.data.toList := List.take_of_length_le (by rw [List.length_map, hsl]; exact Nat.le_refl _)
  have hu : Try.prog.underlying 61 = some (.slice 5) := Try.underlying61
  obtain ⟨i0, hi, hz0, hz1, hz2⟩ := info_parts info8
  simp [Builtin.copy_, run_underlying hu, Builtin.lenOf, Builtin.firstCells, sizeOf, typeInfo, hi, hz1, hmin]
  rw [htk, hst]
  simp [Result.andThen]
/-- the values of New's operations: its bytes are new -/
def NX (tab : List Value) (base N : Nat) : Nat → Value → World → Prop := fun i v w => if i = 3 then (∃ g0 c, v = .slice (some ⟨g0, 0, none⟩) N c ∧ N ≤ c ∧ Row8 w g0 (List.replicate N 255) ∧ base ≤ g0 ∧ g0 < w.heap.size) else v = tab.getD i undef
theorem NX.mono (tab : List Value) (base N : Nat) : ∀ i v w w', NX tab base N i v w → Below w.heap.size w w' → NX tab base N i v w' := by
  intro i v w w' h hb
  unfold NX at h ⊢
  split
  · rename_i e
    rw [if_pos e] at h
    obtain ⟨g, cap, h1, h2, h3, h4, h5⟩ := h
    exact ⟨g, cap, h1, h2, h3.below hb, h4, Nat.lt_of_lt_of_le h5 hb.size⟩
  · rename_i e
    rw [if_neg e] at h; exact h
set_option maxRecDepth 100000 in
theorem fNew_wrong (g : Geom.Gm) (im : ByteArray) (w : World) (hr : Geom.rightG g = false) : Calls Try.prog 13 #[Geom.gV g, .string im] w fun e w' => Below w.heap.size w w' ∧ e = .returned (.tuple #[.pointer none, .int .i64 1]) := by
  have HR := Lib.hid (fun w => Geom.right_any g w)
  rw [hr] at HR
  obtain ⟨gp, gs, gr⟩ := g
  unfold Geom.gV at HR ⊢
  have HV := Lib.hid (Var.new w 23 [.int .i64 gp, .int .i64 gs, .int .i64 gr])
  have v0 := HV.out.cell (j := 0) rfl
  have v1 := HV.out.cell (j := 1) rfl
  have v2 := HV.out.cell (j := 2) rfl
  clear hr
  go_enter Try.func13, Try.ntmps13
  go_wp2_with (go_at_call 34; (with_reducible refine (HR.out _).mono ?_); rintro e w3 ⟨rfl, hn3⟩)
  go_ret2
  exact ⟨Geom.bel0 (Geom.bel_alloc _ _) hn3, rfl⟩
set_option maxRecDepth 100000 in
theorem fNew_long (g : Geom.Gm) (im : ByteArray) (w : World) (hr : Geom.rightG g = true) (hl : Geom.sizeG g < (im.size : Int)) : Calls Try.prog 13 #[Geom.gV g, .string im] w fun e w' => Below w.heap.size w w' ∧ e = .returned (.tuple #[.pointer none, .int .i64 1]) := by
  have HR := Lib.hid (fun w => Geom.right_any g w)
  have HB := Lib.hid (fun w => Geom.bytes_any g w)
  rw [hr] at HR HB
  simp only [if_true] at HB
  have d1 : decide (Geom.sizeG g < (im.size : Int)) = true := decide_eq_true hl
  generalize Geom.sizeG g = N at *
  obtain ⟨gp, gs, gr⟩ := g
  unfold Geom.gV at HR HB ⊢
  have HV := Lib.hid (Var.new w 23 [.int .i64 gp, .int .i64 gs, .int .i64 gr])
  have v0 := HV.out.cell (j := 0) rfl
  have v1 := HV.out.cell (j := 1) rfl
  have v2 := HV.out.cell (j := 2) rfl
  clear hr hl
  go_enter Try.func13, Try.ntmps13
  go_wp2_with (first
    | (go_at_call 34; (with_reducible refine (HR.out _).mono ?_); rintro e w3 ⟨rfl, hn3⟩; have u0 := (HV.out.below hn3 HV.out.lt).cell (j := 0) rfl; have u1 := (HV.out.below hn3 HV.out.lt).cell (j := 1) rfl; have u2 := (HV.out.below hn3 HV.out.lt).cell (j := 2) rfl)
    | (go_at_call 35; (with_reducible refine (HB.out _).mono ?_); rintro e w4 ⟨rfl, hn4⟩))
  go_ret2
  exact ⟨Geom.bel0 (Geom.bel0 (Geom.bel_alloc _ _) hn3) hn4, rfl⟩
set_option maxRecDepth 100000 in
set_option maxHeartbeats 4000000 in
theorem fNew_good (pg pgs rgs N : Nat) (hN : pg * pgs * rgs = N) (p0 : 32 ≤ pg) (p1 : pg ≤ 128) (s0 : 3 ≤ pgs) (s1 : pgs ≤ 10) (r0 : 4 ≤ rgs) (r1 : rgs ≤ 12) (im : ByteArray) (hi : im.size ≤ N) (w : World) :
    Calls Try.prog 13 #[Geom.gV ⟨pg, pgs, rgs⟩, .string im] w fun e w' => Below w.heap.size w w' ∧ ∃ p S, e = .returned (.tuple #[.pointer (some ⟨p, 0, none⟩), .int .i64 0]) ∧ FHas w' p (newD pg pgs rgs im.data.toList) S ∧ ∀ k, S k → w.heap.size ≤ k := by
  have hN1 : N ≤ 15360 := by rw [← hN]; exact Nat.mul_le_mul (Nat.mul_le_mul p1 s1) r1
  have hr : Geom.rightG ⟨pg, pgs, rgs⟩ = true := Geom.right_small.mpr ⟨by simp only; omega, by simp only; omega, by simp only; omega, by simp only; omega, by simp only; omega, by simp only; omega⟩
  have HR := Lib.hid (fun w => Geom.right_any ⟨pg, pgs, rgs⟩ w)
  have HB := Lib.hid (fun w => Geom.bytes_any ⟨pg, pgs, rgs⟩ w)
  rw [hr] at HR HB
  have hsz : Geom.sizeG ⟨pg, pgs, rgs⟩ = (N : Int) := by unfold Geom.sizeG; rw [← hN]; simp only [Int.natCast_mul]
  rw [hsz] at HB
  simp only [if_true] at HB
  have HK := Lib.hid (fun w => blanks_any N (by omega) w)
  have d1 : decide ((N : Int) < (im.size : Int)) = false := decide_eq_false (by omega)
  have d2 : decide (N < im.size) = false := decide_eq_false (by omega)
  have HIM := Lib.hid (newD_img pg pgs rgs im.data.toList hN (by simpa using hi))
  unfold Geom.gV at HR HB ⊢
  have HV := Lib.hid (Var.new w 23 [.int .i64 (pg : Int), .int .i64 (pgs : Int), .int .i64 (rgs : Int)])
  have v0 := HV.out.cell (j := 0) rfl
  have v1 := HV.out.cell (j := 1) rfl
  have v2 := HV.out.cell (j := 2) rfl
  clear hr hsz hN
  go_enter Try.func13, Try.ntmps13
  go_wp2_with (first
    | (go_at_call 34; (with_reducible refine (HR.out _).mono ?_); rintro e w3 ⟨rfl, hn3⟩; have u0 := (HV.out.below hn3 HV.out.lt).cell (j := 0) rfl; have u1 := (HV.out.below hn3 HV.out.lt).cell (j := 1) rfl; have u2 := (HV.out.below hn3 HV.out.lt).cell (j := 2) rfl)
    | (go_at_call 35; (with_reducible refine (HB.out _).mono ?_); rintro e w4 ⟨rfl, hn4⟩))
  have HB4 := Lib.hid (Geom.bel0 (Geom.bel0 (Geom.bel_alloc w (.cells #[.int .i64 (pg : Int), .int .i64 (pgs : Int), .int .i64 (rgs : Int)] 23)) hn3) hn4)
  have HV4 := Lib.hid (HV.out.below (bel2 hn3 hn4) HV.out.lt)
  clear v0 v1 v2 u0 u1 u2 hn3 hn4
  refine wp_region_tail 4 [17, 18, 19, 20] (fun w' => Below w4.heap.size w4 w') (NX [.agg #[.int .i64 (pg : Int), .int .i64 (pgs : Int), .int .i64 (rgs : Int)], .agg #[.int .i64 (pg : Int), .int .i64 (pgs : Int), .int .i64 (rgs : Int)], .int .i64 (N : Int)] w4.heap.size N) (by kernel_rfl) (by kernel_rfl) (by kernel_rfl) (by decide) rfl (by decide) (by simp) (NX.mono _ _ _) (Below.refl _ _).drew ?each ?tail
  case each =>
    simp only [List.take_succ_cons, List.take_zero, Each]
    refine ⟨?o0, ?o1, ?o2, ?o3, trivial⟩
    case o0 =>
      intro ys wx hBx hdeps
      have u0 := (HV4.out.below hBx HV4.out.lt).cell (j := 0) rfl
      have u1 := (HV4.out.below hBx HV4.out.lt).cell (j := 1) rfl
      have u2 := (HV4.out.below hBx HV4.out.lt).cell (j := 2) rfl
      clear hdeps
      simp only [fill, List.foldl_cons, List.foldl_nil, Act.put, List.setIfInBounds_toArray, List.set_cons_succ, List.set_cons_zero]
      go_wp2_with fail
      exact ⟨_, rfl, rfl, hBx, Below.refl _ _⟩
    case o1 =>
      intro ys wx hBx hdeps
      have u0 := (HV4.out.below hBx HV4.out.lt).cell (j := 0) rfl
      have u1 := (HV4.out.below hBx HV4.out.lt).cell (j := 1) rfl
      have u2 := (HV4.out.below hBx HV4.out.lt).cell (j := 2) rfl
      clear hdeps
      simp only [fill, List.foldl_cons, List.foldl_nil, Act.put, List.setIfInBounds_toArray, List.set_cons_succ, List.set_cons_zero]
      go_wp2_with fail
      exact ⟨_, rfl, rfl, hBx, Below.refl _ _⟩
    case o2 =>
      intro ys wx hBx hdeps
      simp only [Deps, Region.binds, List.getD_cons_zero, List.getD_cons_succ, forall_const, and_true, true_and] at hdeps
      have y1 : ys 18 = .agg #[.int .i64 (pg : Int), .int .i64 (pgs : Int), .int .i64 (rgs : Int)] := by first | exact hdeps | exact hdeps.1 | exact hdeps.2
      clear hdeps
      simp only [y1, fill, List.foldl_cons, List.foldl_nil, Act.put, List.setIfInBounds_toArray, List.set_cons_succ, List.set_cons_zero]
      go_wp2_with (go_at_call 35; (with_reducible refine (HB.out _).mono ?_); rintro e w3 ⟨rfl, hn3⟩)
      exact ⟨_, rfl, rfl, hBx.trans (hn3.mono hBx.size), hn3⟩
    case o3 =>
      intro ys wx hBx hdeps
      simp only [Deps, Region.binds, List.getD_cons_zero, List.getD_cons_succ, forall_const, and_true, true_and] at hdeps
      have y2 : ys 19 = .int .i64 (N : Int) := by first | exact hdeps | exact hdeps.1 | exact hdeps.2
      clear hdeps
      simp only [y2, fill, List.foldl_cons, List.foldl_nil, Act.put, List.setIfInBounds_toArray, List.set_cons_succ, List.set_cons_zero]
      go_wp2_with (go_at_call 36; (with_reducible refine (HK.out _).mono ?_); rintro e w3 ⟨⟨g0, c, rfl, hc, hrow, hg0, hg1⟩, hn3⟩)
      exact ⟨_, rfl, ⟨g0, c, rfl, hc, hrow, Nat.le_trans hBx.size hg0, hg1⟩, hBx.trans (hn3.mono hBx.size), hn3⟩
  case tail =>
    intro ys wx hBx hV
    have h17 : ys 17 = .agg #[.int .i64 (pg : Int), .int .i64 (pgs : Int), .int .i64 (rgs : Int)] := hV 0 (by decide)
    have h20 : ∃ g0 c, ys 20 = .slice (some ⟨g0, 0, none⟩) N c ∧ N ≤ c ∧ Row8 wx g0 (List.replicate N 255) ∧ w4.heap.size ≤ g0 ∧ g0 < wx.heap.size := hV 3 (by decide)
    with_reducible refine Exists.elim h20 ?_
    intro g0 h20
    with_reducible refine Exists.elim h20 ?_
    intro c hh
    have hg0 := hh.1
    have HC := Lib.hid hh.2.1
    have HRW := Lib.hid hh.2.2.1
    have HG := Lib.hid hh.2.2.2
    have HBx := Lib.hid (bel2 HB4.out hBx)
    clear hh h20 hV hBx
    have HVF := Lib.hid (Var.new wx 66 [.int .i64 (pg : Int), .int .i64 (pgs : Int), .int .i64 (rgs : Int), .slice (some ⟨g0, 0, none⟩) N c, .slice none 0 0, .bool false, .bool false, .int .i64 0])
    have z3 := HVF.out.cell (j := 3) rfl
    have HRA := Lib.hid (HRW.out.alloc (.cells #[.int .i64 (pg : Int), .int .i64 (pgs : Int), .int .i64 (rgs : Int), .slice (some ⟨g0, 0, none⟩) N c, .slice none 0 0, .bool false, .bool false, .int .i64 0] 66))
    with_reducible refine Exists.elim (copyS HRA.out 0 N c im hi (by simp)) ?_
    intro w9 h9
    have hcp := h9.1
    have HR9 := Lib.hid h9.2.1
    have HG9 := Lib.hid h9.2.2
    clear h9
    simp only [h17, hg0, fill, List.drop_succ_cons, List.drop_zero, List.foldl_cons, List.foldl_nil, Act.put, List.setIfInBounds_toArray, List.set_cons_succ, List.set_cons_zero]
    go_wp2
    go_ret2
    have hne : wx.heap.size ≠ g0 := by have := HG.out.2; omega
    have hB9 : Below w.heap.size w w9 := (HBx.out.alloc HBx.out.size _).trans (HG9.out.below (by have := HBx.out.size; simp; omega) (by rintro k rfl; have := HG.out.1; have := HB4.out.size; omega))
    refine ⟨hB9, wx.heap.size, footF wx.heap.size g0 (.slice none 0 0) [], rfl, ⟨g0, c, .slice none 0 0, 0, [], ⟨?_, ?_, ?_, ⟨rfl, .inl ⟨rfl, rfl⟩⟩, rfl, fun x hx => by simp at hx, by simp [newD], by omega, ?_, Ne.symm hne, by simp [Value.ownBlock], by simp [Value.ownBlock]⟩, rfl⟩, ?_⟩
    · have hl : (newD pg pgs rgs im.data.toList).img.length = N := by
        have := HIM.out
        rw [← this, over_length (by simpa using hi), List.length_replicate]
      rw [hl]
      exact HG9.out.var HVF.out (by exact hne)
    · rw [← HIM.out]; exact HR9.out
    · have := HG.out.2; have := HG9.out.size; simp at this; omega
    · have := HIM.out
      rw [← this, over_length (by simpa using hi), List.length_replicate]; exact HC.out
    · rintro k (rfl | rfl | hk | ⟨x, hx, _⟩)
      · exact HBx.out.size
      · have := HG.out.1; have := HB4.out.size; omega
      · simp [Value.ownBlock] at hk
      · simp at hx
theorem fNew_any (g : Geom.Gm) (im : ByteArray) (w : World) : Calls Try.prog 13 #[Geom.gV g, .string im] w fun e w' => Below w.heap.size w w' ∧
    if Geom.rightG g = true ∧ (im.size : Int) ≤ Geom.sizeG g then ∃ p S, e = .returned (.tuple #[.pointer (some ⟨p, 0, none⟩), .int .i64 0]) ∧ FHas w' p (newD g.page.toNat g.pages.toNat g.regions.toNat im.data.toList) S ∧ ∀ k, S k → w.heap.size ≤ k
    else e = .returned (.tuple #[.pointer none, .int .i64 1]) := by
  rcases hr : Geom.rightG g with _ | _
  · simp only [Bool.false_eq_true, false_and, if_false]
    exact fNew_wrong g im w hr
  · by_cases hl : (im.size : Int) ≤ Geom.sizeG g
    · simp only [hl, and_self, if_true]
      obtain ⟨p0, p1, s0, s1, r0, r1⟩ := Geom.right_small.mp hr
      obtain ⟨gp, gs, gr⟩ := g
      simp only at p0 p1 s0 s1 r0 r1
      obtain ⟨pg, rfl⟩ : ∃ k : Nat, gp = (k : Int) := ⟨gp.toNat, by omega⟩
      obtain ⟨pgs, rfl⟩ : ∃ k : Nat, gs = (k : Int) := ⟨gs.toNat, by omega⟩
      obtain ⟨rgs, rfl⟩ : ∃ k : Nat, gr = (k : Int) := ⟨gr.toNat, by omega⟩
      simp only [Int.toNat_natCast]
      have hs : Geom.sizeG ⟨pg, pgs, rgs⟩ = ((pg * pgs * rgs : Nat) : Int) := by unfold Geom.sizeG; simp only [Int.natCast_mul]
      rw [hs] at hl
      exact fNew_good pg pgs rgs _ rfl (by omega) (by omega) (by omega) (by omega) (by omega) (by omega) im (by omega) w
    · simp only [hl, and_false, if_false]
      exact fNew_long g im w hr (by omega)
end Go.Proofs.Ytgcbdekdjdlfaaa.Flash
