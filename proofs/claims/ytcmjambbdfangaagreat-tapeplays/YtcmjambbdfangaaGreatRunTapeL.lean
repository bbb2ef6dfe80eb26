/-
  Joined texts: TapeL, TapeP, TapeRow.
-/
import Derived.Test.YtcmjambbdfangaaGreatTapeXb
import Derived.Test.YtcmjambbdfangaaGreatRunTapeR
import Derived.Test.YtcmjambbdfangaaGreatRunGeomA
import Derived.Test.YtcmjambbdfangaaGreatRunCommon
/-
  What the statements of chapter 12 begin with: a tape over a blank device, and the document's.
-/
set_option linter.unusedVariables false
set_option linter.unusedSimpArgs false
namespace Go.Proofs.YtcmjambbdfangaaGreat.Tape
open Go.RowKit
open Go.Proofs.YtcmjambbdfangaaGreat.Own
open CrcM (W)
open Crc (vl wd)
open Flash (newD Dev FHas RHas programD eraseD flushD bs list_bs)
open Chart (DAt footD newC Ro Ch CHas DHas openC takeC eraseC setC)
open Go.Proofs.YtcmjambbdfangaaGreat.Frame (Fr fV page bytesG)
open Tup Foot Bytes
open Go.Proofs.YtcmjambbdfangaaGreat.Region (fill Then Deps Each wp_region_is wp_region_is_tail wp_region_each)

/-- a tape's parts, as the laws of chapter 12 hold them -/
structure Pair (w : World) (P p q t r p' q' : Nat) (x y : Tp) (F G : Nat → Prop) : Prop where
  var : Var w P 43 [ptr p, ptr q, ptr t, ptr r]
  tt : THas w t p q x F
  rr : THasR w r p' q' y G
  apart : ∀ k, F k → ¬ G k
  nF : ¬ F P
  nG : ¬ G P
  tG : ¬ G t
  rF : ¬ F r
theorem Pair.below {w w' : World} {P p q t r p' q' : Nat} {x y : Tp} {F G : Nat → Prop} (h : Pair w P p q t r p' q' x y F G) (g : Below w.heap.size w w') : Pair w' P p q t r p' q' x y F G :=
  ⟨h.var.below g h.var.lt, h.tt.below g, h.rr.below g, h.apart, h.nF, h.nG, h.tG, h.rF⟩
theorem Pair.lt {w : World} {P p q t r p' q' : Nat} {x y : Tp} {F G : Nat → Prop} (h : Pair w P p q t r p' q' x y F G) : ∀ k, both F G k → k < w.heap.size := by
  rintro k (y | y)
  · exact h.tt.lt k y
  · exact h.rr.lt k y
theorem not_after {w w' : World} {S S' : Nat → Prop} (a : After S w w' S') {k : Nat} (h : ¬ S k) (hk : k < w.heap.size) : ¬ S' k := fun hs => by
  rcases a.foot k hs with y | y
  · exact h y
  · omega
theorem Pair.left {w w' : World} {P p q t r p' q' : Nat} {x x' y : Tp} {F F' G : Nat → Prop} (h : Pair w P p q t r p' q' x y F G) (ht : THas w' t p q x' F') (a : After F w w' F') : Pair w' P p q t r p' q' x' y F' G ∧ After (both F G) w w' (both F' G) := by
  refine ⟨⟨a.grows.var h.var h.nF, ht, h.rr.grows a.grows h.rF (fun k hk hs => h.apart k hs hk), a.apart (fun k hk => h.rr.lt k hk) h.apart, not_after a h.nF h.var.lt, h.nG, h.tG, not_after a h.rF h.rr.t_lt⟩, a.grows.mono (fun k hk => .inl hk), ?_⟩
  rintro k (y | y)
  · rcases a.foot k y with z | z
    · exact .inl (.inl z)
    · exact .inr z
  · exact .inl (.inr y)
theorem Pair.right {w w' : World} {P p q t r p' q' : Nat} {x y y' : Tp} {F G G' : Nat → Prop} (h : Pair w P p q t r p' q' x y F G) (hr : THasR w' r p' q' y' G') (a : After G w w' G') : Pair w' P p q t r p' q' x y' F G' ∧ After (both F G) w w' (both F G') := by
  refine ⟨⟨a.grows.var h.var h.nG, h.tt.grows a.grows h.tG (fun k hk hs => h.apart k hk hs), hr, ?_, h.nF, not_after a h.nG h.var.lt, not_after a h.tG h.tt.t_lt, h.rF⟩, a.grows.mono (fun k hk => .inr hk), ?_⟩
  · intro k hf hg
    exact a.apart (T := F) (fun k hk => h.tt.lt k hk) (fun k hk hs => h.apart k hs hk) k hg hf
  · rintro k (y | y)
    · exact .inl (.inl y)
    · rcases a.foot k y with z | z
      · exact .inl (.inr z)
      · exact .inr z
/-- nothing below B has turned, and what is held lies beyond -/
structure Safe (B : Nat) (w0 w : World) (S : Nat → Prop) : Prop where
  bel : Below B w0 w
  size : B ≤ w.heap.size
  foot : ∀ k, S k → B ≤ k
theorem Safe.below {B : Nat} {w0 w w' : World} {S : Nat → Prop} (h : Safe B w0 w S) (g : Below w.heap.size w w') : Safe B w0 w' S := ⟨h.bel.trans (g.mono h.size), Nat.le_trans h.size g.size, h.foot⟩
theorem Safe.after {B : Nat} {w0 w w' : World} {S S' : Nat → Prop} (h : Safe B w0 w S) (a : After S w w' S') : Safe B w0 w' S' := ⟨h.bel.trans (a.grows.below h.size h.foot), Nat.le_trans h.size a.grows.size, a.beyond h.size h.foot⟩
/-- two new things of the document's are apart -/
theorem new_apart {w : World} {a b bB cap : Nat} {d : Dev} {c : Ch} {S : Nat → Prop} (h1 : Flash.RAt w a d bB cap (.slice none 0 0) 0) (hd : d.Ok) (h2 : DHas w b c S) (hc : c.Ok) (hs : ∀ k, c.us k = 0) : ∀ k, Flash.foot a bB (.slice none 0 0) k → ¬ S k := by
  obtain ⟨bE, capE, bU, capU, h2, rfl⟩ := h2
  have p0 := hd.p0
  have r0 := hc.r0
  have hlen := hd.img_n
  have hn : 0 < d.n := Nat.mul_pos (by have := hd.s0; omega) (by have := hd.r0; omega)
  have hpos : 0 < d.img.length := by rw [hlen]; exact Nat.mul_pos (by omega) hn
  have a0 := h1.var.cell (j := 0) rfl
  have b0 := h2.var.cell (j := 0) rfl
  have eE := (h2.getE hc (k := 0) (by omega)).1
  have eU := (h2.getU hc (k := 0) (by omega)).1
  rw [hs 0] at eU
  have rB := h1.row 0 hpos
  rintro k (rfl | rfl | hk) hk2
  · rcases hk2 with rfl | rfl | rfl
    · have x1 := h1.var
      have x2 := h2.var
      unfold Var at x1 x2
      rw [x1] at x2
      simp at x2
    · rw [a0] at eE; simp at eE
    · rw [a0] at eU; simp at eU; omega
  · rcases hk2 with rfl | rfl | rfl
    · have := rB.1; rw [b0] at this; simp at this
    · have := rB.1; rw [eE] at this; simp at this
    · have := rB.1; rw [eU] at this; simp at this
  · simp [Value.ownBlock] at hk
theorem both_base {a bB B : Nat} {R : Nat → Prop} (h1 : B ≤ a) (h2 : B ≤ bB) (h3 : ∀ k, R k → B ≤ k) : ∀ k, both (Flash.foot a bB (.slice none 0 0)) R k → B ≤ k := by
  rintro k (y | y)
  · rcases y with rfl | rfl | y
    · exact h1
    · exact h2
    · simp [Value.ownBlock] at y
  · exact h3 k y
/-- the values of made's last operations -/
def MV (d : Dev) (c : Ch) (base p q t : Nat) (tab : List Value) (i : Nat) (v : Value) (w : World) : Prop :=
  match i with
  | 4 => ∃ b bB cap, v = .pointer (some ⟨b, 0, none⟩) ∧ Flash.RAt w b d bB cap (.slice none 0 0) 0 ∧ base ≤ b ∧ base ≤ bB
  | 6 => ∃ b S, v = .pointer (some ⟨b, 0, none⟩) ∧ DHas w b c S ∧ ∀ k, S k → base ≤ k
  | 7 => ∃ a b S R, v = .agg #[.pointer (some ⟨a, 0, none⟩), .pointer (some ⟨b, 0, none⟩)] ∧ RHas w a d S ∧ DHas w b c R ∧ (∀ k, S k → ¬ R k) ∧ ∀ k, both S R k → base ≤ k
  | 8 => ∃ r a b G, v = .pointer (some ⟨r, 0, none⟩) ∧ THasR w r a b ⟨d, c⟩ G ∧ (∀ k, G k → base ≤ k) ∧ base ≤ r
  | 9 => ∃ r a b G, v = .agg #[.pointer (some ⟨p, 0, none⟩), .pointer (some ⟨q, 0, none⟩), .pointer (some ⟨t, 0, none⟩), .pointer (some ⟨r, 0, none⟩)] ∧ THasR w r a b ⟨d, c⟩ G ∧ (∀ k, G k → base ≤ k) ∧ base ≤ r
  | 10 => ∃ P r a b G, v = .pointer (some ⟨P, 0, none⟩) ∧ Var w P 43 [ptr p, ptr q, ptr t, ptr r] ∧ THasR w r a b ⟨d, c⟩ G ∧ (∀ k, G k → base ≤ k) ∧ base ≤ r ∧ base ≤ P ∧ ¬ G P
  | 11 => ∃ P r a b G, v = .pointer (some ⟨P, 0, none⟩) ∧ Var w P 43 [ptr p, ptr q, ptr t, ptr r] ∧ THasR w r a b ⟨d, c⟩ G ∧ (∀ k, G k → base ≤ k) ∧ base ≤ r ∧ base ≤ P ∧ ¬ G P
  | i => v = tab.getD i undef
theorem MV.mono (d : Dev) (c : Ch) (base p q t : Nat) (tab : List Value) : ∀ i v w w', MV d c base p q t tab i v w → Below w.heap.size w w' → MV d c base p q t tab i v w' := by
  intro i v w w' h hb
  unfold MV at h ⊢
  split
  · obtain ⟨b, bB, cap, h1, h2, h3⟩ := h
    exact ⟨b, bB, cap, h1, h2.below hb, h3⟩
  · obtain ⟨b, S, h1, h2, h3⟩ := h
    exact ⟨b, S, h1, h2.below hb, h3⟩
  · obtain ⟨a, b, S, R, h1, h2, h3, h4⟩ := h
    exact ⟨a, b, S, R, h1, rh_below h2 hb, h3.below hb, h4⟩
  · obtain ⟨r, a, b, G, h1, h2, h3⟩ := h
    exact ⟨r, a, b, G, h1, h2.below hb, h3⟩
  · obtain ⟨r, a, b, G, h1, h2, h3⟩ := h
    exact ⟨r, a, b, G, h1, h2.below hb, h3⟩
  · obtain ⟨P, r, a, b, G, h1, h2, h3, h4⟩ := h
    exact ⟨P, r, a, b, G, h1, h2.below hb h2.lt, h3.below hb, h4⟩
  · obtain ⟨P, r, a, b, G, h1, h2, h3, h4⟩ := h
    exact ⟨P, r, a, b, G, h1, h2.below hb h2.lt, h3.below hb, h4⟩
  · split at h <;> first | exact h | contradiction | simp_all
theorem new_us0 (pg pgs rgs : Nat) : ∀ k, (newC pg pgs rgs).us k = 0 := Chart.new_us pg pgs rgs
set_option maxRecDepth 100000 in
set_option maxHeartbeats 8000000 in
theorem made_any {pg pgs rgs : Nat} (z : Sz pg pgs rgs) (w : World) :
    Calls Tryz.prog 5 #[.agg #[.int .i64 (pg : Int), .int .i64 (pgs : Int), .int .i64 (rgs : Int)]] w fun e w' => ∃ P p q t r p' q' F G, e = .returned (.pointer (some ⟨P, 0, none⟩)) ∧ Pair w' P p q t r p' q' (newT pg pgs rgs) (newT pg pgs rgs) F G ∧ Below w.heap.size w w' ∧ (∀ k, both F G k → w.heap.size ≤ k) := by
  obtain ⟨p0, p1, s0, s1, r0, r1⟩ := z
  have hNF : ∀ w, Calls Tryz.prog 26 #[.agg #[.int .i64 (pg : Int), .int .i64 (pgs : Int), .int .i64 (rgs : Int)], .string ⟨#[]⟩] w fun e w' => ∃ p S, e = .returned (.tuple #[.pointer (some ⟨p, 0, none⟩), .int .i64 0]) ∧ FHas w' p (newD pg pgs rgs []) S ∧ Below w.heap.size w w' ∧ ∀ k, S k → w.heap.size ≤ k := fun w => by
    refine (Flash.fNew_any ⟨pg, pgs, rgs⟩ ⟨#[]⟩ w).mono ?_
    rintro e w' ⟨hb, h⟩
    rw [if_pos ⟨Geom.right_small.2 ⟨by simp only; omega, by simp only; omega, by simp only; omega, by simp only; omega, by simp only; omega, by simp only; omega⟩, by
      unfold Geom.sizeG; simp only; rw [← Int.natCast_mul, ← Int.natCast_mul]; exact Int.natCast_nonneg _⟩] at h
    obtain ⟨p, S, h1, h2, h3⟩ := h
    simp only [Int.toNat_natCast] at h2
    exact ⟨p, S, h1, h2, hb, h3⟩
  have HNF := Lib.hid hNF
  have HNC := Lib.hid (fun w => Chart.new_good pg pgs rgs p0 p1 s0 s1 r0 r1 w)
  have HRF := Lib.hid (fun w => Flash.refNew_full pg pgs rgs ⟨#[]⟩ (Nat.zero_le _) p0 p1 s0 s1 r0 r1 w)
  have HRC := Lib.hid (fun w => Chart.refNew_any pg pgs rgs p0 p1 s0 s1 r0 r1 w)
  unfold Chart.ptr at HNC HRC
  unfold Flash.ptr at HRF
  have OKD := Lib.hid (Flash.new_ok (pg := pg) (pgs := pgs) (rgs := rgs) (image := []) (Nat.zero_le _) p0 p1 s0 s1 r0 r1)
  have OKC := Lib.hid (Chart.new_ok (pg := pg) (pgs := pgs) (rgs := rgs) p0 p1 s0 s1 r0 r1)
  have HNT := Lib.hid (fun (w : World) p q S R (hf : FHas w p (newD pg pgs rgs []) S) (hc : CHas w q (newC pg pgs rgs) R) => new_any hf OKD.out hc rfl rfl rfl)
  clear hNF p0 p1 s0 s1 r0 r1
  have HV := Lib.hid (Var.new w 23 [.int .i64 (pg : Int), .int .i64 (pgs : Int), .int .i64 (rgs : Int)])
  have k0 := HV.out.cell (j := 0) rfl
  have k1 := HV.out.cell (j := 1) rfl
  have k2 := HV.out.cell (j := 2) rfl
  have HB0 := Lib.hid (Geom.bel_alloc w (.cells #[.int .i64 (pg : Int), .int .i64 (pgs : Int), .int .i64 (rgs : Int)] 23))
  go_enter Tryz.func5, Tryz.ntmps5
  go_wp2_with (first
    | (go_at_call 26; (with_reducible refine (HNF.out _).mono ?_); rintro e w1 ⟨p, S, rfl, h1, b1, s1⟩; have H1 := Lib.hid h1; have B1 := Lib.hid b1; have S1 := Lib.hid s1; have V1 := Lib.hid (HV.out.below b1 HV.out.lt); clear h1 b1 s1 k0 k1 k2; have k0 := V1.out.cell (j := 0) rfl; have k1 := V1.out.cell (j := 1) rfl; have k2 := V1.out.cell (j := 2) rfl)
    | (go_at_call 27; (with_reducible refine (HNC.out _).mono ?_); rintro e w2 ⟨q, R, rfl, h2, b2, s2⟩; have H2 := Lib.hid h2; have B2 := Lib.hid b2; have S2 := Lib.hid s2; have V2 := Lib.hid (V1.out.below b2 V1.out.lt); clear h2 b2 s2 k0 k1 k2)
    | (go_at_call 28; (with_reducible refine (HNT.out _ _ _ _ _ (Tape.fh_below H1.out B2.out) H2.out).mono ?_); rintro e w4 ⟨t, w3, rfl, b3, e3, b4, v4⟩; have B3 := Lib.hid b3; have E3 := Lib.hid e3; have B4 := Lib.hid b4; have V4 := Lib.hid v4; have VG := Lib.hid (V2.out.below (bel2 b3 b4) V2.out.lt); clear b3 e3 b4 v4))
  refine wp_region_each [31, 32, 33, 34, 35, 36, 37, 38, 39, 40, 41, 2] (fun w' => Below w4.heap.size w4 w') (MV (newD pg pgs rgs []) (newC pg pgs rgs) w4.heap.size p q t [.pointer (some ⟨p, 0, none⟩), .pointer (some ⟨q, 0, none⟩), .pointer (some ⟨t, 0, none⟩), .agg #[.int .i64 (pg : Int), .int .i64 (pgs : Int), .int .i64 (rgs : Int)], undef, .agg #[.int .i64 (pg : Int), .int .i64 (pgs : Int), .int .i64 (rgs : Int)], undef, undef, undef, undef, undef, undef]) (by kernel_rfl) (by kernel_rfl) rfl (by decide) (by simp) (MV.mono _ _ _ _ _ _ _) (Below.refl _ _).drew ?each ?done
  case each =>
    simp only [Each]
    refine ⟨?o0, ?o1, ?o2, ?o3, ?o4, ?o5, ?o6, ?o7, ?o8, ?o9, ?o10, ?o11, trivial⟩
    case o0 =>
      intro ys wx hBx hdeps
      clear hdeps
      simp only [fill, List.foldl_cons, List.foldl_nil, Act.put, List.setIfInBounds_toArray, List.set_cons_succ, List.set_cons_zero]
      go_wp2_with fail
      exact ⟨_, rfl, rfl, hBx, Below.refl _ _⟩
    case o1 =>
      intro ys wx hBx hdeps
      clear hdeps
      simp only [fill, List.foldl_cons, List.foldl_nil, Act.put, List.setIfInBounds_toArray, List.set_cons_succ, List.set_cons_zero]
      go_wp2_with fail
      exact ⟨_, rfl, rfl, hBx, Below.refl _ _⟩
    case o2 =>
      intro ys wx hBx hdeps
      clear hdeps
      simp only [fill, List.foldl_cons, List.foldl_nil, Act.put, List.setIfInBounds_toArray, List.set_cons_succ, List.set_cons_zero]
      go_wp2_with fail
      exact ⟨_, rfl, rfl, hBx, Below.refl _ _⟩
    case o3 =>
      intro ys wx hBx hdeps
      clear hdeps
      have c0 := (VG.out.below hBx VG.out.lt).cell (j := 0) rfl
      have c1 := (VG.out.below hBx VG.out.lt).cell (j := 1) rfl
      have c2 := (VG.out.below hBx VG.out.lt).cell (j := 2) rfl
      simp only [fill, List.foldl_cons, List.foldl_nil, Act.put, List.setIfInBounds_toArray, List.set_cons_succ, List.set_cons_zero]
      go_wp2_with fail
      exact ⟨_, rfl, rfl, hBx, Below.refl _ _⟩
    case o4 =>
      intro ys wx hBx hdeps
      simp only [Deps, Region.binds, List.getD_cons_zero, List.getD_cons_succ, forall_const, and_true, true_and] at hdeps
      have y3 : ys 34 = .agg #[.int .i64 (pg : Int), .int .i64 (pgs : Int), .int .i64 (rgs : Int)] := by first | exact hdeps | exact hdeps.1 | exact hdeps.2 | exact hdeps.2.1 | exact hdeps.2.2 | exact hdeps.2.2.1 | exact hdeps.2.2.2
      clear hdeps
      simp only [y3, fill, List.foldl_cons, List.foldl_nil, Act.put, List.setIfInBounds_toArray, List.set_cons_succ, List.set_cons_zero]
      go_wp2_with (go_at_call 29; (with_reducible refine (HRF.out _).mono ?_); rintro e w5 ⟨b, bB, cap, rfl, hA, hm, l1, l2⟩)
      exact ⟨_, rfl, ⟨b, bB, cap, rfl, hA, Nat.le_trans hBx.size l1, Nat.le_trans hBx.size l2⟩, hBx.trans (hm.mono hBx.size), hm⟩
    case o5 =>
      intro ys wx hBx hdeps
      clear hdeps
      have c0 := (VG.out.below hBx VG.out.lt).cell (j := 0) rfl
      have c1 := (VG.out.below hBx VG.out.lt).cell (j := 1) rfl
      have c2 := (VG.out.below hBx VG.out.lt).cell (j := 2) rfl
      simp only [fill, List.foldl_cons, List.foldl_nil, Act.put, List.setIfInBounds_toArray, List.set_cons_succ, List.set_cons_zero]
      go_wp2_with fail
      exact ⟨_, rfl, rfl, hBx, Below.refl _ _⟩
    case o6 =>
      intro ys wx hBx hdeps
      simp only [Deps, Region.binds, List.getD_cons_zero, List.getD_cons_succ, forall_const, and_true, true_and] at hdeps
      have y5 : ys 36 = .agg #[.int .i64 (pg : Int), .int .i64 (pgs : Int), .int .i64 (rgs : Int)] := by first | exact hdeps | exact hdeps.1 | exact hdeps.2 | exact hdeps.2.1 | exact hdeps.2.2 | exact hdeps.2.2.1 | exact hdeps.2.2.2
      clear hdeps
      simp only [y5, fill, List.foldl_cons, List.foldl_nil, Act.put, List.setIfInBounds_toArray, List.set_cons_succ, List.set_cons_zero]
      go_wp2_with (go_at_call 30; (with_reducible refine (HRC.out _).mono ?_); rintro e w5 ⟨b, S, rfl, hA, hm, l1⟩)
      exact ⟨_, rfl, ⟨b, S, rfl, hA, fun k hk => Nat.le_trans hBx.size (l1 k hk)⟩, hBx.trans (hm.mono hBx.size), hm⟩
    case o7 =>
      intro ys wx hBx hdeps
      simp only [Deps, Region.binds, List.getD_cons_zero, List.getD_cons_succ, forall_const, and_true, true_and] at hdeps
      have z4 : ∃ b bB cap, ys 35 = .pointer (some ⟨b, 0, none⟩) ∧ Flash.RAt wx b (newD pg pgs rgs []) bB cap (.slice none 0 0) 0 ∧ w4.heap.size ≤ b ∧ w4.heap.size ≤ bB := by first | exact hdeps | exact hdeps.1 | exact hdeps.2 | exact hdeps.2.1 | exact hdeps.2.2 | exact hdeps.2.2.1 | exact hdeps.2.2.2
      have z6 : ∃ b S, ys 37 = .pointer (some ⟨b, 0, none⟩) ∧ DHas wx b (newC pg pgs rgs) S ∧ ∀ k, S k → w4.heap.size ≤ k := by first | exact hdeps | exact hdeps.1 | exact hdeps.2 | exact hdeps.2.1 | exact hdeps.2.2 | exact hdeps.2.2.1 | exact hdeps.2.2.2
      clear hdeps
      with_reducible refine Exists.elim z4 ?_
      intro a z4
      with_reducible refine Exists.elim z4 ?_
      intro bB z4
      with_reducible refine Exists.elim z4 ?_
      intro cap z4
      with_reducible refine Exists.elim z6 ?_
      intro b z6
      with_reducible refine Exists.elim z6 ?_
      intro R z6
      have ya := z4.1
      have yb := z6.1
      have ZA := Lib.hid z4.2
      have ZB := Lib.hid z6.2
      clear z4 z6
      simp only [ya, yb, fill, List.foldl_cons, List.foldl_nil, Act.put, List.setIfInBounds_toArray, List.set_cons_succ, List.set_cons_zero]
      go_wp2_with fail
      exact ⟨_, rfl, ⟨a, b, Flash.foot a bB (.slice none 0 0), R, rfl, ⟨bB, cap, _, _, ZA.out.1, rfl⟩, ZB.out.1, new_apart ZA.out.1 OKD.out ZB.out.1 OKC.out (new_us0 _ _ _), both_base ZA.out.2.1 ZA.out.2.2 ZB.out.2⟩, hBx, Below.refl _ _⟩
    case o8 =>
      intro ys wx hBx hdeps
      simp only [Deps, Region.binds, List.getD_cons_zero, List.getD_cons_succ, forall_const, and_true, true_and] at hdeps
      have z7 : ∃ a b S R, ys 38 = .agg #[.pointer (some ⟨a, 0, none⟩), .pointer (some ⟨b, 0, none⟩)] ∧ RHas wx a (newD pg pgs rgs []) S ∧ DHas wx b (newC pg pgs rgs) R ∧ (∀ k, S k → ¬ R k) ∧ ∀ k, both S R k → w4.heap.size ≤ k := by first | exact hdeps | exact hdeps.1 | exact hdeps.2 | exact hdeps.2.1 | exact hdeps.2.2 | exact hdeps.2.2.1 | exact hdeps.2.2.2
      clear hdeps
      with_reducible refine Exists.elim z7 ?_
      intro a z7
      with_reducible refine Exists.elim z7 ?_
      intro b z7
      with_reducible refine Exists.elim z7 ?_
      intro S z7
      with_reducible refine Exists.elim z7 ?_
      intro R z7
      have ya := z7.1
      have ZA := Lib.hid z7.2
      clear z7
      simp only [ya, fill, List.foldl_cons, List.foldl_nil, Act.put, List.setIfInBounds_toArray, List.set_cons_succ, List.set_cons_zero]
      go_wp2_with fail
      exact ⟨_, rfl, ⟨wx.heap.size, a, b, both S R, rfl, ⟨S, R, ⟨Var.new _ _ _, rh_below ZA.out.1 (Geom.bel_alloc _ _), ZA.out.2.1.below (Geom.bel_alloc _ _), ZA.out.2.2.1, fun hs => by have := ZA.out.1.lt _ hs; omega, fun hs => by have := ZA.out.2.1.lt _ hs; omega⟩, rfl⟩, ZA.out.2.2.2, hBx.size⟩, hBx.trans ((Geom.bel_alloc _ _).mono hBx.size), Geom.bel_alloc _ _⟩
    case o9 =>
      intro ys wx hBx hdeps
      simp only [Deps, Region.binds, List.getD_cons_zero, List.getD_cons_succ, forall_const, and_true, true_and] at hdeps
      have z8 : ∃ r a b G, ys 39 = .pointer (some ⟨r, 0, none⟩) ∧ THasR wx r a b ⟨newD pg pgs rgs [], newC pg pgs rgs⟩ G ∧ (∀ k, G k → w4.heap.size ≤ k) ∧ w4.heap.size ≤ r := by first | exact hdeps | exact hdeps.1 | exact hdeps.2 | exact hdeps.2.1 | exact hdeps.2.2 | exact hdeps.2.2.1 | exact hdeps.2.2.2
      have y0 : ys 31 = .pointer (some ⟨p, 0, none⟩) := by first | exact hdeps | exact hdeps.1 | exact hdeps.2 | exact hdeps.2.1 | exact hdeps.2.2 | exact hdeps.2.2.1 | exact hdeps.2.2.2
      have y1 : ys 32 = .pointer (some ⟨q, 0, none⟩) := by first | exact hdeps | exact hdeps.1 | exact hdeps.2 | exact hdeps.2.1 | exact hdeps.2.2 | exact hdeps.2.2.1 | exact hdeps.2.2.2
      have y2 : ys 33 = .pointer (some ⟨t, 0, none⟩) := by first | exact hdeps | exact hdeps.1 | exact hdeps.2 | exact hdeps.2.1 | exact hdeps.2.2 | exact hdeps.2.2.1 | exact hdeps.2.2.2
      clear hdeps
      with_reducible refine Exists.elim z8 ?_
      intro r z8
      with_reducible refine Exists.elim z8 ?_
      intro a z8
      with_reducible refine Exists.elim z8 ?_
      intro b z8
      with_reducible refine Exists.elim z8 ?_
      intro G z8
      have ya := z8.1
      have ZA := Lib.hid z8.2
      clear z8
      simp only [ya, y0, y1, y2, fill, List.foldl_cons, List.foldl_nil, Act.put, List.setIfInBounds_toArray, List.set_cons_succ, List.set_cons_zero]
      go_wp2_with fail
      exact ⟨_, rfl, ⟨r, a, b, G, rfl, ZA.out⟩, hBx, Below.refl _ _⟩
    case o10 =>
      intro ys wx hBx hdeps
      simp only [Deps, Region.binds, List.getD_cons_zero, List.getD_cons_succ, forall_const, and_true, true_and] at hdeps
      have z9 : ∃ r a b G, ys 40 = .agg #[.pointer (some ⟨p, 0, none⟩), .pointer (some ⟨q, 0, none⟩), .pointer (some ⟨t, 0, none⟩), .pointer (some ⟨r, 0, none⟩)] ∧ THasR wx r a b ⟨newD pg pgs rgs [], newC pg pgs rgs⟩ G ∧ (∀ k, G k → w4.heap.size ≤ k) ∧ w4.heap.size ≤ r := by first | exact hdeps | exact hdeps.1 | exact hdeps.2 | exact hdeps.2.1 | exact hdeps.2.2 | exact hdeps.2.2.1 | exact hdeps.2.2.2
      clear hdeps
      with_reducible refine Exists.elim z9 ?_
      intro r z9
      with_reducible refine Exists.elim z9 ?_
      intro a z9
      with_reducible refine Exists.elim z9 ?_
      intro b z9
      with_reducible refine Exists.elim z9 ?_
      intro G z9
      have ya := z9.1
      have ZA := Lib.hid z9.2
      clear z9
      simp only [ya, fill, List.foldl_cons, List.foldl_nil, Act.put, List.setIfInBounds_toArray, List.set_cons_succ, List.set_cons_zero]
      go_wp2_with fail
      exact ⟨_, rfl, ⟨wx.heap.size, r, a, b, G, rfl, Var.new _ _ _, ZA.out.1.below (Geom.bel_alloc _ _), ZA.out.2.1, ZA.out.2.2, hBx.size, fun hs => by have := ZA.out.1.lt _ hs; omega⟩, hBx.trans ((Geom.bel_alloc _ _).mono hBx.size), Geom.bel_alloc _ _⟩
    case o11 =>
      intro ys wx hBx hdeps
      simp only [Deps, Region.binds, List.getD_cons_zero, List.getD_cons_succ, forall_const, and_true, true_and] at hdeps
      have z10 : ∃ P r a b G, ys 41 = .pointer (some ⟨P, 0, none⟩) ∧ Var wx P 43 [ptr p, ptr q, ptr t, ptr r] ∧ THasR wx r a b ⟨newD pg pgs rgs [], newC pg pgs rgs⟩ G ∧ (∀ k, G k → w4.heap.size ≤ k) ∧ w4.heap.size ≤ r ∧ w4.heap.size ≤ P ∧ ¬ G P := by first | exact hdeps | exact hdeps.1 | exact hdeps.2 | exact hdeps.2.1 | exact hdeps.2.2 | exact hdeps.2.2.1 | exact hdeps.2.2.2
      clear hdeps
      with_reducible refine Exists.elim z10 ?_
      intro P z10
      with_reducible refine Exists.elim z10 ?_
      intro r z10
      with_reducible refine Exists.elim z10 ?_
      intro a z10
      with_reducible refine Exists.elim z10 ?_
      intro b z10
      with_reducible refine Exists.elim z10 ?_
      intro G z10
      have ya := z10.1
      have ZA := Lib.hid z10.2
      clear z10
      simp only [ya, fill, List.foldl_cons, List.foldl_nil, Act.put, List.setIfInBounds_toArray, List.set_cons_succ, List.set_cons_zero]
      go_wp2_with fail
      exact ⟨_, rfl, ⟨P, r, a, b, G, rfl, ZA.out⟩, hBx, Below.refl _ _⟩
  case done =>
    intro ys wx hBx hV
    have z : ∃ P r a b G, ys 2 = .pointer (some ⟨P, 0, none⟩) ∧ Var wx P 43 [ptr p, ptr q, ptr t, ptr r] ∧ THasR wx r a b ⟨newD pg pgs rgs [], newC pg pgs rgs⟩ G ∧ (∀ k, G k → w4.heap.size ≤ k) ∧ w4.heap.size ≤ r ∧ w4.heap.size ≤ P ∧ ¬ G P := hV 11 (by decide)
    with_reducible refine Exists.elim z ?_
    intro P z
    with_reducible refine Exists.elim z ?_
    intro r z
    with_reducible refine Exists.elim z ?_
    intro a z
    with_reducible refine Exists.elim z ?_
    intro b z
    with_reducible refine Exists.elim z ?_
    intro G z
    have ya := z.1
    have ZA := Lib.hid z.2
    have BX := Lib.hid hBx
    clear z hV hBx
    simp only [ya, fill, List.drop_succ_cons, List.drop_zero, List.foldl_cons, List.foldl_nil, Act.put, List.setIfInBounds_toArray, List.set_cons_succ, List.set_cons_zero]
    go_wp2
    go_ret
    have E := E3.out
    have b1 := B1.out.size
    have b2 := B2.out.size
    have b3 := B3.out.size
    have b4 := B4.out.size
    have v4 := V4.out.lt
    have HL1 := H1.out.lt
    have HL2 := H2.out.lt
    have hz : (w.alloc (.cells #[.int .i64 (pg : Int), .int .i64 (pgs : Int), .int .i64 (rgs : Int)] 23)).heap.size = w.heap.size + 1 := by simp
    have hT := THas.new (w := w.alloc (.cells #[.int .i64 (pg : Int), .int .i64 (pgs : Int), .int .i64 (rgs : Int)] 23)) H1.out S1.out H2.out S2.out B2.out (bel2 B3.out B4.out) (by omega) V4.out
    have hF : ∀ k, both S R k → k < w4.heap.size ∧ w.heap.size ≤ k := by
      intro k hk
      have := hT.lt k hk
      refine ⟨this, ?_⟩
      rcases hk with y | y
      · have := S1.out k y; omega
      · have := S2.out k y; omega
    refine ⟨P, p, q, t, r, a, b, both S R, G, rfl, ⟨ZA.out.1, hT.below BX.out, ZA.out.2.1, fun k hk hg => by have := (hF k hk).1; have := ZA.out.2.2.1 k hg; omega, fun hk => by have := (hF P hk).1; have := ZA.out.2.2.2.2.1; omega, ZA.out.2.2.2.2.2, fun hg => by have := ZA.out.2.2.1 t hg; omega, fun hk => by have := (hF r hk).1; have := ZA.out.2.2.2.1; omega⟩, ?_, ?_⟩
    · exact (bel2 HB0.out (bel2 B1.out (bel2 B2.out (bel2 B3.out (bel2 B4.out BX.out)))))
    · rintro k (y | y)
      · exact (hF k y).2
      · have := ZA.out.2.2.1 k y; omega
end Go.Proofs.YtcmjambbdfangaaGreat.Tape
/-
  A tape's calls, its device's and its account's, as the laws of chapter 12 ask them.
-/
set_option linter.unusedVariables false
set_option linter.unusedSimpArgs false
namespace Go.Proofs.YtcmjambbdfangaaGreat.Tape
open Go.RowKit
open Go.Proofs.YtcmjambbdfangaaGreat.Own
open CrcM (W)
open Crc (vl wd)
open Flash (Dev FHas RHas programD eraseD flushD readD bs list_bs)
open Chart (Ch CHas DHas openC takeC eraseC setC)
open Go.Proofs.YtcmjambbdfangaaGreat.Frame (Fr fV page bytesG)
open Tup Foot Bytes

theorem pAppend {w : World} {P p q t r p' q' : Nat} {x y : Tp} {F G : Nat → Prop} (h : Pair w P p q t r p' q' x y F G) (hd : x.Ok) (f : Fr) (hs : f.body.length ≤ maxLen) :
    Calls Tryz.prog 16 #[.pointer (some ⟨t, 0, none⟩), fV f] w fun e w' => e = .returned (.tuple #[.int .i64 ((appendT x f).1.1 : Int), .int .i64 ((appendT x f).1.2 : Int)]) ∧ ∃ F', Pair w' P p q t r p' q' (appendT x f).2 y F' G ∧ After (both F G) w w' (both F' G) := by
  obtain ⟨S, R, ht, hF⟩ := h.tt
  refine (atAppend_any ht hd f hs).mono ?_
  rintro e w' ⟨he, S', ht', a⟩
  rw [← hF] at a
  exact ⟨he, _, h.left ⟨S', R, ht', rfl⟩ a⟩
theorem pFlush {w : World} {P p q t r p' q' : Nat} {x y : Tp} {F G : Nat → Prop} (h : Pair w P p q t r p' q' x y F G) (hd : x.Ok) :
    Calls Tryz.prog 10 #[.pointer (some ⟨t, 0, none⟩)] w fun e w' => e = .returned (.int .i64 ((flushT x).1 : Int)) ∧ ∃ F', Pair w' P p q t r p' q' (flushT x).2 y F' G ∧ After (both F G) w w' (both F' G) := by
  obtain ⟨S, R, ht, hF⟩ := h.tt
  refine (atFlush_any ht hd).mono ?_
  rintro e w' ⟨he, S', ht', a⟩
  rw [← hF] at a
  exact ⟨he, _, h.left ⟨S', R, ht', rfl⟩ a⟩
theorem pErase {w : World} {P p q t r p' q' : Nat} {x y : Tp} {F G : Nat → Prop} (h : Pair w P p q t r p' q' x y F G) (hd : x.Ok) (i : Int) :
    Calls Tryz.prog 12 #[.pointer (some ⟨t, 0, none⟩), .int .i64 i] w fun e w' => e = .returned (.int .i64 ((eraseT x i).1 : Int)) ∧ ∃ F', Pair w' P p q t r p' q' (eraseT x i).2 y F' G ∧ After (both F G) w w' (both F' G) := by
  obtain ⟨S, R, ht, hF⟩ := h.tt
  refine (atErase_any ht hd i).mono ?_
  rintro e w' ⟨he, S', ht', a⟩
  rw [← hF] at a
  exact ⟨he, _, h.left ⟨S', R, ht', rfl⟩ a⟩
theorem pFuse {w : World} {P p q t r p' q' : Nat} {x y : Tp} {F G : Nat → Prop} (h : Pair w P p q t r p' q' x y F G) (hd : x.Ok) (n : Int) (hn : n < 9223372036854775808) :
    Calls Tryz.prog 14 #[.pointer (some ⟨p, 0, none⟩), .int .i64 n] w fun e w' => e = .returned (.tuple #[]) ∧ ∃ F', Pair w' P p q t r p' q' (fuseT x n) y F' G ∧ After (both F G) w w' (both F' G) := by
  obtain ⟨S, R, ht, hF⟩ := h.tt
  refine (Flash.fFuse_any ht.f hd.d n hn).mono ?_
  rintro e w' ⟨he, S', ht', a⟩
  obtain ⟨h1, h2⟩ := ht.left ht' a
  rw [← hF] at h2
  exact ⟨he, _, h.left ⟨S', R, h1, rfl⟩ h2⟩
theorem pRead {w : World} {P p q t r p' q' : Nat} {x y : Tp} {F G : Nat → Prop} (h : Pair w P p q t r p' q' x y F G) (hd : x.Ok) (i : Int) :
    Calls Tryz.prog 31 #[.pointer (some ⟨p, 0, none⟩), .int .i64 i] w fun e w' => e = .returned (.tuple #[.string (bs (readD x.d i).1), .int .i64 ((readD x.d i).2 : Int)]) ∧ Below w.heap.size w w' := by
  obtain ⟨S, R, ht, hF⟩ := h.tt
  exact Flash.fRead_any ht.f hd.d i
theorem pPending {w : World} {P p q t r p' q' : Nat} {x y : Tp} {F G : Nat → Prop} (h : Pair w P p q t r p' q' x y F G) (hd : x.Ok) :
    Calls Tryz.prog 20 #[.pointer (some ⟨p, 0, none⟩)] w fun e w' => e = .returned (.int .i64 (x.d.wait.length : Int)) ∧ Below w.heap.size w w' := by
  obtain ⟨S, R, ht, hF⟩ := h.tt
  exact Flash.fPending_any ht.f hd.d
theorem pDown {w : World} {P p q t r p' q' : Nat} {x y : Tp} {F G : Nat → Prop} (h : Pair w P p q t r p' q' x y F G) (hd : x.Ok) :
    Calls Tryz.prog 21 #[.pointer (some ⟨p, 0, none⟩)] w fun e w' => e = .returned (.bool x.d.down) ∧ Below w.heap.size w w' := by
  obtain ⟨S, R, ht, hF⟩ := h.tt
  exact Flash.fDown_any ht.f hd.d
theorem pImage {w : World} {P p q t r p' q' : Nat} {x y : Tp} {F G : Nat → Prop} (h : Pair w P p q t r p' q' x y F G) (hd : x.Ok) :
    Calls Tryz.prog 18 #[.pointer (some ⟨p, 0, none⟩)] w fun e w' => e = .returned (.string (bs x.d.img)) ∧ Below w.heap.size w w' := by
  obtain ⟨S, R, ht, hF⟩ := h.tt
  exact Flash.fImage_any ht.f hd.d
theorem pLeft {w : World} {P p q t r p' q' : Nat} {x y : Tp} {F G : Nat → Prop} (h : Pair w P p q t r p' q' x y F G) (hd : x.Ok) :
    Calls Tryz.prog 22 #[.pointer (some ⟨q, 0, none⟩)] w fun e w' => e = .returned (.int .i64 (x.c.left : Int)) ∧ Below w.heap.size w w' := by
  obtain ⟨S, R, ht, hF⟩ := h.tt
  exact Chart.cLeft_any ht.c hd.c
theorem pFree {w : World} {P p q t r p' q' : Nat} {x y : Tp} {F G : Nat → Prop} (h : Pair w P p q t r p' q' x y F G) (hd : x.Ok) :
    Calls Tryz.prog 24 #[.pointer (some ⟨q, 0, none⟩)] w fun e w' => e = .returned (.int .i64 (x.c.free : Int)) ∧ Below w.heap.size w w' := by
  obtain ⟨S, R, ht, hF⟩ := h.tt
  exact Chart.cFree_any ht.c hd.c
theorem at_read {pg pgs rgs : Nat} {t : Tp} {i : Nat} {fz : Option Nat} (h : At pg pgs rgs t i fz) {k : Nat} (hk : k < pgs * rgs) (hdn : t.d.down = false) : readD t.d (k : Int) = (t.d.held k, 0) := by
  obtain ⟨m, u, hF, _⟩ := h
  unfold readD
  rw [hdn, if_neg (by simp), if_neg]
  · simp
  · rw [Flash.has_nat (by unfold Dev.n; rw [hF.epgs, hF.ergs]; exact hk)]; simp
theorem size_bs {l : List UInt8} {n : Nat} (h : l.length = n) (hn : n ≤ 1000) : (bs l).size ≤ maxLen := by rw [Flash.bs_size, h]; unfold maxLen; omega
/-- the first frame of all -/
theorem first_append : ∃ t1, appendT (newT 32 3 4) ⟨2, 1#32, 0#32, [120]⟩ = ((1, 0), t1) ∧ readD t1.d 0 = (page 32 (headF 1 0), 0) := by
  have z : Sz 32 3 4 := ⟨by omega, by omega, by omega, by omega, by omega, by omega⟩
  have hf : (⟨2, 1#32, 0#32, [120]⟩ : Fr).Ok 32 := ⟨by show (1 : Int) ≤ 2; omega, by show (2 : Int) ≤ 4; omega, by show 1 + 15 ≤ 32; omega, by omega, by omega⟩
  obtain ⟨t1, h1, h2, h3, h4, h5⟩ := append_goes z (t := newT 32 3 4) (i := 0) (fz := none) (at_new none) (by omega) hf (fun n hn => by cases hn)
  refine ⟨t1, h1, ?_⟩
  have := at_read h2 (k := 0) (by omega) h5
  rw [show ((0 : Nat) : Int) = 0 from rfl] at this
  rw [this]
  exact congrArg (·, 0) h4
set_option maxRecDepth 100000 in
set_option maxHeartbeats 8000000 in
theorem alive_any (w : World) : Calls Tryz.prog 6 #[] w fun e w' => e = .returned (.bool true) ∧ Below w.heap.size w w' := by
  have z : Sz 32 3 4 := ⟨by omega, by omega, by omega, by omega, by omega, by omega⟩
  have HM : Hid (∀ w, Calls Tryz.prog 5 #[.agg #[.int .i64 32, .int .i64 3, .int .i64 4]] w fun e w' => ∃ P p q t r p' q' F G, e = .returned (.pointer (some ⟨P, 0, none⟩)) ∧ Pair w' P p q t r p' q' (newT 32 3 4) (newT 32 3 4) F G ∧ Below w.heap.size w w' ∧ (∀ k, both F G k → w.heap.size ≤ k)) := fun w => made_any z w
  obtain ⟨t1, e1, e2⟩ := first_append
  have OK := new_ok (pg := 32) (pgs := 3) (rgs := 4) (by omega) (by omega) (by omega) (by omega) (by omega) (by omega)
  have OK1 := append_ok OK ⟨2, 1#32, 0#32, [120]⟩
  have hA := fun w P p q t r p' q' y F G (h : Pair w P p q t r p' q' (newT 32 3 4) y F G) => pAppend h OK ⟨2, 1#32, 0#32, [120]⟩ (by show 1 ≤ maxLen; unfold maxLen; omega)
  rw [e1] at hA OK1
  have HA : Hid (∀ w P p q t r p' q' y F G, Pair w P p q t r p' q' (newT 32 3 4) y F G → Calls Tryz.prog 16 #[.pointer (some ⟨t, 0, none⟩), .agg #[.int .i64 2, .int .u32 1, .int .u32 0, .string ⟨#[120]⟩]] w fun e w' => e = .returned (.tuple #[.int .i64 1, .int .i64 0]) ∧ ∃ F', Pair w' P p q t r p' q' t1 y F' G ∧ After (both F G) w w' (both F' G)) := hA
  have hR := fun w P p q t r p' q' y F G (h : Pair w P p q t r p' q' t1 y F G) => pRead h OK1 0
  rw [e2] at hR
  have HR := Lib.hid hR
  have hL : (page 32 (headF 1 0)).length = 32 := Frame.page_length (head_fits (by omega) (by omega))
  have hFR := fun w => Frame.fRead_any (bs (page 32 (headF 1 0))) (size_bs hL (by omega)) w
  rw [list_bs, Frame.read_page (head_fits (by omega) (by omega))] at hFR
  have HFR : Hid (∀ w, Calls Tryz.prog 32 #[.string (bs (page 32 (headF 1 0)))] w fun e w' => e = .returned (.tuple #[.agg #[.int .i64 1, .int .u32 1, .int .u32 0, .string ⟨#[]⟩], .int .i64 0]) ∧ Below w.heap.size w w') := hFR
  generalize bs (page 32 (headF 1 0)) = X at HR HFR
  clear hFR hR hA hL OK1 OK e1 e2 z
  go_enter Tryz.func6, Tryz.ntmps6
  go_wp2_with (first
    | (go_at_call 5; (with_reducible refine (HM.out _).mono ?_); rintro e w1 ⟨P, p, q, t, r, p', q', F, G, rfl, h1, b1, s1⟩; have H1 := Lib.hid h1; have S1 := Lib.hid (show Safe w.heap.size w w1 (both F G) from ⟨b1, b1.size, s1⟩); clear h1 b1 s1; have x0 := H1.out.var.cell (j := 0) rfl; have x2 := H1.out.var.cell (j := 2) rfl; unfold ptr at x0 x2)
    | (go_at_call 16; (with_reducible refine (HA.out _ _ _ _ _ _ _ _ _ _ _ H1.out).mono ?_); rintro e w2 ⟨rfl, F2, h2, a2⟩; have H2 := Lib.hid h2; have S2 := Lib.hid (S1.out.after a2); clear h2 a2 x0 x2; have x0 := H2.out.var.cell (j := 0) rfl; unfold ptr at x0)
    | (go_at_call 31; (with_reducible refine (HR.out _ _ _ _ _ _ _ _ _ _ _ H2.out).mono ?_); rintro e w3 ⟨rfl, b3⟩; have S3 := Lib.hid (S2.out.below b3); clear b3 x0)
    | (go_at_call 32; (with_reducible refine (HFR.out _).mono ?_); rintro e w4 ⟨rfl, b4⟩; have S4 := Lib.hid (S3.out.below b4); have V4 := Lib.hid (Var.new w4 31 [.int .i64 1, .int .u32 1, .int .u32 0, .string ⟨#[]⟩]); clear b4; have y0 := V4.out.cell (j := 0) rfl; have y1 := V4.out.cell (j := 1) rfl; have y2 := V4.out.cell (j := 2) rfl; have y3 := V4.out.cell (j := 3) rfl))
  go_ret
  exact ⟨rfl, (S4.out.below (Geom.bel_alloc _ _)).bel⟩
end Go.Proofs.YtcmjambbdfangaaGreat.Tape
/-
  Rows of frames in memory.
-/
set_option linter.unusedVariables false
set_option linter.unusedSimpArgs false
namespace Go.Proofs.YtcmjambbdfangaaGreat.Tape
open Go.RowKit
open CrcM (W)
open Crc (vl wd)
open Go.Proofs.YtcmjambbdfangaaGreat.Frame (Fr zeroF fV)
open Tup
open Flash (bs)

def fC (x : Fr) : List Value := [.int .i64 x.kind, .int .u32 (vl x.a), .int .u32 (vl x.b), .string (bs x.body)]
def flatF (l : List Fr) : List Value := l.flatMap fC
theorem flatF_snoc (l : List Fr) (x : Fr) : flatF (l ++ [x]) = flatF l ++ fC x := by simp [flatF]
theorem flatF_length (l : List Fr) : (flatF l).length = l.length * 4 := by
  induction l with
  | nil => rfl
  | cons x r ih => simp only [flatF, List.flatMap_cons, List.length_append] at ih ⊢; rw [ih]; simp [fC]; omega
theorem flatF_at : ∀ (l : List Fr) (k : Nat) (x : Fr), l[k]? = some x → (flatF l)[k * 4]? = some (.int .i64 x.kind) ∧ (flatF l)[k * 4 + 1]? = some (.int .u32 (vl x.a)) ∧ (flatF l)[k * 4 + 2]? = some (.int .u32 (vl x.b)) ∧ (flatF l)[k * 4 + 3]? = some (.string (bs x.body))
  | [], k, x, h => by simp at h
  | y :: r, 0, x, h => by simp at h; subst h; exact ⟨rfl, rfl, rfl, rfl⟩
  | y :: r, k + 1, x, h => by
    have h1 := flatF_at r k x (by simpa using h)
    rw [show (k + 1) * 4 = k * 4 + 1 + 1 + 1 + 1 by omega]
    exact h1
/-- a row of frames lies there -/
def FAt (w : World) (a : Option Addr) (l : List Fr) : Prop := Tup.At w a (flatF l)
/-- .. that the call itself made -/
def FMine (w : World) (base : Nat) (v : Value) (l : List Fr) : Prop := w.ownsRow base 31 4 v l.length (flatF l)
theorem FMine.nil (w : World) (base : Nat) : FMine w base (.slice none 0 0) [] := ⟨rfl, .inl ⟨rfl, rfl⟩⟩
theorem FAt.below {w w' : World} {a : Option Addr} {l : List Fr} (h : FAt w a l) (hb : Below w.heap.size w w') : FAt w' a l := Tup.At.below h hb
theorem FMine.below {w w' : World} {base : Nat} {v : Value} {l : List Fr} (h : FMine w base v l) (hb : Below w.heap.size w w') : FMine w' base v l := Own.owns_below h hb
/-- such a row lies in a block of its own, beyond the base, or nowhere -/
theorem FMine.slice {w : World} {base : Nat} {v : Value} {l : List Fr} (h : FMine w base v l) : ∃ a c, v = .slice a l.length c ∧ FAt w a l ∧ ∀ b off, a = some ⟨b, off, none⟩ → base ≤ b ∧ b < w.heap.size := by
  rcases h.2 with ⟨rfl, h0⟩ | ⟨g, cap, cur, rfl, h1, h2, hc, h3⟩
  · exact ⟨none, 0, by rw [h0], Tup.At.of_owns h, fun b off e => by simp at e⟩
  · exact ⟨_, cap, rfl, Tup.At.of_owns h, fun b off e => by cases e; exact ⟨h1, (Array.getElem?_eq_some_iff.1 h2).1⟩⟩
theorem FAt.get {w : World} {a : Option Addr} {l : List Fr} (h : FAt w a l) {k : Nat} {x : Fr} (hx : l[k]? = some x) :
    ∃ b off, a = some ⟨b, off, none⟩ ∧ b < w.heap.size ∧ w.cell? ⟨b, off + k * 4, none⟩ = some (.int .i64 x.kind) ∧ w.cell? ⟨b, off + k * 4 + 1, none⟩ = some (.int .u32 (vl x.a)) ∧ w.cell? ⟨b, off + k * 4 + 2, none⟩ = some (.int .u32 (vl x.b)) ∧ w.cell? ⟨b, off + k * 4 + 3, none⟩ = some (.string (bs x.body)) := by
  obtain ⟨h0, h1, h2, h3⟩ := flatF_at l k x hx
  rcases h with hn | ⟨b, off, ha, hl⟩
  · rw [hn] at h0; simp at h0
  · refine ⟨b, off, ha, block_lt_of_cell (hl _ _ h0), hl _ _ h0, ?_, ?_, ?_⟩
    · have := hl _ _ h1; rwa [← Nat.add_assoc] at this
    · have := hl _ _ h2; rwa [← Nat.add_assoc] at this
    · have := hl _ _ h3; rwa [← Nat.add_assoc] at this
theorem infoF : (Tryz.prog.info? 31).map (fun i => (i.zero, i.size, i.bytes)) = some (some (.agg #[.int .i64 0, .int .u32 0, .int .u32 0, .string ⟨#[]⟩]), 4, 32) := by kernel_rfl
/-- the frames that a law makes of raw texts -/
def cutS (pg : Nat) (b : ByteArray) : List UInt8 := b.data.toList.take (pg - 15)
def frameAt (pg k : Nat) (b : ByteArray) : Fr := ⟨2, BitVec.ofNat 32 (k + 1), BitVec.ofNat 32 b.size, cutS pg b⟩
def framesTo (pg : Nat) (l : List ByteArray) : Nat → List Fr
  | 0 => []
  | k + 1 => framesTo pg l k ++ [frameAt pg k (l.getD k ⟨#[]⟩)]
theorem framesTo_len (pg : Nat) (l : List ByteArray) : ∀ k, (framesTo pg l k).length = k
  | 0 => rfl
  | k + 1 => by rw [framesTo, List.length_append, framesTo_len pg l k]; rfl
theorem framesTo_get (pg : Nat) (l : List ByteArray) : ∀ n k, k < n → (framesTo pg l n)[k]? = some (frameAt pg k (l.getD k ⟨#[]⟩))
  | 0, k, h => by omega
  | n + 1, k, h => by
    rw [framesTo]
    by_cases e : k < n
    · rw [List.getElem?_append_left (by rw [framesTo_len]; exact e)]; exact framesTo_get pg l n k e
    · obtain rfl : k = n := by omega
      rw [List.getElem?_append_right (by rw [framesTo_len]; omega), framesTo_len, Nat.sub_self]; rfl
theorem frameAt_ok {pg k : Nat} {b : ByteArray} (p0 : 32 ≤ pg) (p1 : pg ≤ 128) : (frameAt pg k b).Ok pg :=
  ⟨by show (1 : Int) ≤ 2; omega, by show (2 : Int) ≤ 4; omega, by show ((b.data.toList.take (pg - 15)).length) + 15 ≤ pg; rw [List.length_take]; omega, p0, p1⟩
theorem frameAt_len {pg k : Nat} {b : ByteArray} (p0 : 32 ≤ pg) (p1 : pg ≤ 128) : (frameAt pg k b).body.length ≤ maxLen := by
  have := (frameAt_ok (k := k) (b := b) p0 p1).fits
  unfold maxLen; omega
end Go.Proofs.YtcmjambbdfangaaGreat.Tape
