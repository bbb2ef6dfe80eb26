/-
  Joined texts: FlashN, FlashXa, FlashXb, FlashXc.
-/
import Derived.Test.YtcmjambbdfangaaRunFlashA
import Derived.Test.YtcmjambbdfangaaRunGeomA
/-
  What the document's own device is when it is new.
-/
set_option linter.unusedVariables false
set_option linter.unusedSimpArgs false
namespace Go.Proofs.Ytcmjambbdfangaa.Flash
open Go.RowKit
open Go.Proofs.Ytcmjambbdfangaa.Own
open Tup Bytes Foot
open Go.Proofs.Ytcmjambbdfangaa.Region (fill Then Deps Each wp_region_tail)

/-- the values of NewFlash's operations: its bytes are new -/
def NV (tab : List Value) (base N : Nat) (bytes : List UInt8) : Nat → Value → World → Prop := fun i v w => if i = 9 then (∃ g0 cap, v = .slice (some ⟨g0, 0, none⟩) N cap ∧ N ≤ cap ∧ Row8 w g0 bytes ∧ base ≤ g0 ∧ g0 < w.heap.size) else v = tab.getD i undef
theorem NV.mono (tab : List Value) (base N : Nat) (bytes : List UInt8) : ∀ i v w w', NV tab base N bytes i v w → Below w.heap.size w w' → NV tab base N bytes i v w' := by
  intro i v w w' h hb
  unfold NV at h ⊢
  split
  · rename_i e
    rw [if_pos e] at h
    obtain ⟨g, cap, h1, h2, h3, h4, h5⟩ := h
    exact ⟨g, cap, h1, h2, h3.below hb, h4, Nat.lt_of_lt_of_le h5 hb.size⟩
  · rename_i e
    rw [if_neg e] at h; exact h
set_option maxRecDepth 100000 in
set_option maxHeartbeats 8000000 in
theorem refNew_full (pg pgs rgs : Nat) (im : ByteArray) (hi : im.size ≤ pg * pgs * rgs) (p0 : 32 ≤ pg) (p1 : pg ≤ 128) (s0 : 3 ≤ pgs) (s1 : pgs ≤ 10) (r0 : 4 ≤ rgs) (r1 : rgs ≤ 12) (w : World) :
    Calls Try.prog 29 #[.agg #[.int .i64 (pg : Int), .int .i64 (pgs : Int), .int .i64 (rgs : Int)], .string im] w fun e w' => ∃ p bB cap, e = .returned (ptr p) ∧ RAt w' p (newD pg pgs rgs im.data.toList) bB cap (.slice none 0 0) 0 ∧ Below w.heap.size w w' ∧ w.heap.size ≤ p ∧ w.heap.size ≤ bB := by
  obtain ⟨N, hN⟩ : ∃ N, N = pg * pgs * rgs := ⟨_, rfl⟩
  have hN1 : N ≤ 15360 := by rw [hN]; exact Nat.mul_le_mul (Nat.mul_le_mul p1 s1) r1
  rw [← hN] at hi
  have HS := Lib.hid (fun w => Geom.refSize_any ⟨pg, pgs, rgs⟩ ⟨by simp only; omega, by simp only; omega, by simp only; omega, by simp only; omega, by simp only; omega, by simp only; omega⟩ w)
  have hsz : Geom.sizeG ⟨pg, pgs, rgs⟩ = (N : Int) := by unfold Geom.sizeG; rw [hN]; simp only [Int.natCast_mul]
  rw [hsz] at HS
  unfold Geom.gV at HS
  have HF := Lib.hid (fun w => fill_any 255 ((N : Int) - (im.size : Int)) (N - im.size) (.inl (by omega)) (by omega) w)
  rw [show (((255 : UInt8).toNat : Int)) = 255 from rfl] at HF
  obtain ⟨BY, hBY⟩ : ∃ BY, BY = im ++ bs (List.replicate (N - im.size) 255) := ⟨_, rfl⟩
  have hBl : BY.data.toList = im.data.toList ++ List.replicate (N - im.size) 255 := by rw [hBY]; simp [bs]
  have hBs : BY.size = N := by
    have : BY.data.toList.length = N := by rw [hBl, List.length_append, List.length_replicate]; simp; omega
    simpa using this
  have hcv := fun w => Lib.run_convert_string_bytes (P := Try.prog) w 9 78 5 BY Try.underlying9 Try.underlying78 Try.underlying5
  rw [hBs] at hcv
  have HD := Lib.hid (show newD pg pgs rgs im.data.toList = ⟨pg, pgs, rgs, BY.data.toList, [], none, false⟩ by
    unfold newD
    rw [hBl, hN]
    simp)
  have HBs := Lib.hid hBs
  have HBY := Lib.hid hBY
  have hcap : ∀ w, N ≤ grownCap w N 0 5 := fun w => grownCap_ge w N 0 5
  have hsum : im.size + (N - im.size) ≤ 15360 := by omega
  have hbz : (bs (List.replicate (N - im.size) (255 : UInt8))).size = N - im.size := by rw [bs_size, List.length_replicate]
  clear hsz hN hBl hBY hBs
  go_enter Try.func29, Try.ntmps29
  go_wp2
  refine wp_region_tail 10 [5, 6, 7, 8, 9, 10, 11, 12, 13, 14] (fun w' => Below (w.alloc (.cells #[.int .i64 (pg : Int), .int .i64 (pgs : Int), .int .i64 (rgs : Int)] 23)).heap.size (w.alloc (.cells #[.int .i64 (pg : Int), .int .i64 (pgs : Int), .int .i64 (rgs : Int)] 23)) w') (NV [.agg #[.int .i64 (pg : Int), .int .i64 (pgs : Int), .int .i64 (rgs : Int)], .string im, .agg #[.int .i64 (pg : Int), .int .i64 (pgs : Int), .int .i64 (rgs : Int)], .int .i64 ((N : Nat) : Int), .string im, .int .i64 (im.size : Int), .int .i64 ((N : Int) - (im.size : Int)), .string (bs (List.replicate (N - im.size) 255)), .string (im ++ bs (List.replicate (N - im.size) 255))] (w.alloc (.cells #[.int .i64 (pg : Int), .int .i64 (pgs : Int), .int .i64 (rgs : Int)] 23)).heap.size N BY.data.toList) (by kernel_rfl) (by kernel_rfl) (by kernel_rfl) (by decide) rfl (by decide) (by simp) (NV.mono _ _ _ _) (Below.refl _ _).drew ?each ?tail
  case each =>
    simp only [List.take_succ_cons, List.take_zero, Each]
    refine ⟨?o0, ?o1, ?o2, ?o3, ?o4, ?o5, ?o6, ?o7, ?o8, ?o9, trivial⟩
    case o0 =>
      intro ys wx hBx hdeps
      simp only [Deps, Region.binds, List.getD_cons_zero, List.getD_cons_succ, forall_const, and_true, true_and] at hdeps
      have c0 : wx.cell? ⟨w.heap.size, 0, none⟩ = some (.int .i64 (pg : Int)) := ((Var.new w 23 [.int .i64 (pg : Int), .int .i64 (pgs : Int), .int .i64 (rgs : Int)]).below hBx (by simp)).cell rfl
      have c1 : wx.cell? ⟨w.heap.size, 1, none⟩ = some (.int .i64 (pgs : Int)) := ((Var.new w 23 [.int .i64 (pg : Int), .int .i64 (pgs : Int), .int .i64 (rgs : Int)]).below hBx (by simp)).cell rfl
      have c2 : wx.cell? ⟨w.heap.size, 2, none⟩ = some (.int .i64 (rgs : Int)) := ((Var.new w 23 [.int .i64 (pg : Int), .int .i64 (pgs : Int), .int .i64 (rgs : Int)]).below hBx (by simp)).cell rfl
      clear hdeps
      simp only [fill, List.foldl_cons, List.foldl_nil, Act.put, List.setIfInBounds_toArray, List.set_cons_succ, List.set_cons_zero]
      go_wp2_with fail
      exact ⟨_, rfl, rfl, hBx, Below.refl _ _⟩
    case o1 =>
      intro ys wx hBx hdeps
      simp only [Deps, Region.binds, List.getD_cons_zero, List.getD_cons_succ, forall_const, and_true, true_and] at hdeps
      clear hdeps
      simp only [fill, List.foldl_cons, List.foldl_nil, Act.put, List.setIfInBounds_toArray, List.set_cons_succ, List.set_cons_zero]
      go_wp2_with fail
      exact ⟨_, rfl, rfl, hBx, Below.refl _ _⟩
    case o2 =>
      intro ys wx hBx hdeps
      simp only [Deps, Region.binds, List.getD_cons_zero, List.getD_cons_succ, forall_const, and_true, true_and] at hdeps
      have c0 : wx.cell? ⟨w.heap.size, 0, none⟩ = some (.int .i64 (pg : Int)) := ((Var.new w 23 [.int .i64 (pg : Int), .int .i64 (pgs : Int), .int .i64 (rgs : Int)]).below hBx (by simp)).cell rfl
      have c1 : wx.cell? ⟨w.heap.size, 1, none⟩ = some (.int .i64 (pgs : Int)) := ((Var.new w 23 [.int .i64 (pg : Int), .int .i64 (pgs : Int), .int .i64 (rgs : Int)]).below hBx (by simp)).cell rfl
      have c2 : wx.cell? ⟨w.heap.size, 2, none⟩ = some (.int .i64 (rgs : Int)) := ((Var.new w 23 [.int .i64 (pg : Int), .int .i64 (pgs : Int), .int .i64 (rgs : Int)]).below hBx (by simp)).cell rfl
      clear hdeps
      simp only [fill, List.foldl_cons, List.foldl_nil, Act.put, List.setIfInBounds_toArray, List.set_cons_succ, List.set_cons_zero]
      go_wp2_with fail
      exact ⟨_, rfl, rfl, hBx, Below.refl _ _⟩
    case o3 =>
      intro ys wx hBx hdeps
      simp only [Deps, Region.binds, List.getD_cons_zero, List.getD_cons_succ, forall_const, and_true, true_and] at hdeps
      have y2 : ys 7 = .agg #[.int .i64 (pg : Int), .int .i64 (pgs : Int), .int .i64 (rgs : Int)] := by first | exact hdeps | exact hdeps.1 | exact hdeps.2
      clear hdeps
      simp only [y2, fill, List.foldl_cons, List.foldl_nil, Act.put, List.setIfInBounds_toArray, List.set_cons_succ, List.set_cons_zero]
      go_wp2_with (go_at_call 59; (with_reducible refine (HS.out _).mono ?_); rintro e w3 ⟨rfl, hn3⟩)
      exact ⟨_, rfl, rfl, hBx.trans (hn3.mono hBx.size), hn3⟩
    case o4 =>
      intro ys wx hBx hdeps
      simp only [Deps, Region.binds, List.getD_cons_zero, List.getD_cons_succ, forall_const, and_true, true_and] at hdeps
      clear hdeps
      simp only [fill, List.foldl_cons, List.foldl_nil, Act.put, List.setIfInBounds_toArray, List.set_cons_succ, List.set_cons_zero]
      go_wp2_with fail
      exact ⟨_, rfl, rfl, hBx, Below.refl _ _⟩
    case o5 =>
      intro ys wx hBx hdeps
      simp only [Deps, Region.binds, List.getD_cons_zero, List.getD_cons_succ, forall_const, and_true, true_and] at hdeps
      have y4 : ys 9 = .string im := by first | exact hdeps | exact hdeps.1 | exact hdeps.2
      clear hdeps
      simp only [y4, fill, List.foldl_cons, List.foldl_nil, Act.put, List.setIfInBounds_toArray, List.set_cons_succ, List.set_cons_zero]
      go_wp2_with fail
      exact ⟨_, rfl, rfl, hBx, Below.refl _ _⟩
    case o6 =>
      intro ys wx hBx hdeps
      simp only [Deps, Region.binds, List.getD_cons_zero, List.getD_cons_succ, forall_const, and_true, true_and] at hdeps
      have y3 : ys 8 = .int .i64 ((N : Nat) : Int) := by first | exact hdeps | exact hdeps.1 | exact hdeps.2
      have y5 : ys 10 = .int .i64 (im.size : Int) := by first | exact hdeps | exact hdeps.1 | exact hdeps.2
      clear hdeps
      simp only [y3, y5, fill, List.foldl_cons, List.foldl_nil, Act.put, List.setIfInBounds_toArray, List.set_cons_succ, List.set_cons_zero]
      go_wp2_with fail
      exact ⟨_, rfl, rfl, hBx, Below.refl _ _⟩
    case o7 =>
      intro ys wx hBx hdeps
      simp only [Deps, Region.binds, List.getD_cons_zero, List.getD_cons_succ, forall_const, and_true, true_and] at hdeps
      have y6 : ys 11 = .int .i64 ((N : Int) - (im.size : Int)) := by first | exact hdeps | exact hdeps.1 | exact hdeps.2
      clear hdeps
      simp only [y6, fill, List.foldl_cons, List.foldl_nil, Act.put, List.setIfInBounds_toArray, List.set_cons_succ, List.set_cons_zero]
      go_wp2_with (go_at_call 58; (with_reducible refine (HF.out _).mono ?_); rintro e w3 ⟨rfl, hn3⟩)
      exact ⟨_, rfl, rfl, hBx.trans (hn3.mono hBx.size), hn3⟩
    case o8 =>
      intro ys wx hBx hdeps
      simp only [Deps, Region.binds, List.getD_cons_zero, List.getD_cons_succ, forall_const, and_true, true_and] at hdeps
      have y1 : ys 6 = .string im := by first | exact hdeps | exact hdeps.1 | exact hdeps.2
      have y7 : ys 12 = .string (bs (List.replicate (N - im.size) 255)) := by first | exact hdeps | exact hdeps.1 | exact hdeps.2
      clear hdeps
      simp only [y1, y7, fill, List.foldl_cons, List.foldl_nil, Act.put, List.setIfInBounds_toArray, List.set_cons_succ, List.set_cons_zero]
      go_wp2_with fail
      exact ⟨_, rfl, rfl, hBx, Below.refl _ _⟩
    case o9 =>
      intro ys wx hBx hdeps
      simp only [Deps, Region.binds, List.getD_cons_zero, List.getD_cons_succ, forall_const, and_true, true_and] at hdeps
      have y8 : ys 13 = .string (im ++ bs (List.replicate (N - im.size) 255)) := by first | exact hdeps | exact hdeps.1 | exact hdeps.2
      clear hdeps
      rw [← HBY.out] at y8
      simp only [y8, fill, List.foldl_cons, List.foldl_nil, Act.put, List.setIfInBounds_toArray, List.set_cons_succ, List.set_cons_zero]
      go_wp2_with fail
      have hbb := bytes_below wx 5 BY
      have hss : (Lib.bytesWorld wx 5 BY).heap.size = wx.heap.size + 1 := Lib.bytesWorld_size _ _ _
      exact ⟨_, rfl, ⟨wx.heap.size, _, rfl, hcap wx, Row8.of_string wx 5 BY, hBx.size, by omega⟩, hBx.trans (hbb.mono hBx.size), hbb⟩
  case tail =>
    intro ys wx hBx hV
    have h5 : ys 5 = .agg #[.int .i64 (pg : Int), .int .i64 (pgs : Int), .int .i64 (rgs : Int)] := hV 0 (by decide)
    have h14 : ∃ g0 cap, ys 14 = .slice (some ⟨g0, 0, none⟩) N cap ∧ N ≤ cap ∧ Row8 wx g0 BY.data.toList ∧ (w.alloc (.cells #[.int .i64 (pg : Int), .int .i64 (pgs : Int), .int .i64 (rgs : Int)] 23)).heap.size ≤ g0 ∧ g0 < wx.heap.size := hV 9 (by decide)
    with_reducible refine Exists.elim h14 ?_
    intro g0 h14
    with_reducible refine Exists.elim h14 ?_
    intro cap hh
    have hg0 := hh.1
    have HC := Lib.hid hh.2.1
    have HR := Lib.hid hh.2.2.1
    have HG := Lib.hid hh.2.2.2
    have HB := Lib.hid (Geom.bel0 (Geom.bel_alloc w (.cells #[.int .i64 (pg : Int), .int .i64 (pgs : Int), .int .i64 (rgs : Int)] 23)) hBx)
    clear hh h14 hV hBx
    simp only [h5, hg0, fill, List.drop_succ_cons, List.drop_zero, List.foldl_cons, List.foldl_nil, Act.put, List.setIfInBounds_toArray, List.set_cons_succ, List.set_cons_zero]
    go_wp2
    go_ret
    have hs0 : (w.alloc (.cells #[.int .i64 (pg : Int), .int .i64 (pgs : Int), .int .i64 (rgs : Int)] 23)).heap.size = w.heap.size + 1 := by simp
    refine ⟨wx.heap.size, g0, cap, rfl, ?_, HB.out.alloc HB.out.size _, HB.out.size, by have := HG.out.1; omega⟩
    rw [HD.out]
    have hv := Var.new wx 102 [.int .i64 (pg : Int), .int .i64 (pgs : Int), .int .i64 (rgs : Int), .slice (some ⟨g0, 0, none⟩) N cap, .slice none 0 0, .bool false, .int .i64 0, .bool false]
    have hl : BY.data.toList.length = N := by simpa using HBs.out
    refine ⟨?_, HR.out.alloc _, by have := HG.out.2; simp; omega, ⟨rfl, .inl ⟨rfl, rfl⟩⟩, by simp, by omega, by rw [hl]; exact HC.out, by have := HG.out.2; omega, by simp [Value.ownBlock], by simp [Value.ownBlock]⟩
    simp only [hl]
    exact hv
theorem refNew_any (pg pgs rgs : Nat) (im : ByteArray) (hi : im.size ≤ pg * pgs * rgs) (p0 : 32 ≤ pg) (p1 : pg ≤ 128) (s0 : 3 ≤ pgs) (s1 : pgs ≤ 10) (r0 : 4 ≤ rgs) (r1 : rgs ≤ 12) (w : World) :
    Calls Try.prog 29 #[.agg #[.int .i64 (pg : Int), .int .i64 (pgs : Int), .int .i64 (rgs : Int)], .string im] w fun e w' => ∃ p S, e = .returned (ptr p) ∧ RHas w' p (newD pg pgs rgs im.data.toList) S ∧ Below w.heap.size w w' ∧ ∀ k, S k → w.heap.size ≤ k := by
  refine (refNew_full pg pgs rgs im hi p0 p1 s0 s1 r0 r1 w).mono ?_
  rintro e w' ⟨p, bB, cap, h1, h2, h3, h4, h5⟩
  refine ⟨p, foot p bB (.slice none 0 0), h1, ⟨bB, cap, _, _, h2, rfl⟩, h3, ?_⟩
  rintro k (rfl | rfl | hk)
  · exact h4
  · exact h5
  · simp [Value.ownBlock] at hk
end Go.Proofs.Ytcmjambbdfangaa.Flash
/-
  The landed device in memory, and what its small calls answer.
-/
set_option linter.unusedVariables false
set_option linter.unusedSimpArgs false
namespace Go.Proofs.Ytcmjambbdfangaa.Flash
open Go.RowKit
open Go.Proofs.Ytcmjambbdfangaa.Own
open Tup Bytes Foot
open Go.Proofs.Ytcmjambbdfangaa.Region (fill Then Deps Each wp_region_is wp_region_is_tail)

/-- a page that is pending, as the landed device has it: its bytes are a row of their own -/
structure Ent where
  q : Nat
  b : List UInt8
  g : Nat
  c : Nat
def rowC (l : List Ent) : List Value := l.flatMap fun x => [.int .i64 (x.q : Int), .slice (some ⟨x.g, 0, none⟩) x.b.length x.c]
theorem rowC_length (l : List Ent) : (rowC l).length = l.length * 2 := by
  induction l with
  | nil => rfl
  | cons x r ih => simp only [rowC, List.flatMap_cons, List.length_append] at ih ⊢; simp only [List.length_cons, List.length_nil, ih]; omega
theorem rowC_append (a b : List Ent) : rowC (a ++ b) = rowC a ++ rowC b := by simp [rowC]
theorem rowC_get {l : List Ent} {k : Nat} (h : k < l.length) : (rowC l)[2 * k]? = some (.int .i64 (l[k].q : Int)) ∧ (rowC l)[2 * k + 1]? = some (.slice (some ⟨l[k].g, 0, none⟩) l[k].b.length l[k].c) := by
  induction l generalizing k with
  | nil => simp at h
  | cons x r ih =>
    cases k with
    | zero => exact ⟨rfl, rfl⟩
    | succ k =>
      have := ih (k := k) (by simpa using h)
      simp only [rowC, List.flatMap_cons] at this ⊢
      rw [show 2 * (k + 1) = 2 * k + 2 by omega, show 2 * k + 2 + 1 = (2 * k + 1) + 2 by omega]
      exact this
def entW (x : Ent) : Nat × List UInt8 := (x.q, x.b)
/-- the landed device, at p: its bytes at bB, what is pending in wv -/
structure FAt (w : World) (p : Nat) (d : Dev) (bB cap : Nat) (wv : Value) (fz : Nat) (E : List Ent) : Prop where
  var : Var w p 83 [.int .i64 (d.pg : Int), .int .i64 (d.pgs : Int), .int .i64 (d.rgs : Int), .slice (some ⟨bB, 0, none⟩) d.img.length cap, wv, .bool d.down, .bool d.fuse.isSome, .int .i64 (fz : Int)]
  row : Row8 w bB d.img
  lt : bB < w.heap.size
  wait : w.ownsRow 0 80 2 wv E.length (rowC E)
  ents : d.wait = E.map entW
  rows : ∀ x ∈ E, Row8 w x.g x.b ∧ x.b.length ≤ x.c ∧ x.g < w.heap.size ∧ x.g ≠ p ∧ x.g ≠ bB ∧ wv.ownBlock ≠ some x.g
  fuz : ∀ k, d.fuse = some k → fz = k
  fuz0 : fz < 9223372036854775808
  capl : d.img.length ≤ cap
  ne1 : bB ≠ p
  ne2 : wv.ownBlock ≠ some p
  ne3 : wv.ownBlock ≠ some bB
/-- the blocks that it has -/
def footF (p bB : Nat) (wv : Value) (E : List Ent) : Nat → Prop := fun k => k = p ∨ k = bB ∨ wv.ownBlock = some k ∨ ∃ x ∈ E, x.g = k
theorem FAt.grows {S : Nat → Prop} {w w' : World} {p : Nat} {d : Dev} {bB cap : Nat} {wv : Value} {fz : Nat} {E : List Ent} (h : FAt w p d bB cap wv fz E) (g : Grows S w w') (hn : ∀ k, footF p bB wv E k → ¬ S k) : FAt w' p d bB cap wv fz E :=
  ⟨g.var h.var (hn p (.inl rfl)), h.row.grows g (hn bB (.inr (.inl rfl))), Nat.lt_of_lt_of_le h.lt g.size, owns_grows h.wait g (fun k hk => hn k (.inr (.inr (.inl hk)))), h.ents,
    fun x hx => by
      obtain ⟨a, b, c, e⟩ := h.rows x hx
      exact ⟨a.grows g (hn _ (.inr (.inr (.inr ⟨x, hx, rfl⟩)))), b, Nat.lt_of_lt_of_le c g.size, e⟩,
    h.fuz, h.fuz0, h.capl, h.ne1, h.ne2, h.ne3⟩
theorem FAt.below {w w' : World} {p : Nat} {d : Dev} {bB cap : Nat} {wv : Value} {fz : Nat} {E : List Ent} (h : FAt w p d bB cap wv fz E) (g : Below w.heap.size w w') : FAt w' p d bB cap wv fz E := h.grows (Grows.of_below (S := fun _ => False) g) (fun _ _ x => x)
theorem FAt.foot_lt {w : World} {p : Nat} {d : Dev} {bB cap : Nat} {wv : Value} {fz : Nat} {E : List Ent} (h : FAt w p d bB cap wv fz E) : ∀ k, footF p bB wv E k → k < w.heap.size := by
  rintro k (rfl | rfl | hk | ⟨x, hx, rfl⟩)
  · exact h.var.lt
  · exact h.lt
  · exact Flash.owns_lt h.wait hk
  · exact (h.rows x hx).2.2.1
theorem FAt.wlen {w : World} {p : Nat} {d : Dev} {bB cap : Nat} {wv : Value} {fz : Nat} {E : List Ent} (h : FAt w p d bB cap wv fz E) : E.length = d.wait.length := by rw [h.ents, List.length_map]
theorem FAt.slice {w : World} {p : Nat} {d : Dev} {bB cap : Nat} {wv : Value} {fz : Nat} {E : List Ent} (h : FAt w p d bB cap wv fz E) : ∃ a c, wv = .slice a E.length c := owns_slice h.wait
/-- what stands at p is turned alone -/
theorem FAt.turn {w w' : World} {p : Nat} {d e : Dev} {bB cap : Nat} {wv : Value} {fz fy : Nat} {E : List Ent} (h : FAt w p d bB cap wv fz E) (g : Grows (· = p) w w')
    (hv : Var w' p 83 [.int .i64 (e.pg : Int), .int .i64 (e.pgs : Int), .int .i64 (e.rgs : Int), .slice (some ⟨bB, 0, none⟩) e.img.length cap, wv, .bool e.down, .bool e.fuse.isSome, .int .i64 (fy : Int)])
    (hi : e.img = d.img) (hw : e.wait = d.wait) (hf : ∀ k, e.fuse = some k → fy = k) (hf0 : fy < 9223372036854775808) : FAt w' p e bB cap wv fy E :=
  ⟨hv, by rw [hi]; exact h.row.grows g h.ne1, Nat.lt_of_lt_of_le h.lt g.size, owns_grows h.wait g (fun k hk e => h.ne2 (by rw [← e]; exact hk)), by rw [hw]; exact h.ents,
    fun x hx => by
      obtain ⟨a, b, c, u, v⟩ := h.rows x hx
      exact ⟨a.grows g u, b, Nat.lt_of_lt_of_le c g.size, u, v⟩,
    hf, hf0, by rw [hi]; exact h.capl, h.ne1, h.ne2, h.ne3⟩
theorem FAt.pend {w : World} {p : Nat} {d : Dev} {bB cap : Nat} {a : Option Addr} {m c fz k : Nat} {E : List Ent} (h : FAt w p d bB cap (.slice a m c) fz E) (hk : k < E.length) :
    ∃ g, a = some ⟨g, 0, none⟩ ∧ w.cell? ⟨g, k * 2, none⟩ = some (.int .i64 (E[k].q : Int)) ∧ w.cell? ⟨g, k * 2 + 1, none⟩ = some (.slice (some ⟨E[k].g, 0, none⟩) E[k].b.length E[k].c) := by
  obtain ⟨h0, h1⟩ := rowC_get hk
  rcases At.of_owns h.wait with hn | ⟨b, off, ha, hl⟩
  · have := rowC_length E
    rw [hn] at this
    simp at this; omega
  · obtain ⟨_, rfl, _, _⟩ := owns_block h.wait b off ha
    refine ⟨b, ha, ?_, ?_⟩
    · have := hl _ _ h0
      rwa [Nat.zero_add, Nat.mul_comm] at this
    · have := hl _ _ h1
      rwa [Nat.zero_add, Nat.mul_comm] at this
/-- the landed device, with the blocks that it has -/
def FHas (w : World) (p : Nat) (d : Dev) (S : Nat → Prop) : Prop := ∃ bB cap wv fz E, FAt w p d bB cap wv fz E ∧ S = footF p bB wv E
theorem FHas.grows {T S : Nat → Prop} {w w' : World} {p : Nat} {d : Dev} (h : FHas w p d S) (g : Grows T w w') (hn : ∀ k, S k → ¬ T k) : FHas w' p d S := by
  obtain ⟨a, b, c, f, E, h, rfl⟩ := h
  exact ⟨a, b, c, f, E, h.grows g hn, rfl⟩
theorem FHas.lt {w : World} {p : Nat} {d : Dev} {S : Nat → Prop} (h : FHas w p d S) : ∀ k, S k → k < w.heap.size := by
  obtain ⟨a, b, c, f, E, h, rfl⟩ := h
  exact h.foot_lt
set_option maxRecDepth 100000 in
theorem atDown_any {w : World} {p : Nat} {d : Dev} {bB cap : Nat} {wv : Value} {fz : Nat} {E : List Ent} (h : FAt w p d bB cap wv fz E) :
    Calls Try.prog 28 #[ptr p] w fun e w' => e = .returned (.bool d.down) ∧ w = w' := by
  have c5 := h.var.cell (j := 5) rfl
  clear h
  unfold ptr
  go_enter Try.func28, Try.ntmps28
  go_wp2
  go_ret
  exact ⟨rfl, rfl⟩
set_option maxRecDepth 100000 in
theorem atPending_any {w : World} {p : Nat} {d : Dev} {bB cap : Nat} {wv : Value} {fz : Nat} {E : List Ent} (h : FAt w p d bB cap wv fz E) :
    Calls Try.prog 17 #[ptr p] w fun e w' => e = .returned (.int .i64 (d.wait.length : Int)) ∧ w = w' := by
  have hL := h.wlen
  obtain ⟨a, c, rfl⟩ := h.slice
  have c4 := h.var.cell (j := 4) rfl
  rw [hL] at c4
  clear h hL
  unfold ptr
  go_enter Try.func17, Try.ntmps17
  go_wp2
  go_ret
  exact ⟨rfl, rfl⟩
set_option maxRecDepth 100000 in
theorem atGeom_any {w : World} {p : Nat} {d : Dev} {bB cap : Nat} {wv : Value} {fz : Nat} {E : List Ent} (h : FAt w p d bB cap wv fz E) :
    Calls Try.prog 32 #[ptr p] w fun e w' => e = .returned (Geom.gV ⟨d.pg, d.pgs, d.rgs⟩) ∧ Below w.heap.size w w' := by
  have c0 := h.var.cell (j := 0) rfl
  have c1 := h.var.cell (j := 1) rfl
  have c2 := h.var.cell (j := 2) rfl
  have hp := h.var.lt
  clear h
  unfold ptr Geom.gV
  go_enter Try.func32, Try.ntmps32
  go_wp2
  refine bodyPost_ret (v := .agg #[.int .i64 (d.pg : Int), .int .i64 (d.pgs : Int), .int .i64 (d.rgs : Int)]) (by simp [results, Try.results32, go_sem]) rfl ⟨rfl, Geom.bel_alloc _ _⟩
/-- what a call that counts answers -/
def Dev.code (d : Dev) : Int := if d.blow.1 then 6 else 0
theorem code_ok {d : Dev} (h : d.blow.1 = false) : d.code = 0 := by unfold Dev.code; rw [h]; rfl
theorem code_blown {d : Dev} (h : d.blow.1 = true) : d.code = 6 := by unfold Dev.code; rw [h]; rfl
set_option maxRecDepth 100000 in
theorem atCount_any {w : World} {p : Nat} {d : Dev} {bB cap : Nat} {wv : Value} {fz : Nat} {E : List Ent} (h : FAt w p d bB cap wv fz E) :
    Calls Try.prog 73 #[ptr p] w fun e w' => e = .returned (.int .i64 d.code) ∧ Grows (· = p) w w' ∧ ∃ fy, FAt w' p d.blow.2 bB cap wv fy E := by
  have c5 := h.var.cell (j := 5) rfl
  have c6 := h.var.cell (j := 6) rfl
  have c7 := h.var.cell (j := 7) rfl
  have f5 := h.var.frozen 5
  have f7 := h.var.frozen 7
  have HA := Lib.hid h
  unfold ptr
  rcases hf : d.fuse with _ | k
  · rw [hf] at c6
    have HE := Lib.hid (show d.blow = (false, d) by unfold Dev.blow; rw [hf])
    have HC := Lib.hid (code_ok (d := d) (by rw [HE.out]))
    clear h hf
    go_enter Try.func73, Try.ntmps73
    go_wp2
    go_ret
    rw [HE.out, HC.out]
    exact ⟨rfl, .refl _ _, fz, HA.out⟩
  · obtain rfl := h.fuz k hf
    rw [hf] at c6
    cases fz with
    | zero =>
      have HE := Lib.hid (show d.blow = (true, { d with down := true }) by unfold Dev.blow; rw [hf])
      have HF := Lib.hid hf
      have HC := Lib.hid (code_blown (d := d) (by rw [HE.out]))
      clear h hf
      go_enter Try.func73, Try.ntmps73
      go_wp2
      go_ret
      rw [HE.out, HC.out]
      refine ⟨rfl, Grows.set _ _ _ rfl, 0, HA.out.turn (Grows.set _ _ _ rfl) ?_ rfl rfl HA.out.fuz HA.out.fuz0⟩
      exact HA.out.var.set 5 (.bool true)
    | succ k =>
      have HE := Lib.hid (show d.blow = (false, { d with fuse := some k }) by unfold Dev.blow; rw [hf])
      have HF := Lib.hid hf
      have HC := Lib.hid (code_ok (d := d) (by rw [HE.out]))
      have b0 := h.fuz0
      have d1 : decide (0 < ((k + 1 : Nat) : Int)) = true := decide_eq_true (by omega)
      have HS := Lib.hid (show ((k + 1 : Nat) : Int) - 1 = (k : Int) by omega)
      have c7' : w.cell? ⟨p, 7, none⟩ = some (.int .i64 ((k + 1 : Nat) : Int)) := c7
      generalize hz : ((k + 1 : Nat) : Int) = z at *
      clear h hf c7
      go_enter Try.func73, Try.ntmps73
      go_wp2
      go_ret
      rw [HE.out, HC.out]
      refine ⟨rfl, Grows.set _ _ _ rfl, k, HA.out.turn (Grows.set _ _ _ rfl) ?_ rfl rfl (by intro j hj; simpa using hj) (by have := HA.out.fuz0; omega)⟩
      have := HA.out.var.set 7 (.int .i64 (z - 1))
      rw [HF.out] at this
      rw [HS.out] at this ⊢
      exact this
set_option maxRecDepth 100000 in
theorem atFuse_any {w : World} {p : Nat} {d : Dev} {bB cap : Nat} {wv : Value} {fz : Nat} {E : List Ent} (h : FAt w p d bB cap wv fz E) (n : Int) (hn : n < 9223372036854775808) :
    Calls Try.prog 27 #[ptr p, .int .i64 n] w fun e w' => e = .returned (.tuple #[]) ∧ Grows (· = p) w w' ∧ ∃ fy, FAt w' p (fuseD d n) bB cap wv fy E := by
  have c6 := h.var.cell (j := 6) rfl
  have f6 := h.var.frozen 6
  have c7 := h.var.cell (j := 7) rfl
  have f7 := h.var.frozen 7
  have HA := Lib.hid h
  obtain ⟨z, hz⟩ : ∃ z : Nat, (z : Int) = max n 0 := ⟨(max n 0).toNat, by omega⟩
  have hmx := fun w ts t => max2 (P := Try.prog) w ts t n 0 (z : Int) hz
  have hd : decide (0 ≤ n) = (fuseD d n).fuse.isSome := by
    unfold fuseD
    by_cases h0 : n < 0
    · simp [h0]
    · simp [h0]; omega
  have HF := Lib.hid (show ∀ k, (fuseD d n).fuse = some k → z = k by
    unfold fuseD
    intro k hk
    by_cases h0 : n < 0
    · simp [h0] at hk
    · simp [h0] at hk; omega)
  have hz0 : z < 9223372036854775808 := by omega
  have HV := Lib.hid ((h.var.set 6 (.bool (fuseD d n).fuse.isSome)).set 7 (.int .i64 (z : Int)))
  clear h hz
  unfold ptr
  go_enter Try.func27, Try.ntmps27
  go_wp2
  refine bodyPost_end (results_none rfl _ _ _) rfl ?_
  have g := (Grows.set (S := (· = p)) w ⟨p, 6, none⟩ (.bool (fuseD d n).fuse.isSome) rfl).trans (Grows.set (S := (· = p)) _ ⟨p, 7, none⟩ (.int .i64 (z : Int)) rfl) (fun _ h => .inl h)
  exact ⟨rfl, g, _, HA.out.turn g HV.out rfl rfl HF.out hz0⟩
theorem whereG_ok {d : Dev} (hd : d.Ok) (q : Int) : (Geom.whereG ⟨d.pg, d.pgs, d.rgs⟩ q).2.2 = d.has q := by
  have hr : Geom.rightG ⟨d.pg, d.pgs, d.rgs⟩ = true := Geom.right_small.mpr ⟨by simp only; have := hd.p0; omega, by simp only; have := hd.p1; omega, by simp only; have := hd.s0; omega, by simp only; have := hd.s1; omega, by simp only; have := hd.r0; omega, by simp only; have := hd.r1; omega⟩
  unfold Geom.whereG Dev.has Dev.n
  rw [hr]
  simp only [true_and, Int.natCast_mul]
  split
  · rename_i h
    simp only [decide_eq_true h.1]
    simp
    omega
  · rename_i h
    symm
    simp only [Bool.and_eq_false_iff, decide_eq_false_iff_not]
    omega
set_option maxRecDepth 100000 in
theorem atHas_any {w : World} {p : Nat} {d : Dev} {bB cap : Nat} {wv : Value} {fz : Nat} {E : List Ent} (h : FAt w p d bB cap wv fz E) (hd : d.Ok) (q : Int) :
    Calls Try.prog 37 #[ptr p, .int .i64 q] w fun e w' => e = .returned (.bool (d.has q)) ∧ Below w.heap.size w w' := by
  have c0 := h.var.cell (j := 0) rfl
  have c1 := h.var.cell (j := 1) rfl
  have c2 := h.var.cell (j := 2) rfl
  have HW := Lib.hid (fun w => Geom.where_any ⟨d.pg, d.pgs, d.rgs⟩ q w)
  rw [whereG_ok hd] at HW
  clear h hd
  unfold Geom.gV at HW
  generalize (Geom.whereG ⟨d.pg, d.pgs, d.rgs⟩ q).1 = x1 at *
  generalize (Geom.whereG ⟨d.pg, d.pgs, d.rgs⟩ q).2.1 = x2 at *
  unfold ptr
  go_enter Try.func37, Try.ntmps37
  go_wp2_with (go_at_call 74; (with_reducible refine (HW.out _).mono ?_); rintro e w3 ⟨rfl, hn⟩)
  go_ret
  exact ⟨rfl, hn⟩
theorem slice8l {L l cap : Nat} (bB : Nat) (h1 : l ≤ L) (x : Int) (hx : x = (l : Int)) (hl : l < cap) (w : World) :
    (Instr.slice 78 (.slice (some ⟨bB, 0, none⟩) L cap) (some (.int .i64 x)) none none).run Try.prog w = .ok (.slice (some ⟨bB, l, none⟩) (L - l) (cap - l)) w := by
  subst hx
  have hu : Try.prog.underlying 78 = some (.slice (Try.prog.elem 78)) := by kernel_rfl
  have hz : ∀ w, (sizeOf (Try.prog.elem 78)).run Try.prog w = .ok 1 w := by
    have : Try.prog.elem 78 = 5 := by kernel_rfl
    rw [this]; intro w
    obtain ⟨i0, hi, hz0, hz1, hz2⟩ := info_parts info8
    simp [sizeOf, hi, hz1] <;> rfl
  rw [run_slice_l (P := Try.prog) w 78 (some ⟨bB, 0, none⟩) L cap hu .i64 (l : Int) (by omega) (by omega), hz]
  simp only [Result.andThen, sliced, Int.toNat_natCast, Nat.mul_one]
  rw [if_neg (by omega)]
  simp [Addr.add]
  intro e; omega
theorem slice8h {L h off cap : Nat} (bB : Nat) (h2 : h ≤ cap) (x : Int) (hx : x = (h : Int)) (w : World) :
    (Instr.slice 78 (.slice (some ⟨bB, off, none⟩) L cap) none (some (.int .i64 x)) none).run Try.prog w = .ok (.slice (some ⟨bB, off, none⟩) h cap) w := by
  subst hx
  have hu : Try.prog.underlying 78 = some (.slice (Try.prog.elem 78)) := by kernel_rfl
  have hz : ∀ w, (sizeOf (Try.prog.elem 78)).run Try.prog w = .ok 1 w := by
    have : Try.prog.elem 78 = 5 := by kernel_rfl
    rw [this]; intro w
    obtain ⟨i0, hi, hz0, hz1, hz2⟩ := info_parts info8
    simp [sizeOf, hi, hz1] <;> rfl
  rw [run_slice_h (P := Try.prog) w 78 (some ⟨bB, off, none⟩) L cap hu .i64 (h : Int) (by omega) (by omega), hz]
  simp [Result.andThen, sliced, Addr.add]
set_option maxRecDepth 100000 in
theorem atStands_any {w : World} {p : Nat} {d : Dev} {bB cap : Nat} {wv : Value} {fz : Nat} {E : List Ent} (h : FAt w p d bB cap wv fz E) (hd : d.Ok) (q : Nat) (hq : q < d.n) :
    Calls Try.prog 39 #[ptr p, .int .i64 (q : Int)] w fun e w' => e = .returned (.slice (some ⟨bB, q * d.pg, none⟩) d.pg (cap - q * d.pg)) ∧ ∃ k, w' = w.drewN k := by
  have c0 := h.var.cell (j := 0) rfl
  have c3 := h.var.cell (j := 3) rfl
  have hpg := hd.page hq
  have him := hd.img_le
  have hp0 := hd.p0
  have hp1 := hd.p1
  have hq1 : q < 120 := Nat.lt_of_lt_of_le hq hd.n_le
  have hcap := h.capl
  have m1 : (q : Int) * (d.pg : Int) = ((q * d.pg : Nat) : Int) := by rw [Int.natCast_mul]
  have b1 : 0 ≤ (q : Int) * (d.pg : Int) ∧ (q : Int) * (d.pg : Int) ≤ 100000 := by rw [m1]; omega
  have hs1 := slice8l (L := d.img.length) (cap := cap) bB (show q * d.pg ≤ d.img.length by omega) _ m1 (by omega)
  have hs2 := slice8h (L := d.img.length - q * d.pg) (off := q * d.pg) (cap := cap - q * d.pg) bB (show d.pg ≤ cap - q * d.pg by omega) _ rfl
  clear h hd hq m1
  unfold ptr
  go_enter Try.func39, Try.ntmps39
  go_wp2
  go_quiet (fail)
  go_wp2
  go_ret
  exact ⟨rfl, _, rfl⟩
end Go.Proofs.Ytcmjambbdfangaa.Flash
/-
  The landed device: is a page pending, is it blank; bytes that are made blank.
-/
set_option linter.unusedVariables false
set_option linter.unusedSimpArgs false
namespace Go.Proofs.Ytcmjambbdfangaa.Flash
open Go.RowKit
open Go.Proofs.Ytcmjambbdfangaa.Own
open Tup Bytes Foot
open Go.Proofs.Ytcmjambbdfangaa.Region (fill Then Deps Each wp_region_is wp_region_is_tail)

theorem FAt.ent {w : World} {p : Nat} {d : Dev} {bB cap : Nat} {wv : Value} {fz k : Nat} {E : List Ent} (h : FAt w p d bB cap wv fz E) (hk : k < E.length) : ∃ hl : k < d.wait.length, d.wait[k] = entW E[k] := by
  have hl : k < d.wait.length := by rw [← h.wlen]; exact hk
  refine ⟨hl, ?_⟩
  have e := h.ents
  have : d.wait[k]? = (E.map entW)[k]? := by rw [e]
  rw [List.getElem?_eq_getElem hl, List.getElem?_map, List.getElem?_eq_getElem hk] at this
  simpa using this
set_option maxRecDepth 100000 in
set_option maxHeartbeats 4000000 in
theorem atPendingAt_any {w : World} {p : Nat} {d : Dev} {bB cap : Nat} {wv : Value} {fz : Nat} {E : List Ent} (h : FAt w p d bB cap wv fz E) (hd : d.Ok) (q : Nat) :
    Calls Try.prog 38 #[ptr p, .int .i64 (q : Int)] w fun e w' => (∃ i : Nat, e = .returned (.tuple #[.int .i64 (i : Int), .bool (d.waits q)]) ∧ (d.waits q = true → ∃ hl : i < d.wait.length, (d.wait[i]).1 = q)) ∧ Below w.heap.size w w' := by
  obtain ⟨a, c, rfl⟩ := h.slice
  have c4 := h.var.cell (j := 4) rfl
  have hn := hd.wait_le
  have hw := h.wlen
  have HA := Lib.hid h
  unfold ptr
  clear h hd
  obtain ⟨L, hL⟩ : ∃ L, E.length = L := ⟨_, rfl⟩
  rw [hL] at c4 hw
  have HL := Lib.hid hL
  have HW := Lib.hid hw
  rw [← hw] at hn
  clear hL hw
  go_enter Try.func38, Try.ntmps38
  go_wp2
  go_loopw [13] (fun i wr => ∃ k : Nat, i = .int .i64 (k : Int) ∧ k ≤ L ∧ (d.wait.take k).any (fun x => decide (x.1 = q)) = false ∧ Below w.heap.size w wr) (fun i _ => L - (intOf i).toNat)
  case atStart => exact ⟨0, rfl, Nat.zero_le _, rfl, Below.refl _ _⟩
  case round =>
    obtain ⟨k, rfl, hk, hv, hB⟩ := hrel
    have HN := Lib.hid hv
    have HB := Lib.hid hB
    by_cases hlt : k < L
    · have hkE : k < E.length := by rw [HL.out]; exact hlt
      obtain ⟨hkl, hke⟩ := HA.out.ent hkE
      have hR := HA.out.below hB
      rw [HL.out] at hR
      obtain ⟨g, ha, e0, e1⟩ := hR.pend hkE
      subst ha
      have HT := Lib.hid (any_take (f := fun x => decide (x.1 = q)) hkl)
      have HH := Lib.hid (fun hf => any_hit (f := fun x => decide (x.1 = q)) hkl hf)
      have HKE := Lib.hid hke
      have HQ := Lib.hid (show ∃ hl : k < d.wait.length, (d.wait[k]'hl).1 = E[k].q from ⟨hkl, by rw [hke]; rfl⟩)
      have hb0 : g < wr.heap.size := block_lt_of_cell e0
      have d1 : decide ((k : Int) < (L : Int)) = true := by simp; omega
      have d2 : decide (k < L) = true := by simp; omega
      clear hv hB hke hR
      generalize hy : E[k] = y at *
      obtain ⟨yq, yb, yg, yc⟩ := y
      simp only at e0 e1
      clear hy
      by_cases he : yq = q
      · subst he
        have HE := Lib.hid (show d.waits yq = true from HH.out (by rw [HKE.out]; simp [entW]))
        clear HT HH HKE
        go_wp2
        go_ret2
        rw [HE.out]
        exact ⟨⟨k, rfl, fun _ => HQ.out⟩, HB.out.trans ((Geom.bel_alloc _ _).mono HB.out.size)⟩
      · have dq : ((yq : Int) == (q : Int)) = false := by simp; omega
        have dq2 : (yq == q) = false := by simp; omega
        have HK := Lib.hid (show (d.wait.take (k + 1)).any (fun x => decide (x.1 = q)) = false by rw [HT.out, HN.out, HKE.out, Bool.false_or]; exact decide_eq_false he)
        clear HT HH HKE HQ
        go_wp2
        refine ⟨⟨k + 1, by go_num, by omega, HK.out, HB.out.trans ((Geom.bel_alloc _ _).mono HB.out.size)⟩, by simp [intOf]; omega⟩
    · obtain rfl : k = L := by omega
      have d1 : decide ((k : Int) < (k : Int)) = false := by simp
      have HE := Lib.hid (show d.waits q = false by
        have := HN.out
        rw [List.take_of_length_le (by rw [HW.out]; exact Nat.le_refl _)] at this
        exact this)
      clear hv hB
      go_wp2
      go_ret2
      rw [HE.out]
      exact ⟨⟨0, rfl, fun e => Bool.noConfusion e⟩, HB.out⟩
/-- is one of these pages pending? -/
def Dev.anyOf (d : Dev) (F n : Nat) : Bool := d.wait.any fun x => decide (F ≤ x.1) && decide (x.1 < F + n)
theorem anyOf_zero (d : Dev) (F : Nat) : d.anyOf F 0 = false := by
  unfold Dev.anyOf
  rw [List.any_eq_false]
  intro x _; simp
theorem anyOf_succ (d : Dev) (F n : Nat) : d.anyOf F (n + 1) = (d.anyOf F n || d.waits (F + n)) := by
  unfold Dev.anyOf Dev.waits
  rw [Bool.eq_iff_iff]
  simp only [Bool.or_eq_true, List.any_eq_true, Bool.and_eq_true, decide_eq_true_eq]
  constructor
  · rintro ⟨x, hx, h1, h2⟩
    by_cases h : x.1 = F + n
    · exact .inr ⟨x, hx, h⟩
    · exact .inl ⟨x, hx, h1, by omega⟩
  · rintro (⟨x, hx, h1, h2⟩ | ⟨x, hx, h⟩)
    · exact ⟨x, hx, h1, by omega⟩
    · exact ⟨x, hx, by omega, by omega⟩
theorem anyOf_one (d : Dev) (q : Nat) : d.anyOf q 1 = d.waits q := by
  rw [anyOf_succ, anyOf_zero, Bool.false_or, Nat.add_zero]
theorem anyOf_mono {d : Dev} {F k n : Nat} (h : d.anyOf F k = true) (hk : k ≤ n) : d.anyOf F n = true := by
  unfold Dev.anyOf at h ⊢
  simp only [List.any_eq_true, Bool.and_eq_true, decide_eq_true_eq] at h ⊢
  obtain ⟨x, hx, h1, h2⟩ := h
  exact ⟨x, hx, h1, by omega⟩
set_option maxRecDepth 100000 in
set_option maxHeartbeats 4000000 in
theorem atAnyPending_any {w : World} {p : Nat} {d : Dev} {bB cap : Nat} {wv : Value} {fz : Nat} {E : List Ent} (h : FAt w p d bB cap wv fz E) (hd : d.Ok) (F n : Nat) (hF : F < 1000) (hn : n < 1000) :
    Calls Try.prog 71 #[ptr p, .int .i64 (F : Int), .int .i64 (n : Int)] w fun e w' => e = .returned (.bool (d.anyOf F n)) ∧ Below w.heap.size w w' := by
  have HP := Lib.hid (fun w' (hb : Below w.heap.size w w') q => atPendingAt_any (h.below hb) hd q)
  unfold ptr at HP ⊢
  clear h hd
  go_enter Try.func71, Try.ntmps71
  go_wp2
  go_loopw [11] (fun i wr => ∃ k : Nat, i = .int .i64 (k : Int) ∧ k ≤ n ∧ d.anyOf F k = false ∧ Below w.heap.size w wr) (fun i _ => n - (intOf i).toNat)
  case atStart => exact ⟨0, rfl, Nat.zero_le _, anyOf_zero _ _, Below.refl _ _⟩
  case round =>
    obtain ⟨k, rfl, hk, hv, hB⟩ := hrel
    have HB := Lib.hid hB
    have HS := Lib.hid (anyOf_succ d F k)
    rw [hv, Bool.false_or] at HS
    have HM := Lib.hid (fun h => anyOf_mono (d := d) (F := F) (k := k + 1) (n := n) h)
    have HQ := Lib.hid (HP.out wr hB (F + k))
    rw [show ((F + k : Nat) : Int) = (F : Int) + (k : Int) by omega] at HQ
    clear hB
    by_cases hlt : k < n
    · have d1 : decide ((k : Int) < (n : Int)) = true := by simp; omega
      have d2 : decide (k < n) = true := by simp; omega
      rcases hwt : d.waits (F + k) with _ | _
      · rw [hwt] at HS HQ
        clear hv hwt
        go_wp2_with (go_at_call 38; (with_reducible refine HQ.out.mono ?_); rintro e w3 ⟨⟨i, rfl, -⟩, hb3⟩)
        refine ⟨⟨k + 1, by go_num, by omega, HS.out, bel2 HB.out hb3⟩, by simp [intOf]; omega⟩
      · rw [hwt] at HS HQ
        have HE := Lib.hid (HM.out HS.out (by omega))
        clear hv hwt
        go_wp2_with (go_at_call 38; (with_reducible refine HQ.out.mono ?_); rintro e w3 ⟨⟨i, rfl, -⟩, hb3⟩)
        go_ret
        rw [HE.out]
        exact ⟨rfl, bel2 HB.out hb3⟩
    · obtain rfl : k = n := by omega
      have d1 : decide ((k : Int) < (k : Int)) = false := by simp
      have HE := Lib.hid hv
      clear hv
      go_wp2
      go_ret
      exact ⟨ret_bool HE.out.symm, HB.out⟩
theorem blankl_snoc (l : List UInt8) (k : Nat) (h : k < l.length) : blank (l.take (k + 1)) = (blank (l.take k) && (l[k] == 255)) := by
  rw [List.take_succ_eq_append_getElem h]
  simp only [blank, List.all_append, List.all_cons, List.all_nil, Bool.and_true]
theorem blankl_drop (l : List UInt8) (k : Nat) (h : k < l.length) (h2 : (l[k] == 255) = false) : blank l = false := by
  unfold blank
  rw [List.all_eq_false]
  exact ⟨l[k], List.getElem_mem h, by simpa using h2⟩
theorem cut_getElem {img : List UInt8} {P n k : Nat} (hk : k < n) (h : P + n ≤ img.length) : (cut img P n)[k]'(by rw [cut_length h]; exact hk) = img.getD (P + k) 0 := by
  unfold cut
  rw [List.getElem_take, List.getElem_drop, List.getD_eq_getElem?_getD, List.getElem?_eq_getElem (by omega)]; rfl
set_option maxRecDepth 100000 in
set_option maxHeartbeats 4000000 in
theorem isBlank_any {w : World} {B : Nat} {img : List UInt8} (h : Row8 w B img) (P n cap : Nat) (hl : P + n ≤ img.length) (hn : img.length < 100000) :
    Calls Try.prog 72 #[.slice (some ⟨B, P, none⟩) n cap] w fun e w' => e = .returned (.bool (blank (cut img P n))) ∧ w = w' := by
  have HR := Lib.hid h
  have HC := Lib.hid (cut_length hl)
  clear h
  go_enter Try.func72, Try.ntmps72
  go_wp2
  go_loop [7] (fun i => ∃ k : Nat, k ≤ n ∧ i = .int .i64 (k : Int) ∧ blank ((cut img P n).take k) = true) (fun i => n - (intOf i).toNat)
  case atStart => exact ⟨0, Nat.zero_le _, rfl, rfl⟩
  case round =>
    obtain ⟨k, hk, rfl, hbl⟩ := hrel
    by_cases hlt : k < n
    · have d1 : decide ((k : Int) < (n : Int)) = true := by simp; omega
      have d2 : decide (k < n) = true := by simp; omega
      have hkl : k < (cut img P n).length := by rw [HC.out]; exact hlt
      have e0 := (HR.out (P + k) (by omega)).1
      rw [← cut_getElem hlt hl] at e0
      have HS := Lib.hid (blankl_snoc (cut img P n) k hkl)
      have HD := Lib.hid (blankl_drop (cut img P n) k hkl)
      rw [hbl] at HS
      clear hbl
      generalize (cut img P n)[k] = c at *
      cases hc : (c == 255) with
      | true =>
        have q : ((c.toNat : Int) != 255) = false := by simp only [beq_iff_eq] at hc; rw [hc]; rfl
        have q2 : ((c.toNat : Int) == 255) = true := by simp only [beq_iff_eq] at hc; rw [hc]; rfl
        rw [hc] at HS
        clear hc HD
        go_wp2
        go_round
        case rel => exact ⟨k + 1, by omega, by go_num, by rw [HS.out]; rfl⟩
        case measure => simp [intOf]; omega
      | false =>
        have q2 : ((c.toNat : Int) == 255) = false := by
          simp only [beq_eq_false_iff_ne, ne_eq] at hc ⊢
          intro h
          have : c.toNat = 255 := by omega
          exact hc (UInt8.toNat_inj.1 this)
        have q : ((c.toNat : Int) != 255) = true := by simp only [bne, q2]; rfl
        have HE := Lib.hid (HD.out hc)
        clear hc HS HD
        go_wp2
        go_ret
        exact ⟨by rw [HE.out]; rfl, rfl⟩
    · obtain rfl : k = n := by omega
      have d1 : decide ((k : Int) < (k : Int)) = false := by simp
      have HE := Lib.hid (show blank (cut img P k) = true by rw [List.take_of_length_le (by rw [HC.out]; exact Nat.le_refl _)] at hbl; exact hbl)
      clear hbl
      go_wp2
      go_ret
      exact ⟨by rw [HE.out]; rfl, rfl⟩
theorem over_rep_snoc {img : List UInt8} {P k : Nat} (c : UInt8) (hP : P + k < img.length) : (over img P (List.replicate k c)).set (P + k) c = over img P (List.replicate (k + 1) c) := by
  have := over_snoc (img := img) (b := List.replicate (k + 1) c) (P := P) (k := k) (by simp) hP
  simp only [List.getElem_replicate, List.take_replicate] at this
  rwa [Nat.min_eq_left (by omega), Nat.min_eq_left (by omega)] at this
set_option maxRecDepth 100000 in
set_option maxHeartbeats 4000000 in
theorem wipe_any {w : World} {B : Nat} {img : List UInt8} (h : Row8 w B img) (P n cap : Nat) (hl : P + n ≤ img.length) (hn : img.length < 100000) :
    Calls Try.prog 81 #[.slice (some ⟨B, P, none⟩) n cap] w fun e w' => e = .returned (.tuple #[]) ∧ Row8 w' B (over img P (List.replicate n 255)) ∧ Grows (· = B) w w' := by
  have HR := Lib.hid (show Row8 w B (over img P (List.replicate 0 255)) by rw [List.replicate_zero, over_nil]; exact h)
  clear h
  go_enter Try.func81, Try.ntmps81
  go_wp2
  go_loopw [5] (fun i wr => ∃ k : Nat, k ≤ n ∧ i = .int .i64 (k : Int) ∧ Row8 wr B (over img P (List.replicate k 255)) ∧ Grows (· = B) w wr) (fun i _ => n - (intOf i).toNat)
  case atStart => exact ⟨0, Nat.zero_le _, rfl, HR.out, Grows.refl _ _⟩
  case round =>
    obtain ⟨k, hk, rfl, hR, hG⟩ := hrel
    have HGr := Lib.hid hG
    clear HR hG
    by_cases hlt : k < n
    · have hL : (over img P (List.replicate k (255 : UInt8))).length = img.length := over_length (by rw [List.length_replicate]; omega)
      have hPk : P + k < (over img P (List.replicate k (255 : UInt8))).length := by rw [hL]; omega
      obtain ⟨e0, e1⟩ := hR (P + k) hPk
      have HS := Lib.hid (hR.set (P + k) 255 hPk)
      rw [over_rep_snoc 255 (by omega)] at HS
      have HG := Lib.hid (HGr.out.trans (Grows.set (S := (· = B)) wr ⟨B, P + k, none⟩ (.int .u8 ((255 : UInt8).toNat : Int)) rfl) (fun _ h => .inl h))
      have d1 : decide ((k : Int) < (n : Int)) = true := by simp; omega
      have d2 : decide (k < n) = true := by simp; omega
      rw [show (((255 : UInt8).toNat : Int)) = 255 from rfl] at HS HG
      generalize (over img P (List.replicate k (255 : UInt8))).getD (P + k) 0 = u at *
      clear hR hL hPk
      go_wp2
      exact ⟨⟨k + 1, by omega, by go_num, HS.out, HG.out⟩, by simp [intOf]; omega⟩
    · obtain rfl : k = n := by omega
      have d1 : decide ((k : Int) < (k : Int)) = false := by simp
      have HE := Lib.hid hR
      clear hR
      go_wp2
      refine bodyPost_end (results_none rfl _ _ _) rfl ?_
      exact ⟨rfl, HE.out, HGr.out⟩
set_option maxRecDepth 100000 in
set_option maxHeartbeats 4000000 in
theorem blanks_any (n : Nat) (hn : n < 100000) (w : World) :
    Calls Try.prog 56 #[.int .i64 (n : Int)] w fun e w' => (∃ g c, e = .returned (.slice (some ⟨g, 0, none⟩) n c) ∧ n ≤ c ∧ Row8 w' g (List.replicate n 255) ∧ w.heap.size ≤ g ∧ g < w'.heap.size) ∧ Below w.heap.size w w' := by
  obtain ⟨i0, hi, hz0, hz1, hz2⟩ := info_parts info8
  obtain ⟨w1, hmk, hown, hgr⟩ := run_makeSlice_full (P := Try.prog) w w.heap.size 78 5 i0 _ 1 Try.underlying78 hi hz0 hz1 .i64 .i64 n (by omega) (by rw [hz2]; omega) (by simp only [maxLen]; omega) (Nat.le_refl _)
  have HW := Lib.hid (wipe_any (Row8.of_make hown) 0 n n (by simp) (by simp; omega))
  have HB1 := Lib.hid (below_make hgr)
  have HO := Lib.hid (show over (List.replicate n (0 : UInt8)) 0 (List.replicate n 255) = List.replicate n 255 by simp [over])
  have HLT := Lib.hid (show w.heap.size < w1.heap.size from Flash.owns_lt hown rfl)
  clear hown hgr hi hz0 hz1 hz2
  go_enter Try.func56, Try.ntmps56
  go_wp2_with (go_at_call 81; (with_reducible refine HW.out.mono ?_); rintro e w3 ⟨rfl, hr3, hg3⟩)
  go_ret
  rw [HO.out] at hr3
  refine ⟨⟨_, _, rfl, Nat.le_refl _, hr3, Nat.le_refl _, Nat.lt_of_lt_of_le HLT.out hg3.size⟩, ?_⟩
  exact HB1.out.trans (hg3.below HB1.out.size (by rintro k rfl; exact Nat.le_refl _))
end Go.Proofs.Ytcmjambbdfangaa.Flash
/-
  The landed device: Read, Program, Rot.
-/
set_option linter.unusedVariables false
set_option linter.unusedSimpArgs false
namespace Go.Proofs.Ytcmjambbdfangaa.Flash
open Go.RowKit
open Go.Proofs.Ytcmjambbdfangaa.Own
open Tup Bytes Foot
open Go.Proofs.Ytcmjambbdfangaa.Region (fill Then Deps Each wp_region_is wp_region_is_tail)

theorem waits_at {d : Dev} {q : Nat} (h : d.waits q = true) : ∃ i, ∃ hl : i < d.wait.length, (d.wait[i]'hl).1 = q := by
  unfold Dev.waits at h
  obtain ⟨x, hx, hq⟩ := List.any_eq_true.1 h
  obtain ⟨i, hl, rfl⟩ := List.getElem_of_mem hx
  exact ⟨i, hl, by simpa using hq⟩
theorem at_one {d : Dev} (hd : d.Ok) {i j : Nat} (hi : i < d.wait.length) (hj : j < d.wait.length) (e : (d.wait[i]).1 = (d.wait[j]).1) : i = j := by
  have hn := hd.once
  have hi' : i < (d.wait.map (·.1)).length := by simpa using hi
  have hj' : j < (d.wait.map (·.1)).length := by simpa using hj
  exact (List.getElem_inj (h₀ := hi') (h₁ := hj') hn).1 (by simpa using e)
theorem foldl_miss (q : Nat) : ∀ (l : List (Nat × List UInt8)) (s : List UInt8), (∀ x ∈ l, x.1 ≠ q) → l.foldl (fun s x => if x.1 = q then x.2 else s) s = s
  | [], _, _ => rfl
  | x :: r, s, h => by rw [List.foldl_cons, if_neg (h x (List.mem_cons_self ..))]; exact foldl_miss q r s (fun y hy => h y (List.mem_cons_of_mem _ hy))
theorem foldl_hit (q : Nat) (b : List UInt8) : ∀ (l : List (Nat × List UInt8)) (s : List UInt8), (l.map (·.1)).Nodup → (q, b) ∈ l → l.foldl (fun s x => if x.1 = q then x.2 else s) s = b
  | [], _, _, h => by simp at h
  | x :: r, s, hn, h => by
    rw [List.map_cons, List.nodup_cons] at hn
    rw [List.foldl_cons]
    rcases List.mem_cons.1 h with rfl | hr
    · rw [if_pos rfl]
      exact foldl_miss q r b (fun y hy e => hn.1 (List.mem_map.2 ⟨y, hy, e⟩))
    · exact foldl_hit q b r _ hn.2 hr
theorem held_at {d : Dev} (hd : d.Ok) {i : Nat} (hl : i < d.wait.length) : d.held (d.wait[i]).1 = (d.wait[i]).2 := by
  unfold Dev.held
  exact foldl_hit _ _ _ _ hd.once (List.getElem_mem hl)
theorem held_off {d : Dev} {q : Nat} (h : d.waits q = false) : d.held q = cut d.img (q * d.pg) d.pg := by
  unfold Dev.held
  refine foldl_miss q _ _ (fun x hx e => ?_)
  exact waits_not h (List.mem_map.2 ⟨x, hx, e⟩)
theorem atPending_hit {w : World} {p : Nat} {d : Dev} {bB cap : Nat} {wv : Value} {fz : Nat} {E : List Ent} (h : FAt w p d bB cap wv fz E) (hd : d.Ok) (q i : Nat) (hl : i < d.wait.length) (hq : (d.wait[i]).1 = q) :
    Calls Try.prog 38 #[ptr p, .int .i64 (q : Int)] w fun e w' => e = .returned (.tuple #[.int .i64 (i : Int), .bool true]) ∧ Below w.heap.size w w' := by
  refine (atPendingAt_any h hd q).mono ?_
  rintro e w' ⟨⟨j, rfl, hj⟩, hb⟩
  have ht : d.waits q = true := any_hit (f := fun x : Nat × List UInt8 => decide (x.1 = q)) hl (by simpa using hq)
  obtain ⟨hl', hq'⟩ := hj ht
  have : j = i := at_one hd hl' hl (by rw [hq', hq])
  subst this
  rw [ht]
  exact ⟨rfl, hb⟩
set_option maxRecDepth 100000 in
set_option maxHeartbeats 4000000 in
theorem atRead_any {w : World} {p : Nat} {d : Dev} {bB cap : Nat} {wv : Value} {fz : Nat} {E : List Ent} (h : FAt w p d bB cap wv fz E) (hd : d.Ok) (q : Int) :
    Calls Try.prog 14 #[ptr p, .int .i64 q] w fun e w' => e = .returned (.tuple #[.string (bs (readD d q).1), .int .i64 ((readD d q).2 : Int)]) ∧ Below w.heap.size w w' := by
  have HD := Lib.hid (fun w' (hb : Below w.heap.size w w') => atDown_any (h.below hb))
  have HH := Lib.hid (fun w' (hb : Below w.heap.size w w') q => atHas_any (h.below hb) hd q)
  unfold ptr at HD HH ⊢
  rcases hdn : d.down with _ | _
  · rw [hdn] at HD
    rcases hh : d.has q with _ | _
    · have HHq := Lib.hid (fun w' hb => HH.out w' hb q)
      rw [hh] at HHq
      have HE := Lib.hid (show readD d q = ([], 1) by unfold readD; rw [hdn, hh]; rfl)
      clear h hd hdn hh HH
      go_enter Try.func14, Try.ntmps14
      go_wp2_with (first
        | (go_at_call 28; (with_reducible refine (HD.out _ (Below.refl _ _)).mono ?_); rintro e w3 ⟨rfl, rfl⟩)
        | (go_at_call 37; (with_reducible refine (HHq.out _ (Below.refl _ _)).mono ?_); rintro e w4 ⟨rfl, hb4⟩))
      go_ret2
      rw [HE.out]
      exact ⟨rfl, hb4⟩
    · obtain ⟨i1, i2⟩ := has_lt hh
      obtain ⟨k, rfl⟩ : ∃ k : Nat, q = (k : Int) := ⟨q.toNat, by omega⟩
      rw [Int.toNat_natCast] at i1
      have HHq := Lib.hid (fun w' hb => HH.out w' hb (k : Int))
      rw [hh] at HHq
      have HE := Lib.hid (show readD d k = (d.held k, 0) by unfold readD; rw [hdn, hh, Int.toNat_natCast]; rfl)
      rcases hw : d.waits k with _ | _
      · have HP := Lib.hid (fun w' (hb : Below w.heap.size w w') => atPendingAt_any (h.below hb) hd k)
        rw [hw] at HP
        have HS := Lib.hid (fun w' (hb : Below w.heap.size w w') => atStands_any (h.below hb) hd k i1)
        unfold ptr at HP HS
        have HTX := Lib.hid (fun wx (hb : Below w.heap.size w wx) => text8 (h.below hb).row (k * d.pg) d.pg (cap - k * d.pg) (hd.page i1))
        rw [held_off hw] at HE
        clear h hd hdn hh HH i1 i2 hw
        go_enter Try.func14, Try.ntmps14
        go_wp2_with (first
          | (go_at_call 28; (with_reducible refine (HD.out _ (Below.refl _ _)).mono ?_); rintro e w3 ⟨rfl, rfl⟩)
          | (go_at_call 37; (with_reducible refine (HHq.out _ (Below.refl _ _)).mono ?_); rintro e w4 ⟨rfl, hb4⟩)
          | (go_at_call 38; (with_reducible refine (HP.out _ hb4).mono ?_); rintro e w5 ⟨⟨i, rfl, -⟩, hb5⟩)
          | (go_at_call 39; (with_reducible refine (HS.out _ (bel2 hb4 hb5)).mono ?_); rintro e w6 ⟨rfl, k6, rfl⟩; have htx := HTX.out _ (bel2 (bel2 hb4 hb5) (below_drewN _ k6))))
        go_ret2
        rw [HE.out]
        exact ⟨rfl, bel2 (bel2 hb4 hb5) (below_drewN _ _)⟩
      · obtain ⟨i, hl, hq⟩ := waits_at hw
        have HP := Lib.hid (fun w' (hb : Below w.heap.size w w') => atPending_hit (h.below hb) hd k i hl hq)
        unfold ptr at HP
        have hiE : i < E.length := by rw [h.wlen]; exact hl
        obtain ⟨hl2, hie⟩ := h.ent hiE
        have hkb : d.held k = E[i].b := by rw [← hq, held_at hd hl, hie]; rfl
        rw [hkb] at HE
        obtain ⟨a, c, rfl⟩ := h.slice
        obtain ⟨g, rfl, f0, f1⟩ := h.pend hiE
        have hgl := block_lt_of_cell f1
        have c4 := h.var.cell (j := 4) rfl
        have hpl := h.var.lt
        have hrw := h.rows E[i] (List.getElem_mem hiE)
        obtain ⟨L, hL⟩ : ∃ L, E.length = L := ⟨_, rfl⟩
        obtain ⟨yq, yb, yg, yc, hy⟩ : ∃ yq yb yg yc, E[i] = ⟨yq, yb, yg, yc⟩ := ⟨_, _, _, _, rfl⟩
        rw [hy] at f1 hrw HE
        rw [hL] at c4 hiE
        simp only at f1 hrw HE
        have HTX := Lib.hid (fun wx (hb : Below w.heap.size w wx) => (hrw.1.below hb).text (P := Try.prog) 78 9 5 yc Try.underlying78 Try.underlying5 Try.underlying9 yb.length rfl)
        have HC4 := Lib.hid (fun wx (hb : Below w.heap.size w wx) => hb.cell (p := ⟨p, 4, none⟩) hpl |>.trans c4)
        have HF1 := Lib.hid (fun wx (hb : Below w.heap.size w wx) => hb.cell (p := ⟨g, i * 2 + 1, none⟩) hgl |>.trans f1)
        have hiL : (i : Int) < (L : Int) := by omega
        clear h hd hdn hh HH i1 i2 hw hq hkb hie hl2 hl hy f0 hrw hL
        go_enter Try.func14, Try.ntmps14
        go_wp2_with (first
          | (go_at_call 28; (with_reducible refine (HD.out _ (Below.refl _ _)).mono ?_); rintro e w3 ⟨rfl, rfl⟩)
          | (go_at_call 37; (with_reducible refine (HHq.out _ (Below.refl _ _)).mono ?_); rintro e w4 ⟨rfl, hb4⟩)
          | (go_at_call 38; (with_reducible refine (HP.out _ hb4).mono ?_); rintro e w5 ⟨rfl, hb5⟩; have d4 := HC4.out _ (bel2 hb4 hb5); have g1 := HF1.out _ (bel2 hb4 hb5); have htx := HTX.out _ (bel2 hb4 hb5)))
        go_ret2
        rw [HE.out]
        exact ⟨rfl, bel2 hb4 hb5⟩
  · rw [hdn] at HD
    have HE := Lib.hid (show readD d q = ([], 6) by unfold readD; rw [hdn]; rfl)
    clear h hd hdn HH
    go_enter Try.func14, Try.ntmps14
    go_wp2_with (go_at_call 28; (with_reducible refine (HD.out _ (Below.refl _ _)).mono ?_); rintro e w3 ⟨rfl, rfl⟩)
    go_ret2
    rw [HE.out]
    exact ⟨rfl, Below.refl _ _⟩
end Go.Proofs.Ytcmjambbdfangaa.Flash
