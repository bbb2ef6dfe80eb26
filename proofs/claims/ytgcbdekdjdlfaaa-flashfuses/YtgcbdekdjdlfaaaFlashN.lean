/-
  What the document's own device is when it is new.
-/
import Derived.Test.YtgcbdekdjdlfaaaFlashE
set_option linter.unusedVariables false
set_option linter.unusedSimpArgs false
namespace Go.Proofs.Ytgcbdekdjdlfaaa.Flash
open Go.RowKit
open Go.Proofs.Ytgcbdekdjdlfaaa.Own
open Tup Bytes Foot
open Go.Proofs.Ytgcbdekdjdlfaaa.Region (fill Then Deps Each wp_region_tail)

/-- the values of NewFlash's operations: its bytes are new -/
def NV (tab : List Value) (base N : Nat) (bytes : List UInt8) : Nat → Value → World → Prop := fun i v w => if i = 9 then (∃ g0 cap, v = .slice (some ⟨g0, 0, none⟩) N cap ∧ N ≤ cap ∧ Row8 w g0 bytes ∧ base ≤ g0 ∧ g0 < w.heap.size) else v = tab.getD i undef
theorem NV.mono (tab : List Value) (base N : Nat) (bytes : List UInt8) : ∀ i v w w', NV tab base N bytes i v w → Below w.heap.size w w' → NV tab base N bytes i v w' := by
  intro i v w w' h hb
  unfold NV at h ⊢
  split
  · rename_i e
    rw [if_pos e] at h
    obtain ⟨g, cap, h1, h2, h3, h4, h5⟩ := h
    exact ⟨g, cap, h1, h2, h3.below hb, h4, Nat.lt_of_lt_of_le h5 hb.size⟩
  · rename_i e
    rw [if_neg e] at h; exact h
set_option maxRecDepth 100000 in
set_option maxHeartbeats 8000000 in
theorem refNew_any (pg pgs rgs : Nat) (im : ByteArray) (hi : im.size ≤ pg * pgs * rgs) (p0 : 32 ≤ pg) (p1 : pg ≤ 128) (s0 : 3 ≤ pgs) (s1 : pgs ≤ 10) (r0 : 4 ≤ rgs) (r1 : rgs ≤ 12) (w : World) :
    Calls Try.prog 16 #[.agg #[.int .i64 (pg : Int), .int .i64 (pgs : Int), .int .i64 (rgs : Int)], .string im] w fun e w' => ∃ p S, e = .returned (ptr p) ∧ RHas w' p (newD pg pgs rgs im.data.toList) S ∧ Below w.heap.size w w' ∧ ∀ k, S k → w.heap.size ≤ k := by
  obtain ⟨N, hN⟩ : ∃ N, N = pg * pgs * rgs := ⟨_, rfl⟩
  have hN1 : N ≤ 15360 := by rw [hN]; exact Nat.mul_le_mul (Nat.mul_le_mul p1 s1) r1
  rw [← hN] at hi
  have HS := Lib.hid (fun w => Geom.refSize_any ⟨pg, pgs, rgs⟩ ⟨by simp only; omega, by simp only; omega, by simp only; omega, by simp only; omega, by simp only; omega, by simp only; omega⟩ w)
  have hsz : Geom.sizeG ⟨pg, pgs, rgs⟩ = (N : Int) := by unfold Geom.sizeG; rw [hN]; simp only [Int.natCast_mul]
  rw [hsz] at HS
  unfold Geom.gV at HS
  have HF := Lib.hid (fun w => fill_any 255 ((N : Int) - (im.size : Int)) (N - im.size) (.inl (by omega)) (by omega) w)
  rw [show (((255 : UInt8).toNat : Int)) = 255 from rfl] at HF
  obtain ⟨BY, hBY⟩ : ∃ BY, BY = im ++ bs (List.replicate (N - im.size) 255) := ⟨_, rfl⟩
  have hBl : BY.data.toList = im.data.toList ++ List.replicate (N - im.size) 255 := by rw [hBY]; simp [bs]
  have hBs : BY.size = N := by
    have : BY.data.toList.length = N := by rw [hBl, List.length_append, List.length_replicate]; simp; omega
    simpa using this
  have hcv := fun w => Lib.run_convert_string_bytes (P := Try.prog) w 9 61 5 BY Try.underlying9 Try.underlying61 Try.underlying5
  rw [hBs] at hcv
  have HD := Lib.hid (show newD pg pgs rgs im.data.toList = ⟨pg, pgs, rgs, BY.data.toList, [], none, false⟩ by
    unfold newD
    rw [hBl, hN]
    simp)
  have HBs := Lib.hid hBs
  have HBY := Lib.hid hBY
  have hcap : ∀ w, N ≤ grownCap w N 0 5 := fun w => grownCap_ge w N 0 5
  have hsum : im.size + (N - im.size) ≤ 15360 := by omega
  have hbz : (bs (List.replicate (N - im.size) (255 : UInt8))).size = N - im.size := by rw [bs_size, List.length_replicate]
  clear hsz hN hBl hBY hBs
  go_enter Try.func16, Try.ntmps16
  go_wp2
  refine wp_region_tail 10 [5, 6, 7, 8, 9, 10, 11, 12, 13, 14] (fun w' => Below (w.alloc (.cells #[.int .i64 (pg : Int), .int .i64 (pgs : Int), .int .i64 (rgs : Int)] 23)).heap.size (w.alloc (.cells #[.int .i64 (pg : Int), .int .i64 (pgs : Int), .int .i64 (rgs : Int)] 23)) w') (NV [.agg #[.int .i64 (pg : Int), .int .i64 (pgs : Int), .int .i64 (rgs : Int)], .string im, .agg #[.int .i64 (pg : Int), .int .i64 (pgs : Int), .int .i64 (rgs : Int)], .int .i64 ((N : Nat) : Int), .string im, .int .i64 (im.size : Int), .int .i64 ((N : Int) - (im.size : Int)), .string (bs (List.replicate (N - im.size) 255)), .string (im ++ bs (List.replicate (N - im.size) 255))] (w.alloc (.cells #[.int .i64 (pg : Int), .int .i64 (pgs : Int), .int .i64 (rgs : Int)] 23)).heap.size N BY.data.toList) (by kernel_rfl) (by kernel_rfl) (by kernel_rfl) (by decide) rfl (by decide) (by simp) (NV.mono _ _ _ _) (Below.refl _ _).drew ?each ?tail
  case each =>
    simp only [List.take_succ_cons, List.take_zero, Each]
    refine ⟨?o0, ?o1, ?o2, ?o3, ?o4, ?o5, ?o6, ?o7, ?o8, ?o9, trivial⟩
    case o0 =>
      intro ys wx hBx hdeps
      simp only [Deps, Region.binds, List.getD_cons_zero, List.getD_cons_succ, forall_const, and_true, true_and] at hdeps
      have c0 : wx.cell? ⟨w.heap.size, 0, none⟩ = some (.int .i64 (pg : Int)) := ((Var.new w 23 [.int .i64 (pg : Int), .int .i64 (pgs : Int), .int .i64 (rgs : Int)]).below hBx (by simp)).cell rfl
      have c1 : wx.cell? ⟨w.heap.size, 1, none⟩ = some (.int .i64 (pgs : Int)) := ((Var.new w 23 [.int .i64 (pg : Int), .int .i64 (pgs : Int), .int .i64 (rgs : Int)]).below hBx (by simp)).cell rfl
      have c2 : wx.cell? ⟨w.heap.size, 2, none⟩ = some (.int .i64 (rgs : Int)) := ((Var.new w 23 [.int .i64 (pg : Int), .int .i64 (pgs : Int), .int .i64 (rgs : Int)]).below hBx (by simp)).cell rfl
      clear hdeps
      simp only [fill, List.foldl_cons, List.foldl_nil, Act.put, List.setIfInBounds_toArray, List.set_cons_succ, List.set_cons_zero]
      go_wp2_with fail
      exact ⟨_, rfl, rfl, hBx, Below.refl _ _⟩
    case o1 =>
      intro ys wx hBx hdeps
      simp only [Deps, Region.binds, List.getD_cons_zero, List.getD_cons_succ, forall_const, and_true, true_and] at hdeps
      clear hdeps
      simp only [fill, List.foldl_cons, List.foldl_nil, Act.put, List.setIfInBounds_toArray, List.set_cons_succ, List.set_cons_zero]
      go_wp2_with fail
      exact ⟨_, rfl, rfl, hBx, Below.refl _ _⟩
    case o2 =>
      intro ys wx hBx hdeps
      simp only [Deps, Region.binds, List.getD_cons_zero, List.getD_cons_succ, forall_const, and_true, true_and] at hdeps
      have c0 : wx.cell? ⟨w.heap.size, 0, none⟩ = some (.int .i64 (pg : Int)) := ((Var.new w 23 [.int .i64 (pg : Int), .int .i64 (pgs : Int), .int .i64 (rgs : Int)]).below hBx (by simp)).cell rfl
      have c1 : wx.cell? ⟨w.heap.size, 1, none⟩ = some (.int .i64 (pgs : Int)) := ((Var.new w 23 [.int .i64 (pg : Int), .int .i64 (pgs : Int), .int .i64 (rgs : Int)]).below hBx (by simp)).cell rfl
      have c2 : wx.cell? ⟨w.heap.size, 2, none⟩ = some (.int .i64 (rgs : Int)) := ((Var.new w 23 [.int .i64 (pg : Int), .int .i64 (pgs : Int), .int .i64 (rgs : Int)]).below hBx (by simp)).cell rfl
      clear hdeps
      simp only [fill, List.foldl_cons, List.foldl_nil, Act.put, List.setIfInBounds_toArray, List.set_cons_succ, List.set_cons_zero]
      go_wp2_with fail
      exact ⟨_, rfl, rfl, hBx, Below.refl _ _⟩
    case o3 =>
      intro ys wx hBx hdeps
      simp only [Deps, Region.binds, List.getD_cons_zero, List.getD_cons_succ, forall_const, and_true, true_and] at hdeps
      have y2 : ys 7 = .agg #[.int .i64 (pg : Int), .int .i64 (pgs : Int), .int .i64 (rgs : Int)] := by first | exact hdeps | exact hdeps.1 | exact hdeps.2
      clear hdeps
      simp only [y2, fill, List.foldl_cons, List.foldl_nil, Act.put, List.setIfInBounds_toArray, List.set_cons_succ, List.set_cons_zero]
      go_wp2_with (go_at_call 12; (with_reducible refine (HS.out _).mono ?_); rintro e w3 ⟨rfl, hn3⟩)
      exact ⟨_, rfl, rfl, hBx.trans (hn3.mono hBx.size), hn3⟩
    case o4 =>
      intro ys wx hBx hdeps
      simp only [Deps, Region.binds, List.getD_cons_zero, List.getD_cons_succ, forall_const, and_true, true_and] at hdeps
      clear hdeps
      simp only [fill, List.foldl_cons, List.foldl_nil, Act.put, List.setIfInBounds_toArray, List.set_cons_succ, List.set_cons_zero]
      go_wp2_with fail
      exact ⟨_, rfl, rfl, hBx, Below.refl _ _⟩
    case o5 =>
      intro ys wx hBx hdeps
      simp only [Deps, Region.binds, List.getD_cons_zero, List.getD_cons_succ, forall_const, and_true, true_and] at hdeps
      have y4 : ys 9 = .string im := by first | exact hdeps | exact hdeps.1 | exact hdeps.2
      clear hdeps
      simp only [y4, fill, List.foldl_cons, List.foldl_nil, Act.put, List.setIfInBounds_toArray, List.set_cons_succ, List.set_cons_zero]
      go_wp2_with fail
      exact ⟨_, rfl, rfl, hBx, Below.refl _ _⟩
    case o6 =>
      intro ys wx hBx hdeps
      simp only [Deps, Region.binds, List.getD_cons_zero, List.getD_cons_succ, forall_const, and_true, true_and] at hdeps
      have y3 : ys 8 = .int .i64 ((N : Nat) : Int) := by first | exact hdeps | exact hdeps.1 | exact hdeps.2
      have y5 : ys 10 = .int .i64 (im.size : Int) := by first | exact hdeps | exact hdeps.1 | exact hdeps.2
      clear hdeps
      simp only [y3, y5, fill, List.foldl_cons, List.foldl_nil, Act.put, List.setIfInBounds_toArray, List.set_cons_succ, List.set_cons_zero]
      go_wp2_with fail
      exact ⟨_, rfl, rfl, hBx, Below.refl _ _⟩
    case o7 =>
      intro ys wx hBx hdeps
      simp only [Deps, Region.binds, List.getD_cons_zero, List.getD_cons_succ, forall_const, and_true, true_and] at hdeps
      have y6 : ys 11 = .int .i64 ((N : Int) - (im.size : Int)) := by first | exact hdeps | exact hdeps.1 | exact hdeps.2
      clear hdeps
      simp only [y6, fill, List.foldl_cons, List.foldl_nil, Act.put, List.setIfInBounds_toArray, List.set_cons_succ, List.set_cons_zero]
      go_wp2_with (go_at_call 22; (with_reducible refine (HF.out _).mono ?_); rintro e w3 ⟨rfl, hn3⟩)
      exact ⟨_, rfl, rfl, hBx.trans (hn3.mono hBx.size), hn3⟩
    case o8 =>
      intro ys wx hBx hdeps
      simp only [Deps, Region.binds, List.getD_cons_zero, List.getD_cons_succ, forall_const, and_true, true_and] at hdeps
      have y1 : ys 6 = .string im := by first | exact hdeps | exact hdeps.1 | exact hdeps.2
      have y7 : ys 12 = .string (bs (List.replicate (N - im.size) 255)) := by first | exact hdeps | exact hdeps.1 | exact hdeps.2
      clear hdeps
      simp only [y1, y7, fill, List.foldl_cons, List.foldl_nil, Act.put, List.setIfInBounds_toArray, List.set_cons_succ, List.set_cons_zero]
      go_wp2_with fail
      exact ⟨_, rfl, rfl, hBx, Below.refl _ _⟩
    case o9 =>
      intro ys wx hBx hdeps
      simp only [Deps, Region.binds, List.getD_cons_zero, List.getD_cons_succ, forall_const, and_true, true_and] at hdeps
      have y8 : ys 13 = .string (im ++ bs (List.replicate (N - im.size) 255)) := by first | exact hdeps | exact hdeps.1 | exact hdeps.2
      clear hdeps
      rw [← HBY.out] at y8
      simp only [y8, fill, List.foldl_cons, List.foldl_nil, Act.put, List.setIfInBounds_toArray, List.set_cons_succ, List.set_cons_zero]
      go_wp2_with fail
      have hbb := bytes_below wx 5 BY
      have hss : (Lib.bytesWorld wx 5 BY).heap.size = wx.heap.size + 1 := Lib.bytesWorld_size _ _ _
      exact ⟨_, rfl, ⟨wx.heap.size, _, rfl, hcap wx, Row8.of_string wx 5 BY, hBx.size, by omega⟩, hBx.trans (hbb.mono hBx.size), hbb⟩
  case tail =>
    intro ys wx hBx hV
    have h5 : ys 5 = .agg #[.int .i64 (pg : Int), .int .i64 (pgs : Int), .int .i64 (rgs : Int)] := hV 0 (by decide)
    have h14 : ∃ g0 cap, ys 14 = .slice (some ⟨g0, 0, none⟩) N cap ∧ N ≤ cap ∧ Row8 wx g0 BY.data.toList ∧ (w.alloc (.cells #[.int .i64 (pg : Int), .int .i64 (pgs : Int), .int .i64 (rgs : Int)] 23)).heap.size ≤ g0 ∧ g0 < wx.heap.size := hV 9 (by decide)
    with_reducible refine Exists.elim h14 ?_
    intro g0 h14
    with_reducible refine Exists.elim h14 ?_
    intro cap hh
    have hg0 := hh.1
    have HC := Lib.hid hh.2.1
    have HR := Lib.hid hh.2.2.1
    have HG := Lib.hid hh.2.2.2
    have HB := Lib.hid (Geom.bel0 (Geom.bel_alloc w (.cells #[.int .i64 (pg : Int), .int .i64 (pgs : Int), .int .i64 (rgs : Int)] 23)) hBx)
    clear hh h14 hV hBx
    simp only [h5, hg0, fill, List.drop_succ_cons, List.drop_zero, List.foldl_cons, List.foldl_nil, Act.put, List.setIfInBounds_toArray, List.set_cons_succ, List.set_cons_zero]
    go_wp2
    go_ret
    have hs0 : (w.alloc (.cells #[.int .i64 (pg : Int), .int .i64 (pgs : Int), .int .i64 (rgs : Int)] 23)).heap.size = w.heap.size + 1 := by simp
    refine ⟨wx.heap.size, foot wx.heap.size g0 (.slice none 0 0), rfl, ?_, HB.out.alloc HB.out.size _, ?_⟩
    · rw [HD.out]
      have hv := Var.new wx 69 [.int .i64 (pg : Int), .int .i64 (pgs : Int), .int .i64 (rgs : Int), .slice (some ⟨g0, 0, none⟩) N cap, .slice none 0 0, .bool false, .int .i64 0, .bool false]
      have hl : BY.data.toList.length = N := by simpa using HBs.out
      refine ⟨g0, cap, .slice none 0 0, 0, ⟨?_, HR.out.alloc _, by have := HG.out.2; simp; omega, ⟨rfl, .inl ⟨rfl, rfl⟩⟩, by simp, by omega, by rw [hl]; exact HC.out, by have := HG.out.2; omega, by simp [Value.ownBlock], by simp [Value.ownBlock]⟩, rfl⟩
      simp only [hl]
      exact hv
    · rintro k (rfl | rfl | hk)
      · exact HB.out.size
      · have := HG.out.1; omega
      · simp [Value.ownBlock] at hk
end Go.Proofs.Ytgcbdekdjdlfaaa.Flash
