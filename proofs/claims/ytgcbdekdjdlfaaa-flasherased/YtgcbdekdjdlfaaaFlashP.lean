/-
  FlashPlays: is a device the document's?
-/
import Derived.Test.YtgcbdekdjdlfaaaFlashL5
import Derived.Test.YtgcbdekdjdlfaaaPick
set_option linter.unusedVariables false
set_option linter.unusedSimpArgs false
namespace Go.Proofs.Ytgcbdekdjdlfaaa.Flash
open Go.RowKit
open Go.Proofs.Ytgcbdekdjdlfaaa.Own
open Tup Bytes Foot
open Go.Proofs.Ytgcbdekdjdlfaaa.Region (fill Then Deps Each wp_region_is wp_region_is_tail)
set_option maxRecDepth 100000 in
set_option maxHeartbeats 16000000 in
theorem same_any {w : World} {p r : Nat} {d : Dev} {S R : Nat → Prop} (hF : FHas w p d S) (hR : RHas w r d R) (hd : d.Ok) (q : Int) :
    Calls Try.prog 18 #[.pointer (some ⟨p, 0, none⟩), .pointer (some ⟨r, 0, none⟩), .int .i64 q] w fun e w' => e = .returned (.bool true) ∧ Below w.heap.size w w' := by
  obtain ⟨bB, cap, wv, fz, hR, rfl⟩ := hR
  obtain ⟨a, c, rfl⟩ := hR.slice
  obtain ⟨L, hL⟩ : ∃ L, d.wait.length = L := ⟨_, rfl⟩
  rw [hL] at hR
  obtain ⟨X, cd, hX⟩ : ∃ X cd, readD d q = (X, cd) := ⟨_, _, rfl⟩
  have H1 := Lib.hid (fun w' (hb : Below w.heap.size w w') => fRead_any (hF.below hb) hd q)
  have H2 := Lib.hid (fun w' (hb : Below w.heap.size w w') => refRead_any (hR.below hb) hd q)
  rw [hX] at H1 H2
  have H3 := Lib.hid (fun w' (hb : Below w.heap.size w w') => fDown_any (hF.below hb) hd)
  have H4 := Lib.hid (fun w' (hb : Below w.heap.size w w') => fPending_any (hF.below hb) hd)
  rw [hL] at H4
  have H5 := Lib.hid (fun w' (hb : Below w.heap.size w w') => fImage_any (hF.below hb) hd)
  have H6 := Lib.hid (fun w' (hb : Below w.heap.size w w') => refImage_any (hR.below hb))
  unfold ptr at H2 H6
  have hq : (d.down == d.down) = true := by simp
  have HR := Lib.hid hR
  clear hX hL hR hF hd
  go_enter Try.func18, Try.ntmps18
  go_wp2_with (first
    | (go_at_call 29; (with_reducible refine (H1.out _ (Below.refl _ _)).mono ?_); rintro e w8 ⟨rfl, b8⟩)
    | (go_at_call 42; (with_reducible refine (H2.out _ b8).mono ?_); rintro e w9 ⟨rfl, b9⟩))
  have HB := Lib.hid (bel2 b8 b9)
  have HR9 := Lib.hid (HR.out.below HB.out)
  refine wp_region_is [23, 24, 25, 26, 27, 28, 29, 30, 31, 32, 33, 34, 35, 36, 37, 38, 39, 40, 41, 42, 43, 44, 45, 46, 47, 48, 49, 50, 51, 52, 53, 54, 55, 56, 6] (fun w' => Below w9.heap.size w9 w')
    [.pointer (some ⟨p, 0, none⟩), .bool d.down, .pointer (some ⟨r, 0, none⟩), .pointer (some ⟨r, 0, none⟩), .pointer (some ⟨r, 7, none⟩), .bool d.down, .bool true, .bool true, .pointer (some ⟨p, 0, none⟩), .int .i64 (L : Int), .pointer (some ⟨r, 0, none⟩), .pointer (some ⟨r, 0, none⟩), .pointer (some ⟨r, 4, none⟩), .slice a L c, .int .i64 (L : Int), .bool true, .bool true, .bool true, .pointer (some ⟨p, 0, none⟩), .string (bs d.img), .pointer (some ⟨r, 0, none⟩), .string (bs d.img), .bool true, .bool true, .bool true, .string (bs X), .string (bs X), .bool true, .bool true, .bool true, .int .i64 (cd : Int), .int .i64 (cd : Int), .bool true, .bool true, .bool true] (by kernel_rfl) (by kernel_rfl) rfl (by decide) (by simp) (Below.refl _ _).drew ?each ?done
  case each =>
    simp only [Each]
    repeat' (first | exact trivial | refine And.intro ?_ ?_)
    all_goals
      intro ys wx hBx hdeps
      simp only [Deps, Region.binds, List.getD_cons_zero, List.getD_cons_succ, forall_const, and_true] at hdeps
      have hRx := HR9.out.below hBx
      have c7 : wx.cell? ⟨r, 7, none⟩ = some (.bool d.down) := hRx.var.cell (j := 7) rfl
      have c4 : wx.cell? ⟨r, 4, none⟩ = some (.slice a L c) := hRx.var.cell (j := 4) rfl
      clear hRx
      simp only [hdeps, fill, List.foldl_cons, List.foldl_nil, Act.put, List.setIfInBounds_toArray, List.set_cons_succ, List.set_cons_zero]
      first
        | (go_wp2_with fail; exact ⟨_, rfl, rfl, hBx, Below.refl _ _⟩)
        | (go_wp2_with (go_at_call 23; (with_reducible refine (H3.out _ (bel2 HB.out hBx)).mono ?_); rintro e w3 ⟨rfl, hm⟩); exact ⟨_, rfl, rfl, hBx.trans (hm.mono hBx.size), hm⟩)
        | (go_wp2_with (go_at_call 24; (with_reducible refine (H4.out _ (bel2 HB.out hBx)).mono ?_); rintro e w3 ⟨rfl, hm⟩); exact ⟨_, rfl, rfl, hBx.trans (hm.mono hBx.size), hm⟩)
        | (go_wp2_with (go_at_call 21; (with_reducible refine (H5.out _ (bel2 HB.out hBx)).mono ?_); rintro e w3 ⟨rfl, hm⟩); exact ⟨_, rfl, rfl, hBx.trans (hm.mono hBx.size), hm⟩)
        | (go_wp2_with (go_at_call 44; (with_reducible refine (H6.out _ (bel2 HB.out hBx)).mono ?_); rintro e w3 ⟨rfl, rfl⟩); exact ⟨_, rfl, rfl, hBx, Below.refl _ _⟩)
  case done =>
    intro ys wx hBx hV
    have h6 : ys 6 = .bool true := hV 34 (by decide)
    simp only [h6, fill, List.drop_succ_cons, List.drop_zero, List.foldl_cons, List.foldl_nil, Act.put, List.setIfInBounds_toArray, List.set_cons_succ, List.set_cons_zero]
    go_wp2
    go_ret
    exact ⟨rfl, bel2 HB.out hBx⟩
end Go.Proofs.Ytgcbdekdjdlfaaa.Flash
