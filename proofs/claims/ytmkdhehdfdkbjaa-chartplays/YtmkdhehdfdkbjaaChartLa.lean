/-
  ChartPlays: a step on both accounts.
-/
import Derived.Test.YtmkdhehdfdkbjaaChartL
set_option linter.unusedVariables false
set_option linter.unusedSimpArgs false
namespace Go.Proofs.Ytmkdhehdfdkbjaa.Chart
open Go.RowKit
open Go.Proofs.Ytmkdhehdfdkbjaa.Own
open Tup Foot
open Go.Proofs.Ytmkdhehdfdkbjaa.Region (fill Then Deps Each wp_region_is wp_region_is_tail)

/-- what a step leaves of an account -/
def stepC (c : Ch) (m : Nat) (a : Int) (e : Nat) (b : Int) : Ch :=
  if m = 0 then (setC c a e b).2 else if m = 1 then (resumeC c a).2 else if m = 2 ∨ m = 3 then (openC c).2 else if m = 8 ∨ m = 9 then (eraseC c a).2 else (takeC c).2
theorem step_keeps {c : Ch} (h : c.Ok) (m : Nat) (a : Int) (e : Nat) (b : Int) : (stepC c m a e b).Ok := by
  unfold stepC
  split
  · exact set_keeps h a e b
  · split
    · exact resume_keeps h a
    · split
      · exact open_keeps h
      · split
        · exact erase_keeps h a
        · exact take_keeps h
theorem grows_both {S R : Nat → Prop} {w w1 w' : World} (hb : Below w.heap.size w w1) (g : Grows (both S R) w1 w') : Grows (both S R) w w' := (grows_below hb).trans g (fun _ x => .inl x)
theorem self_eq (n : Nat) : ((n : Int) == (n : Int)) = true := by simp
theorem step_sizes (c : Ch) (m : Nat) (a : Int) (e : Nat) (b : Int) : (stepC c m a e b).pg = c.pg ∧ (stepC c m a e b).pgs = c.pgs ∧ (stepC c m a e b).rgs = c.rgs := by
  unfold stepC setC resumeC openC eraseC takeC Ch.openAt Ch.takeAt Ch.put
  repeat' split
  all_goals exact ⟨rfl, rfl, rfl⟩
set_option maxRecDepth 100000 in
set_option maxHeartbeats 32000000 in
theorem step_false {w : World} {p r : Nat} {c : Ch} {S R : Nat → Prop} (h : Two w p r c c S R) (hd : c.Ok) (tw ta tb : Int) (te : Nat) (m : Nat) (hm : tw % 10 = (m : Int)) (hm9 : m < 10) :
    Calls Try.prog 15 #[.pointer (some ⟨p, 0, none⟩), .pointer (some ⟨r, 0, none⟩), .agg #[.int .i64 tw, .int .i64 ta, .int .i64 tb, .int .u32 (te : Int), .bool false]] w fun e w' => e = .returned (.bool true) ∧ (∃ c', c'.Ok ∧ c'.pg = c.pg ∧ c'.pgs = c.pgs ∧ c'.rgs = c.rgs ∧ Two w' p r c' c' S R) ∧ Grows (both S R) w w' := by
  have HK : Hid (∀ w, Calls Try.prog 26 #[.int .i64 tw, .int .i64 10] w fun e w' => e = .returned (.int .i64 (m : Int)) ∧ w = w') := fun w => by have := Book.pick_any tw 10 (by decide) (by decide) w; rw [show tw % ((10 : Nat) : Int) = (m : Int) from hm] at this; exact this
  have HV := Lib.hid (Var.new w 35 [.int .i64 tw, .int .i64 ta, .int .i64 tb, .int .u32 (te : Int), .bool false])
  have HB := Lib.hid (Geom.bel_alloc w (.cells #[.int .i64 tw, .int .i64 ta, .int .i64 tb, .int .u32 (te : Int), .bool false] 35))
  have H0 := Lib.hid (h.below HB.out)
  have HD := Lib.hid hd
  have HS := Lib.hid (fun w p S (h : CHas w p c S) => cSet_any h hd ta te tb)
  have HDS := Lib.hid (fun w p S (h : DHas w p c S) => dSet_any h hd ta te tb)
  have HR := Lib.hid (fun w p S (h : CHas w p c S) => cResume_any h hd ta)
  have HDR := Lib.hid (fun w p S (h : DHas w p c S) => dResume_any h hd ta)
  have HE := Lib.hid (fun w p S (h : CHas w p c S) => cErase_any h hd ta)
  have HDE := Lib.hid (fun w p S (h : DHas w p c S) => dErase_any h hd ta)
  have HO := Lib.hid (fun w p S (h : CHas w p c S) => cOpen_any h hd)
  have HDO := Lib.hid (fun w p S (h : DHas w p c S) => dOpen_any h hd)
  have HT := Lib.hid (fun w p S (h : CHas w p c S) => cTake_any h hd)
  have HDT := Lib.hid (fun w p S (h : DHas w p c S) => dTake_any h hd)
  have HKP := Lib.hid (step_keeps hd m ta te tb)
  have HKS := Lib.hid (step_sizes c m ta te tb)
  unfold ptr at HS HDS HR HDR HE HDE HO HDO HT HDT
  generalize (setC c ta te tb).1 = r1 at HS HDS
  generalize (resumeC c ta).1 = r2 at HR HDR
  generalize (eraseC c ta).1 = r3 at HE HDE
  generalize (openC c).1 = r4 at HO HDO
  generalize (takeC c).1 = r5 at HT HDT
  obtain ⟨r40, r41, r42⟩ := r4
  obtain ⟨r50, r51⟩ := r5
  have q1 := self_eq r1
  have q2 := self_eq r2
  have q3 := self_eq r3
  have q4 := self_eq r40
  have q5 := self_eq r41
  have q6 := self_eq r50
  have q7 : (r42 == r42) = true := by simp
  have q8 : (r51 == r51) = true := by simp
  clear h hm
  rcases (show m = 0 ∨ m = 1 ∨ m = 2 ∨ m = 3 ∨ m = 4 ∨ m = 5 ∨ m = 6 ∨ m = 7 ∨ m = 8 ∨ m = 9 by omega) with rfl | rfl | rfl | rfl | rfl | rfl | rfl | rfl | rfl | rfl
  all_goals
    have x0 := HV.out.cell (j := 0) rfl
    have x1 := HV.out.cell (j := 1) rfl
    have x2 := HV.out.cell (j := 2) rfl
    have x3 := HV.out.cell (j := 3) rfl
    have x4 := HV.out.cell (j := 4) rfl
    go_enter Try.func15, Try.ntmps15
    go_wp2
    go_quiet (fail)
    obtain ⟨w5, hw5⟩ : ∃ w5, w5 = (w.alloc (.cells #[.int .i64 tw, .int .i64 ta, .int .i64 tb, .int .u32 (te : Int), .bool false] 35)).drewN nq := ⟨_, rfl⟩
    rw [← hw5]
    have BW := Lib.hid (show Below w.heap.size w w5 by rw [hw5]; exact below_drewN HB.out _)
    have H5 := Lib.hid (show Two w5 p r c c S R by rw [hw5]; exact H0.out.below (below_drewN (Below.refl _ _) _))
    have HV5 := Lib.hid (show Var w5 w.heap.size 35 [.int .i64 tw, .int .i64 ta, .int .i64 tb, .int .u32 (te : Int), .bool false] by rw [hw5]; exact HV.out.below (below_drewN (Below.refl _ _) _) HV.out.lt)
    clear x0 x1 x2 x3 x4 hw5
    have x0 := HV5.out.cell (j := 0) rfl
    have x4 := HV5.out.cell (j := 4) rfl
    go_wp2_with (first
      | (go_at_call 26; (with_reducible refine (HK.out _).mono ?_); rintro e wz ⟨rfl, rfl⟩)
      | (go_at_call 29; (with_reducible refine (HS.out _ _ _ H5.out.f).mono ?_); rintro e w6 ⟨rfl, h6, g6, z6⟩; clear z6; have T6 := Lib.hid (H5.out.left h6 g6))
      | (go_at_call 33; (with_reducible refine (HDS.out _ _ _ T6.out.1.r).mono ?_); rintro e w7 ⟨rfl, h7, g7⟩; have T7 := Lib.hid (T6.out.1.right h7 g7))
      | (go_at_call 24; (with_reducible refine (HR.out _ _ _ H5.out.f).mono ?_); rintro e w6 ⟨rfl, h6, g6, z6⟩; clear z6; have T6 := Lib.hid (H5.out.left h6 g6))
      | (go_at_call 34; (with_reducible refine (HDR.out _ _ _ T6.out.1.r).mono ?_); rintro e w7 ⟨rfl, h7, g7⟩; have T7 := Lib.hid (T6.out.1.right h7 g7))
      | (go_at_call 25; (with_reducible refine (HE.out _ _ _ H5.out.f).mono ?_); rintro e w6 ⟨rfl, h6, g6, z6⟩; clear z6; have T6 := Lib.hid (H5.out.left h6 g6))
      | (go_at_call 36; (with_reducible refine (HDE.out _ _ _ T6.out.1.r).mono ?_); rintro e w7 ⟨rfl, h7, g7⟩; have T7 := Lib.hid (T6.out.1.right h7 g7))
      | (go_at_call 27; (with_reducible refine (HO.out _ _ _ H5.out.f).mono ?_); rintro e w6 ⟨rfl, h6, g6⟩; have T6 := Lib.hid (H5.out.left h6 g6))
      | (go_at_call 35; (with_reducible refine (HDO.out _ _ _ T6.out.1.r).mono ?_); rintro e w7 ⟨rfl, h7, g7⟩; have T7 := Lib.hid (T6.out.1.right h7 g7))
      | (go_at_call 19; (with_reducible refine (HT.out _ _ _ H5.out.f).mono ?_); rintro e w6 ⟨rfl, h6, g6⟩; have T6 := Lib.hid (H5.out.left h6 g6))
      | (go_at_call 37; (with_reducible refine (HDT.out _ _ _ T6.out.1.r).mono ?_); rintro e w7 ⟨rfl, h7, g7⟩; have T7 := Lib.hid (T6.out.1.right h7 g7)))
    go_ret
    exact ⟨rfl, ⟨_, HKP.out, HKS.out.1, HKS.out.2.1, HKS.out.2.2, T7.out.1⟩, grows_both BW.out (T6.out.2.trans T7.out.2 (fun _ x => .inl x))⟩
set_option maxRecDepth 100000 in
set_option maxHeartbeats 32000000 in
theorem step_true {w : World} {p r : Nat} {c : Ch} {S R : Nat → Prop} (h : Two w p r c c S R) (hd : c.Ok) (tw ta tb : Int) (te : Nat) (m : Nat) (hm : tw % 10 = (m : Int)) (hm9 : m < 10) :
    Calls Try.prog 15 #[.pointer (some ⟨p, 0, none⟩), .pointer (some ⟨r, 0, none⟩), .agg #[.int .i64 tw, .int .i64 ta, .int .i64 tb, .int .u32 (te : Int), .bool true]] w fun e w' => e = .returned (.bool true) ∧ (∃ c', c'.Ok ∧ c'.pg = c.pg ∧ c'.pgs = c.pgs ∧ c'.rgs = c.rgs ∧ Two w' p r c' c' S R) ∧ Grows (both S R) w w' := by
  have HK : Hid (∀ w, Calls Try.prog 26 #[.int .i64 tw, .int .i64 10] w fun e w' => e = .returned (.int .i64 (m : Int)) ∧ w = w') := fun w => by have := Book.pick_any tw 10 (by decide) (by decide) w; rw [show tw % ((10 : Nat) : Int) = (m : Int) from hm] at this; exact this
  have HV := Lib.hid (Var.new w 35 [.int .i64 tw, .int .i64 ta, .int .i64 tb, .int .u32 (te : Int), .bool true])
  have HB := Lib.hid (Geom.bel_alloc w (.cells #[.int .i64 tw, .int .i64 ta, .int .i64 tb, .int .u32 (te : Int), .bool true] 35))
  have H0 := Lib.hid (h.below HB.out)
  have HD := Lib.hid hd
  have hr0 := hd.r0
  have hr1 := hd.r1
  have hs0 := hd.s0
  have hs1 := hd.s1
  obtain ⟨a, ha⟩ : ∃ a, a = ta % (c.rgs : Int) := ⟨_, rfl⟩
  obtain ⟨b, hb⟩ : ∃ b, b = tb % (c.pgs : Int) := ⟨_, rfl⟩
  obtain ⟨e, he⟩ : ∃ e, e = te % 9 := ⟨_, rfl⟩
  have HKa := Lib.hid (fun w => Book.pick_any ta c.rgs (by omega) (by omega) w)
  have HKb := Lib.hid (fun w => Book.pick_any tb c.pgs (by omega) (by omega) w)
  rw [← ha] at HKa
  rw [← hb] at HKb
  have hte : ((te : Nat) : Int).tmod 9 = (e : Int) := by rw [he]; rfl
  have HCR := Lib.hid (show Two _ p r c c S R from H0.out)
  clear ha hb he
  have HS := Lib.hid (fun w p S (h : CHas w p c S) => cSet_any h hd a e b)
  have HDS := Lib.hid (fun w p S (h : DHas w p c S) => dSet_any h hd a e b)
  have HR := Lib.hid (fun w p S (h : CHas w p c S) => cResume_any h hd a)
  have HDR := Lib.hid (fun w p S (h : DHas w p c S) => dResume_any h hd a)
  have HE := Lib.hid (fun w p S (h : CHas w p c S) => cErase_any h hd a)
  have HDE := Lib.hid (fun w p S (h : DHas w p c S) => dErase_any h hd a)
  have HO := Lib.hid (fun w p S (h : CHas w p c S) => cOpen_any h hd)
  have HDO := Lib.hid (fun w p S (h : DHas w p c S) => dOpen_any h hd)
  have HT := Lib.hid (fun w p S (h : CHas w p c S) => cTake_any h hd)
  have HDT := Lib.hid (fun w p S (h : DHas w p c S) => dTake_any h hd)
  have HKP := Lib.hid (step_keeps hd m a e b)
  have HKS := Lib.hid (step_sizes c m a e b)
  unfold ptr at HS HDS HR HDR HE HDE HO HDO HT HDT
  generalize (setC c a e b).1 = r1 at HS HDS
  generalize (resumeC c a).1 = r2 at HR HDR
  generalize (eraseC c a).1 = r3 at HE HDE
  generalize (openC c).1 = r4 at HO HDO
  generalize (takeC c).1 = r5 at HT HDT
  obtain ⟨r40, r41, r42⟩ := r4
  obtain ⟨r50, r51⟩ := r5
  have q1 := self_eq r1
  have q2 := self_eq r2
  have q3 := self_eq r3
  have q4 := self_eq r40
  have q5 := self_eq r41
  have q6 := self_eq r50
  have q7 : (r42 == r42) = true := by simp
  have q8 : (r51 == r51) = true := by simp
  clear h hm
  rcases (show m = 0 ∨ m = 1 ∨ m = 2 ∨ m = 3 ∨ m = 4 ∨ m = 5 ∨ m = 6 ∨ m = 7 ∨ m = 8 ∨ m = 9 by omega) with rfl | rfl | rfl | rfl | rfl | rfl | rfl | rfl | rfl | rfl
  all_goals
    have x0 := HV.out.cell (j := 0) rfl
    have x1 := HV.out.cell (j := 1) rfl
    have x2 := HV.out.cell (j := 2) rfl
    have x3 := HV.out.cell (j := 3) rfl
    have x4 := HV.out.cell (j := 4) rfl
    go_enter Try.func15, Try.ntmps15
    go_wp2
    go_quiet (fail)
    obtain ⟨w5, hw5⟩ : ∃ w5, w5 = (w.alloc (.cells #[.int .i64 tw, .int .i64 ta, .int .i64 tb, .int .u32 (te : Int), .bool true] 35)).drewN nq := ⟨_, rfl⟩
    rw [← hw5]
    have BW := Lib.hid (show Below w.heap.size w w5 by rw [hw5]; exact below_drewN HB.out _)
    have H5 := Lib.hid (show Two w5 p r c c S R by rw [hw5]; exact H0.out.below (below_drewN (Below.refl _ _) _))
    have HV5 := Lib.hid (show Var w5 w.heap.size 35 [.int .i64 tw, .int .i64 ta, .int .i64 tb, .int .u32 (te : Int), .bool true] by rw [hw5]; exact HV.out.below (below_drewN (Below.refl _ _) _) HV.out.lt)
    clear x0 x1 x2 x3 x4 hw5
    have x0 := HV5.out.cell (j := 0) rfl
    have x4 := HV5.out.cell (j := 4) rfl
    go_wp2
    refine wp_region_is [28, 29, 30, 31, 32, 33, 34, 35, 36, 37, 38, 39, 40, 41, 42, 43, 44, 45, 46, 7, 8, 9] (fun w' => Below w5.heap.size w5 w')
      [.pointer (some ⟨w.heap.size, 1, none⟩), .int .i64 ta, .pointer (some ⟨r, 0, none⟩), .pointer (some ⟨r, 0, none⟩), .pointer (some ⟨r, 0, none⟩), .pointer (some ⟨r, 2, none⟩), .int .i64 (c.rgs : Int), .int .i64 a, .pointer (some ⟨w.heap.size, 3, none⟩), .int .u32 (te : Int), .int .u32 (e : Int), .pointer (some ⟨w.heap.size, 2, none⟩), .int .i64 tb, .pointer (some ⟨r, 0, none⟩), .pointer (some ⟨r, 0, none⟩), .pointer (some ⟨r, 0, none⟩), .pointer (some ⟨r, 1, none⟩), .int .i64 (c.pgs : Int), .int .i64 b, .int .i64 a, .int .u32 (e : Int), .int .i64 b] (by kernel_rfl) (by kernel_rfl) rfl (by decide) (by simp) (Below.refl _ _).drew ?each ?done
    case each =>
      clear x0 x4
      simp only [Each]
      repeat' (first | exact trivial | refine And.intro ?_ ?_)
      all_goals
        intro ys wx hBx hdeps
        simp only [Deps, Region.binds, List.getD_cons_zero, List.getD_cons_succ, forall_const, and_true] at hdeps
        have f0 := (HV5.out.below hBx HV5.out.lt).cell (j := 0) rfl
        have f1 := (HV5.out.below hBx HV5.out.lt).cell (j := 1) rfl
        have f2 := (HV5.out.below hBx HV5.out.lt).cell (j := 2) rfl
        have f3 := (HV5.out.below hBx HV5.out.lt).cell (j := 3) rfl
        have f4 := (HV5.out.below hBx HV5.out.lt).cell (j := 4) rfl
        have hg := (H5.out.r.below hBx).geo
        have g0 := hg.1
        have g1 := hg.2.1
        have g2 := hg.2.2
        clear hg
        simp only [hdeps, fill, List.foldl_cons, List.foldl_nil, Act.put, List.setIfInBounds_toArray, List.set_cons_succ, List.set_cons_zero]
        first
          | (go_wp2_with fail; exact ⟨_, rfl, rfl, hBx, Below.refl _ _⟩)
          | (go_wp2_with (go_at_call 26; (with_reducible refine (HKa.out _).mono ?_); rintro e w3 ⟨rfl, rfl⟩); exact ⟨_, rfl, rfl, hBx, Below.refl _ _⟩)
          | (go_wp2_with (go_at_call 26; (with_reducible refine (HKb.out _).mono ?_); rintro e w3 ⟨rfl, rfl⟩); exact ⟨_, rfl, rfl, hBx, Below.refl _ _⟩)
    case done =>
      intro ys wx hBx hV
      have h7 : ys 7 = .int .i64 a := hV 19 (by decide)
      have h8 : ys 8 = .int .u32 (e : Int) := hV 20 (by decide)
      have h9 : ys 9 = .int .i64 b := hV 21 (by decide)
      have BW2 := Lib.hid (bel2 BW.out hBx)
      have H6 := Lib.hid (H5.out.below hBx)
      have y0 := (HV5.out.below hBx HV5.out.lt).cell (j := 0) rfl
      clear hBx hV x0 x4
      simp only [h7, h8, h9, fill, List.drop_succ_cons, List.drop_zero, List.foldl_cons, List.foldl_nil, Act.put, List.setIfInBounds_toArray, List.set_cons_succ, List.set_cons_zero]
      go_wp2_with (first
      | (go_at_call 26; (with_reducible refine (HK.out _).mono ?_); rintro e wz ⟨rfl, rfl⟩)
      | (go_at_call 29; (with_reducible refine (HS.out _ _ _ H6.out.f).mono ?_); rintro e w6 ⟨rfl, h6, g6, z6⟩; clear z6; have T6 := Lib.hid (H6.out.left h6 g6))
      | (go_at_call 33; (with_reducible refine (HDS.out _ _ _ T6.out.1.r).mono ?_); rintro e w7 ⟨rfl, h7, g7⟩; have T7 := Lib.hid (T6.out.1.right h7 g7))
      | (go_at_call 24; (with_reducible refine (HR.out _ _ _ H6.out.f).mono ?_); rintro e w6 ⟨rfl, h6, g6, z6⟩; clear z6; have T6 := Lib.hid (H6.out.left h6 g6))
      | (go_at_call 34; (with_reducible refine (HDR.out _ _ _ T6.out.1.r).mono ?_); rintro e w7 ⟨rfl, h7, g7⟩; have T7 := Lib.hid (T6.out.1.right h7 g7))
      | (go_at_call 25; (with_reducible refine (HE.out _ _ _ H6.out.f).mono ?_); rintro e w6 ⟨rfl, h6, g6, z6⟩; clear z6; have T6 := Lib.hid (H6.out.left h6 g6))
      | (go_at_call 36; (with_reducible refine (HDE.out _ _ _ T6.out.1.r).mono ?_); rintro e w7 ⟨rfl, h7, g7⟩; have T7 := Lib.hid (T6.out.1.right h7 g7))
      | (go_at_call 27; (with_reducible refine (HO.out _ _ _ H6.out.f).mono ?_); rintro e w6 ⟨rfl, h6, g6⟩; have T6 := Lib.hid (H6.out.left h6 g6))
      | (go_at_call 35; (with_reducible refine (HDO.out _ _ _ T6.out.1.r).mono ?_); rintro e w7 ⟨rfl, h7, g7⟩; have T7 := Lib.hid (T6.out.1.right h7 g7))
      | (go_at_call 19; (with_reducible refine (HT.out _ _ _ H6.out.f).mono ?_); rintro e w6 ⟨rfl, h6, g6⟩; have T6 := Lib.hid (H6.out.left h6 g6))
      | (go_at_call 37; (with_reducible refine (HDT.out _ _ _ T6.out.1.r).mono ?_); rintro e w7 ⟨rfl, h7, g7⟩; have T7 := Lib.hid (T6.out.1.right h7 g7)))
      go_ret
      exact ⟨rfl, ⟨_, HKP.out, HKS.out.1, HKS.out.2.1, HKS.out.2.2, T7.out.1⟩, grows_both BW2.out (T6.out.2.trans T7.out.2 (fun _ x => .inl x))⟩
theorem step_any {w : World} {p r : Nat} {c : Ch} {S R : Nat → Prop} (h : Two w p r c c S R) (hd : c.Ok) (tw ta tb : Int) (te : Nat) (near : Bool) :
    Calls Try.prog 15 #[.pointer (some ⟨p, 0, none⟩), .pointer (some ⟨r, 0, none⟩), .agg #[.int .i64 tw, .int .i64 ta, .int .i64 tb, .int .u32 (te : Int), .bool near]] w fun e w' => e = .returned (.bool true) ∧ (∃ c', c'.Ok ∧ c'.pg = c.pg ∧ c'.pgs = c.pgs ∧ c'.rgs = c.rgs ∧ Two w' p r c' c' S R) ∧ Grows (both S R) w w' := by
  obtain ⟨m, hm, h9⟩ : ∃ m : Nat, tw % 10 = (m : Int) ∧ m < 10 := ⟨(tw % 10).toNat, by omega, by omega⟩
  cases near
  · exact step_false h hd tw ta tb te m hm h9
  · exact step_true h hd tw ta tb te m hm h9
end Go.Proofs.Ytmkdhehdfdkbjaa.Chart
