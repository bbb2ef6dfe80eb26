/-
  What the document's own device does at a crash.
-/
import Derived.Test.YtgcbdekdjdlfaaaFlashW
set_option linter.unusedVariables false
set_option linter.unusedSimpArgs false
namespace Go.Proofs.Ytgcbdekdjdlfaaa.Flash
open Go.RowKit
open Go.Proofs.Ytgcbdekdjdlfaaa.Own
open Tup Bytes Foot
open Go.Proofs.Ytgcbdekdjdlfaaa.Region (fill Then Deps Each wp_region_is wp_region_is_tail)

/-- a row of numbers, at a place that S has not -/
def MaskAt (w : World) (ma : Option Addr) (mask : List Int) (S : Nat → Prop) : Prop := mask = [] ∨ ∃ b off, ma = some ⟨b, off, none⟩ ∧ Lies w b off (mask.map (.int .i64 ·)) ∧ ¬ S b
theorem MaskAt.grows {S T : Nat → Prop} {w w' : World} {ma : Option Addr} {mask : List Int} (h : MaskAt w ma mask S) (g : Grows T w w') (hs : ∀ k, T k → S k) : MaskAt w' ma mask S := by
  rcases h with h | ⟨b, off, ha, hl, hn⟩
  · exact .inl h
  · exact .inr ⟨b, off, ha, fun j c hj => g.cell (p := ⟨b, off + j, none⟩) (hl j c hj) (fun x => hn (hs b x)), hn⟩
theorem MaskAt.get {S : Nat → Prop} {w : World} {ma : Option Addr} {mask : List Int} (h : MaskAt w ma mask S) {k : Nat} (hk : k < mask.length) : ∃ b off, ma = some ⟨b, off, none⟩ ∧ w.cell? ⟨b, off + k, none⟩ = some (.int .i64 mask[k]) := by
  rcases h with h | ⟨b, off, ha, hl, hn⟩
  · subst h; simp at hk
  · exact ⟨b, off, ha, hl k _ (by simp [hk])⟩
/-- a crash's first pages -/
def crashI (d : Dev) (mask : List Int) (k : Nat) : List UInt8 := (d.wait.zipIdx.take k).foldl (fun im x => over im (x.1.1 * d.pg) (x.1.2.take (tornN d.pg (mask.getD x.2 0)))) d.img
theorem crashI_succ {d : Dev} {mask : List Int} {k : Nat} (hk : k < d.wait.length) : crashI d mask (k + 1) = over (crashI d mask k) (d.wait[k].1 * d.pg) (d.wait[k].2.take (tornN d.pg (mask.getD k 0))) := by
  unfold crashI
  rw [List.take_succ_eq_append_getElem (by simpa using hk), List.foldl_append]
  simp
theorem crashI_len {d : Dev} (h : d.Ok) (mask : List Int) (k : Nat) : (crashI d mask k).length = d.img.length :=
  crash_len d.pg (by have := h.p0; omega) mask _ d.img (fun x hx => by
    have hx := List.mem_of_mem_take hx
    have hm : x.1 ∈ d.wait := by
      obtain ⟨y, i⟩ := x
      exact (List.mem_zipIdx hx).2.2 ▸ List.getElem_mem _
    have := h.wait x.1 hm
    exact ⟨h.page this.1, this.2⟩)
theorem torn0 (pg : Nat) : tornN pg 0 = 0 := rfl
theorem crashI_same {d : Dev} {mask : List Int} {k : Nat} (hk : k < d.wait.length) (hm : tornN d.pg (mask.getD k 0) = 0) : crashI d mask (k + 1) = crashI d mask k := by
  rw [crashI_succ hk, hm, List.take_zero, over_nil]
theorem crashI_end {d : Dev} {mask : List Int} : ∀ (j k : Nat), mask.length ≤ k → k + j = d.wait.length → crashI d mask d.wait.length = crashI d mask k
  | 0, k, _, h => by rw [← h]; rfl
  | j + 1, k, hk, h => by
    rw [crashI_end j (k + 1) (by omega) (by omega)]
    exact crashI_same (by omega) (by rw [List.getD_eq_getElem?_getD, List.getElem?_eq_none hk]; rfl)
theorem crash_is (d : Dev) (mask : List Int) : crashD d mask = { d with img := crashI d mask d.wait.length, wait := [], down := false, fuse := none } := by
  unfold crashD crashI
  rw [List.take_of_length_le (by simp)]
theorem RAt.crash {w : World} {p : Nat} {d : Dev} {bB cap : Nat} {wv : Value} {fz : Nat} (h : RAt w p d bB cap wv fz) :
    RAt (((w.setCell ⟨p, 4, none⟩ (.slice none 0 0)).setCell ⟨p, 7, none⟩ (.bool false)).setCell ⟨p, 5, none⟩ (.bool false)) p { d with wait := [], down := false, fuse := none } bB cap (.slice none 0 0) fz
    ∧ After (foot p bB wv) w (((w.setCell ⟨p, 4, none⟩ (.slice none 0 0)).setCell ⟨p, 7, none⟩ (.bool false)).setCell ⟨p, 5, none⟩ (.bool false)) (foot p bB (.slice none 0 0)) := by
  obtain ⟨h1, a1⟩ := h.clear
  have g2 : Grows (· = p) (w.setCell ⟨p, 4, none⟩ (.slice none 0 0)) ((w.setCell ⟨p, 4, none⟩ (.slice none 0 0)).setCell ⟨p, 7, none⟩ (.bool false)) := Grows.set _ _ _ rfl
  have g3 : Grows (· = p) (w.setCell ⟨p, 4, none⟩ (.slice none 0 0)) (((w.setCell ⟨p, 4, none⟩ (.slice none 0 0)).setCell ⟨p, 7, none⟩ (.bool false)).setCell ⟨p, 5, none⟩ (.bool false)) := g2.trans (Grows.set (S := (· = p)) _ _ _ rfl) (fun _ h => .inl h)
  exact ⟨h1.turn g3 ((h1.var.set 7 (.bool false)).set 5 (.bool false)) rfl rfl (by simp) h.fuz0, a1.trans (After.of_grows g3 (fun j hj => .inl hj))⟩
set_option maxRecDepth 100000 in
set_option maxHeartbeats 8000000 in
theorem refCrash_any {w : World} {p : Nat} {d : Dev} {bB cap : Nat} {wv : Value} {fz : Nat} (h : RAt w p d bB cap wv fz) (hd : d.Ok) (ma : Option Addr) (mask : List Int) (mc : Nat) (hM : MaskAt w ma mask (foot p bB wv)) (hm : ∀ m ∈ mask, m < 9223372036854775808) (hml : mask.length ≤ maxLen) :
    Calls Try.prog 39 #[ptr p, .slice ma mask.length mc] w fun e w' => e = .returned (.tuple #[]) ∧ ∃ S, RHas w' p (crashD d mask) S ∧ After (foot p bB wv) w w' S := by
  obtain ⟨a, c, rfl⟩ := h.slice
  have HE := Lib.hid (crash_is d mask)
  have hn := hd.wait_le
  have hp0 := hd.p0
  have hp1 := hd.p1
  have HA0 := Lib.hid h
  have HFI := Lib.hid (fun k => crashI_len hd mask k)
  have HX := Lib.hid (fun k (hk : k < d.wait.length) => crashI_succ (mask := mask) hk)
  have HWK := Lib.hid (fun k (hk : k < d.wait.length) => hd.wait d.wait[k] (List.getElem_mem hk))
  have HDA := Lib.hid (fun (wx : World) bB cap wv fz (im : List UInt8) (him : im.length = d.img.length) (hR : RAt wx p { d with img := im } bB cap wv fz) k (hk : k < d.wait.length) (n : Nat) (hn : n ≤ d.pg) =>
    refDone_any hR (hd.image him) d.wait[k].1 (HWK.out k hk).1 (bs d.wait[k].2) (by rw [bs_size]; exact (HWK.out k hk).2) n hn)
  unfold ptr at HDA ⊢
  have HM := Lib.hid hM
  have HMM := Lib.hid hm
  have HEN := Lib.hid (fun k (hk : mask.length ≤ k) (hl : k ≤ d.wait.length) => crashI_end (d := d) (mask := mask) (d.wait.length - k) k hk (by omega))
  unfold maxLen at hml
  clear h hd hM hm
  obtain ⟨L, hL⟩ : ∃ L, d.wait.length = L := ⟨_, rfl⟩
  rw [hL] at HE hn HA0 HM HEN ⊢
  have HL := Lib.hid hL
  clear hL
  go_enter Try.func39, Try.ntmps39
  go_wp2
  go_loopw [4] (fun i wr => ∃ k : Nat, i = .int .i64 (k : Int) ∧ k ≤ L ∧ k ≤ mask.length ∧ Grows (· = bB) w wr ∧ RAt wr p { d with img := crashI d mask k } bB cap (.slice a L c) fz ∧ MaskAt wr ma mask (foot p bB (.slice a L c))) (fun i _ => L - (intOf i).toNat)
  case atStart => exact ⟨0, rfl, Nat.zero_le _, Nat.zero_le _, .refl _ _, HA0.out, HM.out⟩
  case round =>
    obtain ⟨k, rfl, hk, hkm, hG, hR, hMr⟩ := hrel
    have HGr := Lib.hid hG
    have HAr := Lib.hid hR
    have HM0 := HM
    have c4 := hR.var.cell (j := 4) rfl
    clear HM HA0
    by_cases hlt : k < L
    · have d3 : decide ((k : Int) < (L : Int)) = true := by simp; omega
      have d4 : decide (k < L) = true := by simp; omega
      by_cases hlm : k < mask.length
      · have d5 : decide ((k : Int) < (mask.length : Int)) = true := by simp; omega
        have d6 : decide (k < mask.length) = true := by simp; omega
        have hkl : k < d.wait.length := by rw [HL.out]; exact hlt
        obtain ⟨g, ha, e0, e1⟩ := hR.pend hkl
        subst ha
        obtain ⟨mb, off, hma, e2⟩ := hMr.get hlm
        subst hma
        have hmm := HMM.out mask[k] (List.getElem_mem hlm)
        have hmd : mask.getD k 0 = mask[k] := by rw [List.getD_eq_getElem?_getD, List.getElem?_eq_getElem hlm]; rfl
        have HXk := Lib.hid (HX.out k hkl)
        rw [hmd] at HXk
        have HSM := Lib.hid (fun hz => crashI_same (d := d) (mask := mask) hkl hz)
        rw [hmd] at HSM
        generalize hmk : mask[k] = m at *
        clear hmk hmd
        have HD0 := Lib.hid (fun n hn wx hR => HDA.out wx bB cap (.slice (some ⟨g, 0, none⟩) L c) fz _ (HFI.out k) hR k hkl n hn)
        have HYL := Lib.hid (HWK.out k hkl).2
        simp only at e0 e1
        generalize hy : d.wait[k] = y at *
        obtain ⟨y1, y2⟩ := y
        have E0 := Lib.hid e0
        have E1 := Lib.hid e1
        have E2 := Lib.hid e2
        clear hy hG hR hMr HDA HFI HX HWK e0 e1 HMM HEN
        by_cases hm1 : m = 1
        · subst hm1
          have HD := Lib.hid (HD0.out d.pg (Nat.le_refl _))
          have HS := Lib.hid (show over (crashI d mask k) (y1 * d.pg) ((bs y2).data.toList.take d.pg) = crashI d mask (k + 1) by
            rw [HXk.out, list_bs, show tornN d.pg 1 = d.pg from rfl])
          clear HD0 HXk HSM
          go_wp2
          clear c4
          refine wp_region_is_tail 13 [26, 27, 28, 29, 30, 31, 32, 33, 34, 35, 36, 37, 38] (fun w' => Below wr.heap.size wr w')
            [.pointer (some ⟨p, 0, none⟩), .pointer (some ⟨p, 0, none⟩), .pointer (some ⟨p, 0, none⟩), .pointer (some ⟨p, 4, none⟩), .slice (some ⟨g, 0, none⟩) L c, .int .i64 (k : Int), .pointer (some ⟨g, k * 2, none⟩), .agg #[.int .i64 (y1 : Int), .string (bs y2)], .pointer (some ⟨p, 0, none⟩), .pointer (some ⟨p, 0, none⟩), .pointer (some ⟨p, 0, none⟩), .pointer (some ⟨p, 0, none⟩), .int .i64 (d.pg : Int)] (by kernel_rfl) (by kernel_rfl) (by kernel_rfl) (by decide) rfl (by decide) (by simp) (Below.refl _ _).drew ?each ?done
          case each =>
            simp only [List.take_succ_cons, List.take_zero, Each]
            repeat' (first | exact trivial | refine And.intro ?_ ?_)
            all_goals
              intro ys wx hBx hdeps
              simp only [Deps, Region.binds, List.getD_cons_zero, List.getD_cons_succ, forall_const, and_true] at hdeps
              have hRx := HAr.out.below hBx
              have c0 : wx.cell? ⟨p, 0, none⟩ = some (.int .i64 (d.pg : Int)) := hRx.var.cell (j := 0) rfl
              have c4 : wx.cell? ⟨p, 4, none⟩ = some (.slice (some ⟨g, 0, none⟩) L c) := hRx.var.cell (j := 4) rfl
              have e0 : wx.cell? ⟨g, k * 2, none⟩ = some (.int .i64 (y1 : Int)) := (Grows.of_below (S := fun _ => False) hBx).cell E0.out (fun x => x)
              have e1 : wx.cell? ⟨g, k * 2 + 1, none⟩ = some (.string (bs y2)) := (Grows.of_below (S := fun _ => False) hBx).cell E1.out (fun x => x)
              clear hRx
              simp only [hdeps, fill, List.foldl_cons, List.foldl_nil, Act.put, List.setIfInBounds_toArray, List.set_cons_succ, List.set_cons_zero]
              first
                | (go_wp2_with fail; exact ⟨_, rfl, rfl, hBx, Below.refl _ _⟩)
          case done =>
            intro ys wx hBx hV
            have h26 : ys 26 = .pointer (some ⟨p, 0, none⟩) := hV 0 (by decide)
            have h33 : ys 33 = .agg #[.int .i64 (y1 : Int), .string (bs y2)] := hV 7 (by decide)
            have h38 : ys 38 = .int .i64 (d.pg : Int) := hV 12 (by decide)
            have HAx := Lib.hid (HAr.out.below hBx)
            have HBx := Lib.hid hBx
            simp only [h26, h33, h38, fill, List.drop_succ_cons, List.drop_zero, List.foldl_cons, List.foldl_nil, Act.put, List.setIfInBounds_toArray, List.set_cons_succ, List.set_cons_zero]
            go_wp2_with (go_at_call 59; (with_reducible refine (HD.out wx HAx.out).mono ?_); rintro e w5 ⟨rfl, hR5, hG5⟩; have HR5 := Lib.hid hR5; have HG5 := Lib.hid hG5; clear hR5 hG5)
            have hGG := HGr.out.trans ((Grows.of_below HBx.out).trans HG5.out (fun _ h => .inl h)) (fun _ h => .inl h)
            refine ⟨⟨k + 1, by go_num, by omega, by omega, hGG, ?_, HM0.out.grows hGG (fun j hj => .inr (.inl hj))⟩, by simp [intOf]; omega⟩
            have hK := HR5.out
            rw [HS.out] at hK
            exact hK
        · have q1 : ((m : Int) == 1) = false := by simp; omega
          by_cases hm2 : 1 < m
          · have q2 : decide (1 < m) = true := by simp; omega
            obtain ⟨t, ht⟩ : ∃ t : Nat, (t : Int) = (m - 2) % ((d.pg : Int) - 1) := ⟨((m - 2) % ((d.pg : Int) - 1)).toNat, by
              have := Int.emod_nonneg (m - 2) (show (d.pg : Int) - 1 ≠ 0 by omega)
              omega⟩
            have ht2 : 1 + t ≤ d.pg := by
              have := Int.emod_lt_of_pos (m - 2) (show (0 : Int) < (d.pg : Int) - 1 by omega)
              omega
            have htm : (m - 2).tmod ((d.pg : Int) - 1) = (t : Int) := by rw [ht]; exact Int.tmod_eq_emod_of_nonneg (by omega)
            have hz : ((d.pg : Int) - 1 == 0) = false := by simp; omega
            have HTN := Lib.hid (show tornN d.pg m = 1 + t by
              unfold tornN
              rw [if_neg (by omega), if_neg hm1, ← ht]; rfl)
            have HD := Lib.hid (HD0.out (1 + t) ht2)
            rw [show (((1 + t : Nat) : Int)) = 1 + (t : Int) by omega] at HD
            have HS := Lib.hid (show over (crashI d mask k) (y1 * d.pg) ((bs y2).data.toList.take (1 + t)) = crashI d mask (k + 1) by
              rw [HXk.out, list_bs, HTN.out])
            clear HD0 HXk HSM ht HTN
            have E2' := E2.out
            go_wp2
            clear c4 E2'
            refine wp_region_is_tail 21 [46, 47, 48, 49, 50, 51, 52, 53, 54, 55, 56, 57, 58, 59, 60, 61, 62, 63, 64, 65, 66] (fun w' => Below wr.heap.size wr w')
              [.pointer (some ⟨p, 0, none⟩), .pointer (some ⟨p, 0, none⟩), .pointer (some ⟨p, 0, none⟩), .pointer (some ⟨p, 4, none⟩), .slice (some ⟨g, 0, none⟩) L c, .int .i64 (k : Int), .pointer (some ⟨g, k * 2, none⟩), .agg #[.int .i64 (y1 : Int), .string (bs y2)], .slice (some ⟨mb, off, none⟩) mask.length mc, .int .i64 (k : Int), .pointer (some ⟨mb, off + k, none⟩), .int .i64 m, .int .i64 (m - 2), .pointer (some ⟨p, 0, none⟩), .pointer (some ⟨p, 0, none⟩), .pointer (some ⟨p, 0, none⟩), .pointer (some ⟨p, 0, none⟩), .int .i64 (d.pg : Int), .int .i64 ((d.pg : Int) - 1), .int .i64 (t : Int), .int .i64 (1 + (t : Int))] (by kernel_rfl) (by kernel_rfl) (by kernel_rfl) (by decide) rfl (by decide) (by simp) (Below.refl _ _).drew ?each ?done
            case each =>
              simp only [List.take_succ_cons, List.take_zero, Each]
              repeat' (first | exact trivial | refine And.intro ?_ ?_)
              all_goals
                intro ys wx hBx hdeps
                simp only [Deps, Region.binds, List.getD_cons_zero, List.getD_cons_succ, forall_const, and_true] at hdeps
                have hRx := HAr.out.below hBx
                have c0 : wx.cell? ⟨p, 0, none⟩ = some (.int .i64 (d.pg : Int)) := hRx.var.cell (j := 0) rfl
                have c4 : wx.cell? ⟨p, 4, none⟩ = some (.slice (some ⟨g, 0, none⟩) L c) := hRx.var.cell (j := 4) rfl
                have e0 : wx.cell? ⟨g, k * 2, none⟩ = some (.int .i64 (y1 : Int)) := (Grows.of_below (S := fun _ => False) hBx).cell E0.out (fun x => x)
                have e1 : wx.cell? ⟨g, k * 2 + 1, none⟩ = some (.string (bs y2)) := (Grows.of_below (S := fun _ => False) hBx).cell E1.out (fun x => x)
                have e2 : wx.cell? ⟨mb, off + k, none⟩ = some (.int .i64 m) := (Grows.of_below (S := fun _ => False) hBx).cell E2.out (fun x => x)
                clear hRx
                simp only [hdeps, fill, List.foldl_cons, List.foldl_nil, Act.put, List.setIfInBounds_toArray, List.set_cons_succ, List.set_cons_zero]
                first
                  | (go_wp2_with fail; exact ⟨_, rfl, rfl, hBx, Below.refl _ _⟩)
            case done =>
              intro ys wx hBx hV
              have h46 : ys 46 = .pointer (some ⟨p, 0, none⟩) := hV 0 (by decide)
              have h53 : ys 53 = .agg #[.int .i64 (y1 : Int), .string (bs y2)] := hV 7 (by decide)
              have h66 : ys 66 = .int .i64 (1 + (t : Int)) := hV 20 (by decide)
              have HAx := Lib.hid (HAr.out.below hBx)
              have HBx := Lib.hid hBx
              simp only [h46, h53, h66, fill, List.drop_succ_cons, List.drop_zero, List.foldl_cons, List.foldl_nil, Act.put, List.setIfInBounds_toArray, List.set_cons_succ, List.set_cons_zero]
              go_wp2_with (go_at_call 59; (with_reducible refine (HD.out wx HAx.out).mono ?_); rintro e w5 ⟨rfl, hR5, hG5⟩; have HR5 := Lib.hid hR5; have HG5 := Lib.hid hG5; clear hR5 hG5)
              have hGG := HGr.out.trans ((Grows.of_below HBx.out).trans HG5.out (fun _ h => .inl h)) (fun _ h => .inl h)
              refine ⟨⟨k + 1, by go_num, by omega, by omega, hGG, ?_, HM0.out.grows hGG (fun j hj => .inr (.inl hj))⟩, by simp [intOf]; omega⟩
              have hK := HR5.out
              rw [HS.out] at hK
              exact hK
          · have q2 : decide (1 < m) = false := by simp; omega
            have HTN := Lib.hid (HSM.out (show tornN d.pg m = 0 by unfold tornN; rw [if_pos (by omega)]))
            have E2' := E2.out
            clear HD0 HXk HSM
            go_wp2
            refine ⟨⟨k + 1, by go_num, by omega, by omega, HGr.out, ?_, HM0.out.grows HGr.out (fun j hj => .inr (.inl hj))⟩, by simp [intOf]; omega⟩
            rw [HTN.out]; exact HAr.out
      · have d5 : decide ((k : Int) < (mask.length : Int)) = false := by simp; omega
        have d6 : decide (k < mask.length) = false := by simp; omega
        have HT := Lib.hid (show crashI d mask k = crashI d mask L by rw [HEN.out k (by omega) hk])
        have hC0 := hR.crash
        have f4 := hR.var.frozen 4
        have f5 := hR.var.frozen 5
        have f7 := hR.var.frozen 7
        have c5 := hR.var.cell (j := 5) rfl
        have c7 := hR.var.cell (j := 7) rfl
        rw [HT.out] at hC0
        have HC := Lib.hid hC0
        clear hG hR hMr HDA HFI HX HWK HMM HEN hC0
        go_wp2
        refine bodyPost_end (results_none rfl _ _ _) rfl ?_
        rw [HE.out]
        exact ⟨rfl, _, ⟨_, _, _, _, HC.out.1, rfl⟩, After.trans (After.of_grows HGr.out (fun j hj => .inr (.inl hj))) HC.out.2⟩
    · have d3 : decide ((k : Int) < (L : Int)) = false := by simp; omega
      have d4 : decide (k < L) = false := by simp; omega
      have HT := Lib.hid (show crashI d mask k = crashI d mask L by rw [show k = L by omega])
      have hC0 := hR.crash
      have f4 := hR.var.frozen 4
      have f5 := hR.var.frozen 5
      have f7 := hR.var.frozen 7
      have c5 := hR.var.cell (j := 5) rfl
      have c7 := hR.var.cell (j := 7) rfl
      rw [HT.out] at hC0
      have HC := Lib.hid hC0
      clear hG hR hMr HDA HFI HX HWK HMM HEN hC0
      go_wp2
      refine bodyPost_end (results_none rfl _ _ _) rfl ?_
      rw [HE.out]
      exact ⟨rfl, _, ⟨_, _, _, _, HC.out.1, rfl⟩, After.trans (After.of_grows HGr.out (fun j hj => .inr (.inl hj))) HC.out.2⟩
end Go.Proofs.Ytgcbdekdjdlfaaa.Flash
