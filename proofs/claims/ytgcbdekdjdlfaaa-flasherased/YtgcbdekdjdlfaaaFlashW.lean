/-
  What the document's own device answers to Rot and Flush.
-/
import Derived.Test.YtgcbdekdjdlfaaaFlashV
set_option linter.unusedVariables false
set_option linter.unusedSimpArgs false
namespace Go.Proofs.Ytgcbdekdjdlfaaa.Flash
open Go.RowKit
open Go.Proofs.Ytgcbdekdjdlfaaa.Own
open Tup Bytes Foot
open Go.Proofs.Ytgcbdekdjdlfaaa.Region (fill Then Deps Each wp_region_is wp_region_is_tail)

theorem modify_set (l : List UInt8) (i : Nat) (f : UInt8 → UInt8) : l.modify i f = l.set i (f (l.getD i 0)) := by
  apply List.ext_getElem
  · simp
  · intro j h1 h2
    simp only [List.getElem_modify, List.getElem_set]
    split
    · rename_i h
      subst h
      rw [List.getD_eq_getElem?_getD, List.getElem?_eq_getElem (by simpa using h1)]; rfl
    · rfl
theorem rot_cases (d : Dev) (k : Int) : (decide (k < 0) = true ∧ ¬ (0 ≤ k ∧ k < (d.pg : Int))) ∨ (decide (k < 0) = false ∧ decide ((d.pg : Int) ≤ k) = true ∧ ¬ (0 ≤ k ∧ k < (d.pg : Int))) ∨ (decide (k < 0) = false ∧ decide ((d.pg : Int) ≤ k) = false ∧ 0 ≤ k ∧ k < (d.pg : Int)) := by
  by_cases h1 : k < 0 <;> by_cases h2 : (d.pg : Int) ≤ k
  · left; simp [h1] <;> omega
  · left; simp [h1] <;> omega
  · right; left; simp [h1, h2] <;> omega
  · right; right; simp [h1, h2] <;> omega
set_option maxRecDepth 100000 in
set_option maxHeartbeats 4000000 in
theorem refRot_any {w : World} {p : Nat} {d : Dev} {bB cap : Nat} {wv : Value} {fz : Nat} (h : RAt w p d bB cap wv fz) (hd : d.Ok) (q k : Int) (x : UInt8) :
    Calls Try.prog 41 #[ptr p, .int .i64 q, .int .i64 k, .int .u8 (x.toNat : Int)] w fun e w' => e = .returned (.int .i64 ((rotD d q k x).1 : Int)) ∧ RHas w' p (rotD d q k x).2 (foot p bB wv) ∧ Grows (· = bB) w w' := by
  have c0 := h.var.cell (j := 0) rfl
  have HA := Lib.hid h
  have HP0 := Lib.hid (fun w' (hb : Below w.heap.size w w') => refPages_any (h.below hb) hd)
  unfold ptr at HP0 ⊢
  rcases has_cases d q with ⟨h1, h2⟩ | ⟨h1, h2, h3⟩ | ⟨h1, h2, h3⟩
  · have HE := Lib.hid (show rotD d q k x = (1, d) by unfold rotD; rw [if_pos (.inl h2)])
    clear h h2
    go_enter Try.func41, Try.ntmps41
    go_wp2
    go_ret
    rw [HE.out]
    exact ⟨rfl, ⟨_, _, _, _, HA.out, rfl⟩, .refl _ _⟩
  · have HE := Lib.hid (show rotD d q k x = (1, d) by unfold rotD; rw [if_pos (.inl h3)])
    clear h h3
    go_enter Try.func41, Try.ntmps41
    go_wp2_with (go_at_call 60; (with_reducible refine (HP0.out _ (Below.refl _ _)).mono ?_); rintro e w3 ⟨rfl, k3, rfl⟩)
    go_ret
    rw [HE.out]
    exact ⟨rfl, ⟨_, _, _, _, HA.out.below (below_drewN _ _), rfl⟩, .of_below (below_drewN _ _)⟩
  · obtain ⟨i1, i2⟩ := has_lt h3
    obtain ⟨q, rfl⟩ : ∃ k : Nat, q = (k : Int) := ⟨q.toNat, by omega⟩
    rw [Int.toNat_natCast] at i1
    have h4 : decide (d.n ≤ q) = false := by simp; omega
    rcases rot_cases d k with ⟨e1, e2⟩ | ⟨e1, e2, e3⟩ | ⟨e1, e2, e3, e4⟩
    · have HE := Lib.hid (show rotD d q k x = (1, d) by unfold rotD; rw [if_pos (.inr e2)])
      clear h h3 i1 i2 e2
      go_enter Try.func41, Try.ntmps41
      go_wp2_with (go_at_call 60; (with_reducible refine (HP0.out _ (Below.refl _ _)).mono ?_); rintro e w3 ⟨rfl, k3, rfl⟩)
      go_ret
      rw [HE.out]
      exact ⟨rfl, ⟨_, _, _, _, HA.out.below (below_drewN _ _), rfl⟩, .of_below (below_drewN _ _)⟩
    · have HE := Lib.hid (show rotD d q k x = (1, d) by unfold rotD; rw [if_pos (.inr e3)])
      clear h h3 i1 i2 e3
      go_enter Try.func41, Try.ntmps41
      go_wp2_with (go_at_call 60; (with_reducible refine (HP0.out _ (Below.refl _ _)).mono ?_); rintro e w3 ⟨rfl, k3, rfl⟩)
      go_ret
      rw [HE.out]
      exact ⟨rfl, ⟨_, _, _, _, HA.out.below (below_drewN _ _), rfl⟩, .of_below (below_drewN _ _)⟩
    · obtain ⟨k, rfl⟩ : ∃ j : Nat, k = (j : Int) := ⟨k.toNat, by omega⟩
      have e5 : decide (d.pg ≤ k) = false := by simp; omega
      have hkp : k < d.pg := by omega
      have HE := Lib.hid (show rotD d q k x = (0, { d with img := d.img.set (q * d.pg + k) (d.img.getD (q * d.pg + k) 0 ^^^ x) }) by rw [rot_ok i1 hkp, modify_set])
      have hpg := hd.page i1
      have him := hd.img_le
      have HPL := Lib.hid (show q * d.pg + k < d.img.length by omega)
      have hp1 := hd.p1
      have m1 : (q : Int) * (d.pg : Int) = ((q * d.pg : Nat) : Int) := by rw [Int.natCast_mul]
      have x1 : 0 ≤ (q : Int) * (d.pg : Int) ∧ (q : Int) * (d.pg : Int) ≤ 100000 := by rw [m1]; omega
      have x2 : 0 ≤ (q : Int) * (d.pg : Int) + (k : Int) ∧ (q : Int) * (d.pg : Int) + (k : Int) ≤ 200000 := by rw [m1]; omega
      have x3 : (q : Int) * (d.pg : Int) + (k : Int) < (d.img.length : Int) := by rw [m1]; omega
      have x4 : ((q : Int) * (d.pg : Int) + (k : Int)).toNat = q * d.pg + k := by rw [m1]; omega
      obtain ⟨y, hy⟩ : ∃ y, y = d.img.getD (q * d.pg + k) 0 := ⟨_, rfl⟩
      rw [← hy] at HE
      have HY := Lib.hid hy
      clear hy
      have hxr := xor_u8 y x
      clear h h3 i1 i2 e3 e4 m1 hd
      go_enter Try.func41, Try.ntmps41
      go_wp2_with (go_at_call 60; (with_reducible refine (HP0.out _ (Below.refl _ _)).mono ?_); rintro e w3 ⟨rfl, k3, rfl⟩)
      have HA1 := Lib.hid (HA.out.below (below_drewN w k3))
      refine wp_region_is_tail 18 [30, 31, 32, 33, 34, 35, 36, 37, 38, 39, 40, 41, 42, 43, 44, 45, 46, 47] (fun w' => Below (w.drewN k3).heap.size (w.drewN k3) w')
        [.pointer (some ⟨p, 0, none⟩), .pointer (some ⟨p, 0, none⟩), .pointer (some ⟨p, 3, none⟩), .slice (some ⟨bB, 0, none⟩) d.img.length cap, .int .i64 (q : Int), .pointer (some ⟨p, 0, none⟩), .pointer (some ⟨p, 0, none⟩), .pointer (some ⟨p, 0, none⟩), .pointer (some ⟨p, 0, none⟩), .int .i64 (d.pg : Int), .int .i64 ((q : Int) * (d.pg : Int)), .int .i64 (k : Int), .int .i64 ((q : Int) * (d.pg : Int) + (k : Int)), .pointer (some ⟨bB, q * d.pg + k, none⟩), .int .u8 (y.toNat : Int), .int .u8 (x.toNat : Int), .int .u8 ((y ^^^ x).toNat : Int), .pointer (some ⟨bB, q * d.pg + k, none⟩)] (by kernel_rfl) (by kernel_rfl) (by kernel_rfl) (by decide) rfl (by decide) (by simp) (Below.refl _ _).drew ?each ?done
      case each =>
        simp only [List.take_succ_cons, List.take_zero, Each]
        repeat' (first | exact trivial | refine And.intro ?_ ?_)
        all_goals
          intro ys wx hBx hdeps
          simp only [Deps, Region.binds, List.getD_cons_zero, List.getD_cons_succ, forall_const, and_true] at hdeps
          have c0 : wx.cell? ⟨p, 0, none⟩ = some (.int .i64 (d.pg : Int)) := (HA1.out.below hBx).var.cell (j := 0) rfl
          have c3 : wx.cell? ⟨p, 3, none⟩ = some (.slice (some ⟨bB, 0, none⟩) d.img.length cap) := (HA1.out.below hBx).var.cell (j := 3) rfl
          have g1 : wx.cell? ⟨bB, q * d.pg + k, none⟩ = some (.int .u8 (y.toNat : Int)) := by have := ((HA1.out.below hBx).row (q * d.pg + k) HPL.out).1; rw [← HY.out] at this; exact this
          simp only [hdeps, fill, List.foldl_cons, List.foldl_nil, Act.put, List.setIfInBounds_toArray, List.set_cons_succ, List.set_cons_zero]
          first
            | (go_wp2_with fail; exact ⟨_, rfl, rfl, hBx, Below.refl _ _⟩)
      case done =>
        intro ys wx hBx hV
        have h46 : ys 46 = .int .u8 ((y ^^^ x).toNat : Int) := hV 16 (by decide)
        have h47 : ys 47 = .pointer (some ⟨bB, q * d.pg + k, none⟩) := hV 17 (by decide)
        have hRx := HA1.out.below hBx
        obtain ⟨g1, g2⟩ := hRx.row (q * d.pg + k) HPL.out
        rw [← HY.out] at g1
        have HP := Lib.hid (hRx.put (q * d.pg + k) (y ^^^ x) HPL.out)
        have HG := Lib.hid ((Grows.of_below (S := (· = bB)) (bel2 (below_drewN w k3) hBx)).trans (Grows.set (S := (· = bB)) wx ⟨bB, q * d.pg + k, none⟩ (.int .u8 ((y ^^^ x).toNat : Int)) rfl) (fun _ h => .inl h))
        clear hRx
        simp only [h46, h47, fill, List.drop_succ_cons, List.drop_zero, List.foldl_cons, List.foldl_nil, Act.put, List.setIfInBounds_toArray, List.set_cons_succ, List.set_cons_zero]
        go_wp2
        go_ret
        rw [HE.out]
        exact ⟨rfl, ⟨_, _, _, _, HP.out, rfl⟩, HG.out⟩
theorem flush_take {d : Dev} {k : Nat} (h : k < d.wait.length) (im : List UInt8) :
    (d.wait.take (k + 1)).foldl (fun im x => over im (x.1 * d.pg) x.2) im = over ((d.wait.take k).foldl (fun im x => over im (x.1 * d.pg) x.2) im) (d.wait[k].1 * d.pg) d.wait[k].2 := by
  rw [List.take_succ_eq_append_getElem h, List.foldl_append]; rfl
theorem flush_part {d : Dev} (h : d.Ok) (k : Nat) : ((d.wait.take k).foldl (fun im x => over im (x.1 * d.pg) x.2) d.img).length = d.img.length :=
  foldl_over_length d.pg _ d.img fun x hx => by have := h.wait x (List.mem_of_mem_take hx); rw [this.2]; exact h.page this.1
/-- nothing is pending any more -/
theorem RAt.clear {w : World} {p : Nat} {d : Dev} {bB cap : Nat} {wv : Value} {fz : Nat} (h : RAt w p d bB cap wv fz) :
    RAt (w.setCell ⟨p, 4, none⟩ (.slice none 0 0)) p { d with wait := [] } bB cap (.slice none 0 0) fz ∧ After (foot p bB wv) w (w.setCell ⟨p, 4, none⟩ (.slice none 0 0)) (foot p bB (.slice none 0 0)) := by
  have g : Grows (· = p) w (w.setCell ⟨p, 4, none⟩ (.slice none 0 0)) := Grows.set _ _ _ rfl
  refine ⟨⟨h.var.set 4 _, h.row.grows g h.ne1, Nat.lt_of_lt_of_le h.lt g.size, ⟨rfl, .inl ⟨rfl, rfl⟩⟩, h.fuz, h.fuz0, h.capl, h.ne1, by simp [Value.ownBlock], by simp [Value.ownBlock]⟩, g.mono (fun _ h => .inl h), ?_⟩
  rintro k (rfl | rfl | hk)
  · exact .inl (.inl rfl)
  · exact .inl (.inr (.inl rfl))
  · simp [Value.ownBlock] at hk
set_option maxRecDepth 100000 in
set_option maxHeartbeats 4000000 in
theorem refFlush_any {w : World} {p : Nat} {d : Dev} {bB cap : Nat} {wv : Value} {fz : Nat} (h : RAt w p d bB cap wv fz) (hd : d.Ok) :
    Calls Try.prog 38 #[ptr p] w fun e w' => e = .returned (.int .i64 ((flushD d).1 : Int)) ∧ ∃ S, RHas w' p (flushD d).2 S ∧ After (foot p bB wv) w w' S := by
  have c7 := h.var.cell (j := 7) rfl
  have HA := Lib.hid h
  have HR := Lib.hid (refBlows_any h)
  unfold ptr at HR ⊢
  rcases hdn : d.down with _ | _
  · rw [hdn] at c7
    rcases hbb : d.blow.1 with _ | _
    · obtain ⟨a, c, rfl⟩ := h.slice
      have HE := Lib.hid (show flushD d = (0, { d.blow.2 with img := d.wait.foldl (fun im x => over im (x.1 * d.pg) x.2) d.img, wait := [] }) by unfold flushD; rw [hdn, hbb]; rfl)
      have hlk := blow_like d
      have HO := Lib.hid (hd.like hlk)
      have hn := hd.wait_le
      generalize hd1 : d.blow.2 = d1 at *
      have HFI := Lib.hid (fun k => flush_part HO.out k)
      have HX := Lib.hid (fun k (hk : k < d1.wait.length) => flush_take (d := d1) hk d1.img)
      have HWK := Lib.hid (fun k (hk : k < d1.wait.length) => HO.out.wait d1.wait[k] (List.getElem_mem hk))
      have HDA := Lib.hid (fun (wx : World) bB cap wv fz (im : List UInt8) (him : im.length = d1.img.length) (hR : RAt wx p { d1 with img := im } bB cap wv fz) k (hk : k < d1.wait.length) =>
        refDone_any hR (HO.out.image him) d1.wait[k].1 (HWK.out k hk).1 (bs d1.wait[k].2) (by rw [bs_size]; exact (HWK.out k hk).2) d1.pg (Nat.le_refl _))
      unfold ptr at HDA
      have HL := Lib.hid (show d1.wait.length = d.wait.length by rw [hlk.wait])
      have HLK := Lib.hid hlk
      rw [hbb] at HR
      clear h hd hdn hbb hd1 hlk
      generalize hL : d.wait.length = L at *
      clear hL
      go_enter Try.func38, Try.ntmps38
      go_wp2_with (go_at_call 58; (with_reducible refine HR.out.mono ?_); rintro e w1 ⟨rfl, hg1, fy, hR1⟩; have HG1 := Lib.hid hg1; have HR1 := Lib.hid hR1; clear hg1 hR1)
      go_loopw [3] (fun i wr => ∃ k : Nat, i = .int .i64 (k : Int) ∧ k ≤ L ∧ Grows (· = bB) w1 wr ∧ RAt wr p { d1 with img := (d1.wait.take k).foldl (fun im x => over im (x.1 * d1.pg) x.2) d1.img } bB cap (.slice a L c) fy) (fun i _ => L - (intOf i).toNat)
      case atStart => exact ⟨0, rfl, Nat.zero_le _, .refl _ _, HR1.out⟩
      case round =>
        obtain ⟨k, rfl, hk, hG, hR⟩ := hrel
        have HGr := Lib.hid hG
        have HAr := Lib.hid hR
        have c4 := hR.var.cell (j := 4) rfl
        by_cases hlt : k < L
        · have hkl : k < d1.wait.length := by rw [HL.out]; exact hlt
          obtain ⟨g, ha, e0, e1⟩ := hR.pend hkl
          subst ha
          have HD := Lib.hid (fun wx hR => HDA.out wx bB cap (.slice (some ⟨g, 0, none⟩) L c) fy _ (HFI.out k) hR k hkl)
          have HS := Lib.hid (show over ((d1.wait.take k).foldl (fun im x => over im (x.1 * d1.pg) x.2) d1.img) (d1.wait[k].1 * d1.pg) ((bs d1.wait[k].2).data.toList.take d1.pg) = (d1.wait.take (k + 1)).foldl (fun im x => over im (x.1 * d1.pg) x.2) d1.img by
            have e : d1.wait[k].2.take d1.pg = d1.wait[k].2 := List.take_of_length_le (by rw [(HWK.out k hkl).2]; exact Nat.le_refl _)
            rw [HX.out k hkl, list_bs, e])
          have d3 : decide ((k : Int) < (L : Int)) = true := by simp; omega
          have d4 : decide (k < L) = true := by simp; omega
          simp only at e0 e1
          generalize hy : d1.wait[k] = y at *
          obtain ⟨y1, y2⟩ := y
          have E0 := Lib.hid e0
          have E1 := Lib.hid e1
          clear hy hG hR HDA HFI HX HWK e0 e1
          go_wp2
          clear c4
          refine wp_region_is_tail 13 [21, 22, 23, 24, 25, 26, 27, 28, 29, 30, 31, 32, 33] (fun w' => Below wr.heap.size wr w')
            [.pointer (some ⟨p, 0, none⟩), .pointer (some ⟨p, 0, none⟩), .pointer (some ⟨p, 0, none⟩), .pointer (some ⟨p, 4, none⟩), .slice (some ⟨g, 0, none⟩) L c, .int .i64 (k : Int), .pointer (some ⟨g, k * 2, none⟩), .agg #[.int .i64 (y1 : Int), .string (bs y2)], .pointer (some ⟨p, 0, none⟩), .pointer (some ⟨p, 0, none⟩), .pointer (some ⟨p, 0, none⟩), .pointer (some ⟨p, 0, none⟩), .int .i64 (d1.pg : Int)] (by kernel_rfl) (by kernel_rfl) (by kernel_rfl) (by decide) rfl (by decide) (by simp) (Below.refl _ _).drew ?each ?done
          case each =>
            simp only [List.take_succ_cons, List.take_zero, Each]
            repeat' (first | exact trivial | refine And.intro ?_ ?_)
            all_goals
              intro ys wx hBx hdeps
              simp only [Deps, Region.binds, List.getD_cons_zero, List.getD_cons_succ, forall_const, and_true] at hdeps
              have hRx := HAr.out.below hBx
              have c0 : wx.cell? ⟨p, 0, none⟩ = some (.int .i64 (d1.pg : Int)) := hRx.var.cell (j := 0) rfl
              have c4 : wx.cell? ⟨p, 4, none⟩ = some (.slice (some ⟨g, 0, none⟩) L c) := hRx.var.cell (j := 4) rfl
              have e0 : wx.cell? ⟨g, k * 2, none⟩ = some (.int .i64 (y1 : Int)) := (Grows.of_below (S := fun _ => False) hBx).cell E0.out (fun x => x)
              have e1 : wx.cell? ⟨g, k * 2 + 1, none⟩ = some (.string (bs y2)) := (Grows.of_below (S := fun _ => False) hBx).cell E1.out (fun x => x)
              clear hRx
              simp only [hdeps, fill, List.foldl_cons, List.foldl_nil, Act.put, List.setIfInBounds_toArray, List.set_cons_succ, List.set_cons_zero]
              first
                | (go_wp2_with fail; exact ⟨_, rfl, rfl, hBx, Below.refl _ _⟩)
          case done =>
            intro ys wx hBx hV
            have h21 : ys 21 = .pointer (some ⟨p, 0, none⟩) := hV 0 (by decide)
            have h28 : ys 28 = .agg #[.int .i64 (y1 : Int), .string (bs y2)] := hV 7 (by decide)
            have h33 : ys 33 = .int .i64 (d1.pg : Int) := hV 12 (by decide)
            have HAx := Lib.hid (HAr.out.below hBx)
            have HBx := Lib.hid hBx
            simp only [h21, h28, h33, fill, List.drop_succ_cons, List.drop_zero, List.foldl_cons, List.foldl_nil, Act.put, List.setIfInBounds_toArray, List.set_cons_succ, List.set_cons_zero]
            go_wp2_with (go_at_call 59; (with_reducible refine (HD.out wx HAx.out).mono ?_); rintro e w5 ⟨rfl, hR5, hG5⟩; have HR5 := Lib.hid hR5; have HG5 := Lib.hid hG5; clear hR5 hG5)
            refine ⟨⟨k + 1, by go_num, by omega, HGr.out.trans ((Grows.of_below HBx.out).trans HG5.out (fun _ h => .inl h)) (fun _ h => .inl h), ?_⟩, by simp [intOf]; omega⟩
            have hK := HR5.out
            rw [HS.out] at hK
            exact hK
        · obtain rfl : k = L := by omega
          have d3 : decide ((k : Int) < (k : Int)) = false := by simp
          have f4 := hR.var.frozen 4
          have HC := Lib.hid hR.clear
          have HT := Lib.hid (show (d1.wait.take k).foldl (fun im x => over im (x.1 * d1.pg) x.2) d1.img = d.wait.foldl (fun im x => over im (x.1 * d.pg) x.2) d.img by
            rw [List.take_of_length_le (by rw [HL.out]; exact Nat.le_refl _), HLK.out.wait, HLK.out.pg, HLK.out.img])
          clear hG hR HDA HFI HX HWK
          go_wp2
          go_ret
          rw [HE.out]
          have hC := HC.out
          rw [HT.out] at hC
          refine ⟨rfl, _, ⟨_, _, _, _, hC.1, rfl⟩, ?_⟩
          refine After.trans ?_ hC.2
          exact After.trans (After.of_grows HG1.out (fun j hj => .inl hj)) (After.of_grows HGr.out (fun j hj => .inr (.inl hj)))
    · have HE := Lib.hid (show flushD d = (6, d.blow.2) by unfold flushD; rw [hdn, hbb]; rfl)
      rw [hbb] at HR
      clear h hdn hbb
      go_enter Try.func38, Try.ntmps38
      go_wp2_with (go_at_call 58; (with_reducible refine HR.out.mono ?_); rintro e w1 ⟨rfl, hg1, fy, hR1⟩)
      go_ret
      rw [HE.out]
      exact ⟨rfl, _, ⟨_, _, _, _, hR1, rfl⟩, After.of_grows hg1 (fun j hj => .inl hj)⟩
  · rw [hdn] at c7
    have HE := Lib.hid (show flushD d = (6, d) by unfold flushD; rw [hdn]; rfl)
    clear h hdn
    go_enter Try.func38, Try.ntmps38
    go_wp2
    go_ret
    rw [HE.out]
    exact ⟨rfl, _, ⟨_, _, _, _, HA.out, rfl⟩, After.refl _ _⟩
end Go.Proofs.Ytgcbdekdjdlfaaa.Flash
