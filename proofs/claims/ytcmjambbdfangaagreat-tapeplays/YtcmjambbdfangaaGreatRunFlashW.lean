/-
  Joined texts: FlashW, FlashY, FlashZ.
-/
import Derived.Test.YtcmjambbdfangaaGreatRunFlashA
import Derived.Test.YtcmjambbdfangaaGreatRunRegion
/-
  What the document's own device answers to Rot and Flush.
-/
set_option linter.unusedVariables false
set_option linter.unusedSimpArgs false
namespace Go.Proofs.YtcmjambbdfangaaGreat.Flash
open Go.RowKit
open Go.Proofs.YtcmjambbdfangaaGreat.Own
open Tup Bytes Foot
open Go.Proofs.YtcmjambbdfangaaGreat.Region (fill Then Deps Each wp_region_is wp_region_is_tail)

theorem modify_set (l : List UInt8) (i : Nat) (f : UInt8 → UInt8) : l.modify i f = l.set i (f (l.getD i 0)) := by
  apply List.ext_getElem
  · simp
  · intro j h1 h2
    simp only [List.getElem_modify, List.getElem_set]
    split
    · rename_i h
      subst h
      rw [List.getD_eq_getElem?_getD, List.getElem?_eq_getElem (by simpa using h1)]; rfl
    · rfl
theorem rot_cases (d : Dev) (k : Int) : (decide (k < 0) = true ∧ ¬ (0 ≤ k ∧ k < (d.pg : Int))) ∨ (decide (k < 0) = false ∧ decide ((d.pg : Int) ≤ k) = true ∧ ¬ (0 ≤ k ∧ k < (d.pg : Int))) ∨ (decide (k < 0) = false ∧ decide ((d.pg : Int) ≤ k) = false ∧ 0 ≤ k ∧ k < (d.pg : Int)) := by
  by_cases h1 : k < 0 <;> by_cases h2 : (d.pg : Int) ≤ k
  · left; simp [h1] <;> omega
  · left; simp [h1] <;> omega
  · right; left; simp [h1, h2] <;> omega
  · right; right; simp [h1, h2] <;> omega
theorem flush_take {d : Dev} {k : Nat} (h : k < d.wait.length) (im : List UInt8) :
    (d.wait.take (k + 1)).foldl (fun im x => over im (x.1 * d.pg) x.2) im = over ((d.wait.take k).foldl (fun im x => over im (x.1 * d.pg) x.2) im) (d.wait[k].1 * d.pg) d.wait[k].2 := by
  rw [List.take_succ_eq_append_getElem h, List.foldl_append]; rfl
theorem flush_part {d : Dev} (h : d.Ok) (k : Nat) : ((d.wait.take k).foldl (fun im x => over im (x.1 * d.pg) x.2) d.img).length = d.img.length :=
  foldl_over_length d.pg _ d.img fun x hx => by have := h.wait x (List.mem_of_mem_take hx); rw [this.2]; exact h.page this.1
/-- nothing is pending any more -/
theorem RAt.clear {w : World} {p : Nat} {d : Dev} {bB cap : Nat} {wv : Value} {fz : Nat} (h : RAt w p d bB cap wv fz) :
    RAt (w.setCell ⟨p, 4, none⟩ (.slice none 0 0)) p { d with wait := [] } bB cap (.slice none 0 0) fz ∧ After (foot p bB wv) w (w.setCell ⟨p, 4, none⟩ (.slice none 0 0)) (foot p bB (.slice none 0 0)) := by
  have g : Grows (· = p) w (w.setCell ⟨p, 4, none⟩ (.slice none 0 0)) := Grows.set _ _ _ rfl
  refine ⟨⟨h.var.set 4 _, h.row.grows g h.ne1, Nat.lt_of_lt_of_le h.lt g.size, ⟨rfl, .inl ⟨rfl, rfl⟩⟩, h.fuz, h.fuz0, h.capl, h.ne1, by simp [Value.ownBlock], by simp [Value.ownBlock]⟩, g.mono (fun _ h => .inl h), ?_⟩
  rintro k (rfl | rfl | hk)
  · exact .inl (.inl rfl)
  · exact .inl (.inr (.inl rfl))
  · simp [Value.ownBlock] at hk
set_option maxRecDepth 100000 in
set_option maxHeartbeats 4000000 in
theorem refFlush_any {w : World} {p : Nat} {d : Dev} {bB cap : Nat} {wv : Value} {fz : Nat} (h : RAt w p d bB cap wv fz) (hd : d.Ok) :
    Calls Tryz.prog 11 #[ptr p] w fun e w' => e = .returned (.int .i64 ((flushD d).1 : Int)) ∧ ∃ S, RHas w' p (flushD d).2 S ∧ After (foot p bB wv) w w' S := by
  have c7 := h.var.cell (j := 7) rfl
  have HA := Lib.hid h
  have HR := Lib.hid (refBlows_any h)
  unfold ptr at HR ⊢
  rcases hdn : d.down with _ | _
  · rw [hdn] at c7
    rcases hbb : d.blow.1 with _ | _
    · obtain ⟨a, c, rfl⟩ := h.slice
      have HE := Lib.hid (show flushD d = (0, { d.blow.2 with img := d.wait.foldl (fun im x => over im (x.1 * d.pg) x.2) d.img, wait := [] }) by unfold flushD; rw [hdn, hbb]; rfl)
      have hlk := blow_like d
      have HO := Lib.hid (hd.like hlk)
      have hn := hd.wait_le
      generalize hd1 : d.blow.2 = d1 at *
      have HFI := Lib.hid (fun k => flush_part HO.out k)
      have HX := Lib.hid (fun k (hk : k < d1.wait.length) => flush_take (d := d1) hk d1.img)
      have HWK := Lib.hid (fun k (hk : k < d1.wait.length) => HO.out.wait d1.wait[k] (List.getElem_mem hk))
      have HDA := Lib.hid (fun (wx : World) bB cap wv fz (im : List UInt8) (him : im.length = d1.img.length) (hR : RAt wx p { d1 with img := im } bB cap wv fz) k (hk : k < d1.wait.length) =>
        refDone_any hR (HO.out.image him) d1.wait[k].1 (HWK.out k hk).1 (bs d1.wait[k].2) (by rw [bs_size]; exact (HWK.out k hk).2) d1.pg (Nat.le_refl _))
      unfold ptr at HDA
      have HL := Lib.hid (show d1.wait.length = d.wait.length by rw [hlk.wait])
      have HLK := Lib.hid hlk
      rw [hbb] at HR
      clear h hd hdn hbb hd1 hlk
      generalize hL : d.wait.length = L at *
      clear hL
      go_enter Tryz.func11, Tryz.ntmps11
      go_wp2_with (go_at_call 34; (with_reducible refine HR.out.mono ?_); rintro e w1 ⟨rfl, hg1, fy, hR1⟩; have HG1 := Lib.hid hg1; have HR1 := Lib.hid hR1; clear hg1 hR1)
      go_loopw [3] (fun i wr => ∃ k : Nat, i = .int .i64 (k : Int) ∧ k ≤ L ∧ Grows (· = bB) w1 wr ∧ RAt wr p { d1 with img := (d1.wait.take k).foldl (fun im x => over im (x.1 * d1.pg) x.2) d1.img } bB cap (.slice a L c) fy) (fun i _ => L - (intOf i).toNat)
      case atStart => exact ⟨0, rfl, Nat.zero_le _, .refl _ _, HR1.out⟩
      case round =>
        obtain ⟨k, rfl, hk, hG, hR⟩ := hrel
        have HGr := Lib.hid hG
        have HAr := Lib.hid hR
        have c4 := hR.var.cell (j := 4) rfl
        by_cases hlt : k < L
        · have hkl : k < d1.wait.length := by rw [HL.out]; exact hlt
          obtain ⟨g, ha, e0, e1⟩ := hR.pend hkl
          subst ha
          have HD := Lib.hid (fun wx hR => HDA.out wx bB cap (.slice (some ⟨g, 0, none⟩) L c) fy _ (HFI.out k) hR k hkl)
          have HS := Lib.hid (show over ((d1.wait.take k).foldl (fun im x => over im (x.1 * d1.pg) x.2) d1.img) (d1.wait[k].1 * d1.pg) ((bs d1.wait[k].2).data.toList.take d1.pg) = (d1.wait.take (k + 1)).foldl (fun im x => over im (x.1 * d1.pg) x.2) d1.img by
            have e : d1.wait[k].2.take d1.pg = d1.wait[k].2 := List.take_of_length_le (by rw [(HWK.out k hkl).2]; exact Nat.le_refl _)
            rw [HX.out k hkl, list_bs, e])
          have d3 : decide ((k : Int) < (L : Int)) = true := by simp; omega
          have d4 : decide (k < L) = true := by simp; omega
          simp only at e0 e1
          generalize hy : d1.wait[k] = y at *
          obtain ⟨y1, y2⟩ := y
          have E0 := Lib.hid e0
          have E1 := Lib.hid e1
          clear hy hG hR HDA HFI HX HWK e0 e1
          go_wp2
          clear c4
          refine wp_region_is_tail 13 [21, 22, 23, 24, 25, 26, 27, 28, 29, 30, 31, 32, 33] (fun w' => Below wr.heap.size wr w')
            [.pointer (some ⟨p, 0, none⟩), .pointer (some ⟨p, 0, none⟩), .pointer (some ⟨p, 0, none⟩), .pointer (some ⟨p, 4, none⟩), .slice (some ⟨g, 0, none⟩) L c, .int .i64 (k : Int), .pointer (some ⟨g, k * 2, none⟩), .agg #[.int .i64 (y1 : Int), .string (bs y2)], .pointer (some ⟨p, 0, none⟩), .pointer (some ⟨p, 0, none⟩), .pointer (some ⟨p, 0, none⟩), .pointer (some ⟨p, 0, none⟩), .int .i64 (d1.pg : Int)] (by kernel_rfl) (by kernel_rfl) (by kernel_rfl) (by decide) rfl (by decide) (by simp) (Below.refl _ _).drew ?each ?done
          case each =>
            simp only [List.take_succ_cons, List.take_zero, Each]
            repeat' (first | exact trivial | refine And.intro ?_ ?_)
            all_goals
              intro ys wx hBx hdeps
              simp only [Deps, Region.binds, List.getD_cons_zero, List.getD_cons_succ, forall_const, and_true] at hdeps
              have hRx := HAr.out.below hBx
              have c0 : wx.cell? ⟨p, 0, none⟩ = some (.int .i64 (d1.pg : Int)) := hRx.var.cell (j := 0) rfl
              have c4 : wx.cell? ⟨p, 4, none⟩ = some (.slice (some ⟨g, 0, none⟩) L c) := hRx.var.cell (j := 4) rfl
              have e0 : wx.cell? ⟨g, k * 2, none⟩ = some (.int .i64 (y1 : Int)) := (Grows.of_below (S := fun _ => False) hBx).cell E0.out (fun x => x)
              have e1 : wx.cell? ⟨g, k * 2 + 1, none⟩ = some (.string (bs y2)) := (Grows.of_below (S := fun _ => False) hBx).cell E1.out (fun x => x)
              clear hRx
              simp only [hdeps, fill, List.foldl_cons, List.foldl_nil, Act.put, List.setIfInBounds_toArray, List.set_cons_succ, List.set_cons_zero]
              first
                | (go_wp2_with fail; exact ⟨_, rfl, rfl, hBx, Below.refl _ _⟩)
          case done =>
            intro ys wx hBx hV
            have h21 : ys 21 = .pointer (some ⟨p, 0, none⟩) := hV 0 (by decide)
            have h28 : ys 28 = .agg #[.int .i64 (y1 : Int), .string (bs y2)] := hV 7 (by decide)
            have h33 : ys 33 = .int .i64 (d1.pg : Int) := hV 12 (by decide)
            have HAx := Lib.hid (HAr.out.below hBx)
            have HBx := Lib.hid hBx
            simp only [h21, h28, h33, fill, List.drop_succ_cons, List.drop_zero, List.foldl_cons, List.foldl_nil, Act.put, List.setIfInBounds_toArray, List.set_cons_succ, List.set_cons_zero]
            go_wp2_with (go_at_call 35; (with_reducible refine (HD.out wx HAx.out).mono ?_); rintro e w5 ⟨rfl, hR5, hG5⟩; have HR5 := Lib.hid hR5; have HG5 := Lib.hid hG5; clear hR5 hG5)
            refine ⟨⟨k + 1, by go_num, by omega, HGr.out.trans ((Grows.of_below HBx.out).trans HG5.out (fun _ h => .inl h)) (fun _ h => .inl h), ?_⟩, by simp [intOf]; omega⟩
            have hK := HR5.out
            rw [HS.out] at hK
            exact hK
        · obtain rfl : k = L := by omega
          have d3 : decide ((k : Int) < (k : Int)) = false := by simp
          have f4 := hR.var.frozen 4
          have HC := Lib.hid hR.clear
          have HT := Lib.hid (show (d1.wait.take k).foldl (fun im x => over im (x.1 * d1.pg) x.2) d1.img = d.wait.foldl (fun im x => over im (x.1 * d.pg) x.2) d.img by
            rw [List.take_of_length_le (by rw [HL.out]; exact Nat.le_refl _), HLK.out.wait, HLK.out.pg, HLK.out.img])
          clear hG hR HDA HFI HX HWK
          go_wp2
          go_ret
          rw [HE.out]
          have hC := HC.out
          rw [HT.out] at hC
          refine ⟨rfl, _, ⟨_, _, _, _, hC.1, rfl⟩, ?_⟩
          refine After.trans ?_ hC.2
          exact After.trans (After.of_grows HG1.out (fun j hj => .inl hj)) (After.of_grows HGr.out (fun j hj => .inr (.inl hj)))
    · have HE := Lib.hid (show flushD d = (6, d.blow.2) by unfold flushD; rw [hdn, hbb]; rfl)
      rw [hbb] at HR
      clear h hdn hbb
      go_enter Tryz.func11, Tryz.ntmps11
      go_wp2_with (go_at_call 34; (with_reducible refine HR.out.mono ?_); rintro e w1 ⟨rfl, hg1, fy, hR1⟩)
      go_ret
      rw [HE.out]
      exact ⟨rfl, _, ⟨_, _, _, _, hR1, rfl⟩, After.of_grows hg1 (fun j hj => .inl hj)⟩
  · rw [hdn] at c7
    have HE := Lib.hid (show flushD d = (6, d) by unfold flushD; rw [hdn]; rfl)
    clear h hdn
    go_enter Tryz.func11, Tryz.ntmps11
    go_wp2
    go_ret
    rw [HE.out]
    exact ⟨rfl, _, ⟨_, _, _, _, HA.out, rfl⟩, After.refl _ _⟩
end Go.Proofs.YtcmjambbdfangaaGreat.Flash
/-
  What the document's own device does at a crash.
-/
set_option linter.unusedVariables false
set_option linter.unusedSimpArgs false
namespace Go.Proofs.YtcmjambbdfangaaGreat.Flash
open Go.RowKit
open Go.Proofs.YtcmjambbdfangaaGreat.Own
open Tup Bytes Foot
open Go.Proofs.YtcmjambbdfangaaGreat.Region (fill Then Deps Each wp_region_is wp_region_is_tail)

/-- a row of numbers, at a place that S has not -/
def MaskAt (w : World) (ma : Option Addr) (mask : List Int) (S : Nat → Prop) : Prop := mask = [] ∨ ∃ b off, ma = some ⟨b, off, none⟩ ∧ Lies w b off (mask.map (.int .i64 ·)) ∧ ¬ S b
theorem MaskAt.grows {S T : Nat → Prop} {w w' : World} {ma : Option Addr} {mask : List Int} (h : MaskAt w ma mask S) (g : Grows T w w') (hs : ∀ k, T k → S k) : MaskAt w' ma mask S := by
  rcases h with h | ⟨b, off, ha, hl, hn⟩
  · exact .inl h
  · exact .inr ⟨b, off, ha, fun j c hj => g.cell (p := ⟨b, off + j, none⟩) (hl j c hj) (fun x => hn (hs b x)), hn⟩
theorem MaskAt.get {S : Nat → Prop} {w : World} {ma : Option Addr} {mask : List Int} (h : MaskAt w ma mask S) {k : Nat} (hk : k < mask.length) : ∃ b off, ma = some ⟨b, off, none⟩ ∧ w.cell? ⟨b, off + k, none⟩ = some (.int .i64 mask[k]) := by
  rcases h with h | ⟨b, off, ha, hl, hn⟩
  · subst h; simp at hk
  · exact ⟨b, off, ha, hl k _ (by simp [hk])⟩
/-- a crash's first pages -/
def crashI (d : Dev) (mask : List Int) (k : Nat) : List UInt8 := (d.wait.zipIdx.take k).foldl (fun im x => over im (x.1.1 * d.pg) (x.1.2.take (tornN d.pg (mask.getD x.2 0)))) d.img
theorem crashI_succ {d : Dev} {mask : List Int} {k : Nat} (hk : k < d.wait.length) : crashI d mask (k + 1) = over (crashI d mask k) (d.wait[k].1 * d.pg) (d.wait[k].2.take (tornN d.pg (mask.getD k 0))) := by
  unfold crashI
  rw [List.take_succ_eq_append_getElem (by simpa using hk), List.foldl_append]
  simp
theorem crashI_len {d : Dev} (h : d.Ok) (mask : List Int) (k : Nat) : (crashI d mask k).length = d.img.length :=
  crash_len d.pg (by have := h.p0; omega) mask _ d.img (fun x hx => by
    have hx := List.mem_of_mem_take hx
    have hm : x.1 ∈ d.wait := by
      obtain ⟨y, i⟩ := x
      exact (List.mem_zipIdx hx).2.2 ▸ List.getElem_mem _
    have := h.wait x.1 hm
    exact ⟨h.page this.1, this.2⟩)
theorem torn0 (pg : Nat) : tornN pg 0 = 0 := rfl
theorem crashI_same {d : Dev} {mask : List Int} {k : Nat} (hk : k < d.wait.length) (hm : tornN d.pg (mask.getD k 0) = 0) : crashI d mask (k + 1) = crashI d mask k := by
  rw [crashI_succ hk, hm, List.take_zero, over_nil]
theorem crashI_end {d : Dev} {mask : List Int} : ∀ (j k : Nat), mask.length ≤ k → k + j = d.wait.length → crashI d mask d.wait.length = crashI d mask k
  | 0, k, _, h => by rw [← h]; rfl
  | j + 1, k, hk, h => by
    rw [crashI_end j (k + 1) (by omega) (by omega)]
    exact crashI_same (by omega) (by rw [List.getD_eq_getElem?_getD, List.getElem?_eq_none hk]; rfl)
theorem crash_is (d : Dev) (mask : List Int) : crashD d mask = { d with img := crashI d mask d.wait.length, wait := [], down := false, fuse := none } := by
  unfold crashD crashI
  rw [List.take_of_length_le (by simp)]
theorem RAt.crash {w : World} {p : Nat} {d : Dev} {bB cap : Nat} {wv : Value} {fz : Nat} (h : RAt w p d bB cap wv fz) :
    RAt (((w.setCell ⟨p, 4, none⟩ (.slice none 0 0)).setCell ⟨p, 7, none⟩ (.bool false)).setCell ⟨p, 5, none⟩ (.bool false)) p { d with wait := [], down := false, fuse := none } bB cap (.slice none 0 0) fz
    ∧ After (foot p bB wv) w (((w.setCell ⟨p, 4, none⟩ (.slice none 0 0)).setCell ⟨p, 7, none⟩ (.bool false)).setCell ⟨p, 5, none⟩ (.bool false)) (foot p bB (.slice none 0 0)) := by
  obtain ⟨h1, a1⟩ := h.clear
  have g2 : Grows (· = p) (w.setCell ⟨p, 4, none⟩ (.slice none 0 0)) ((w.setCell ⟨p, 4, none⟩ (.slice none 0 0)).setCell ⟨p, 7, none⟩ (.bool false)) := Grows.set _ _ _ rfl
  have g3 : Grows (· = p) (w.setCell ⟨p, 4, none⟩ (.slice none 0 0)) (((w.setCell ⟨p, 4, none⟩ (.slice none 0 0)).setCell ⟨p, 7, none⟩ (.bool false)).setCell ⟨p, 5, none⟩ (.bool false)) := g2.trans (Grows.set (S := (· = p)) _ _ _ rfl) (fun _ h => .inl h)
  exact ⟨h1.turn g3 ((h1.var.set 7 (.bool false)).set 5 (.bool false)) rfl rfl (by simp) h.fuz0, a1.trans (After.of_grows g3 (fun j hj => .inl hj))⟩
end Go.Proofs.YtcmjambbdfangaaGreat.Flash
/-
  What the document's own device does where an erase blows: one page more is pending.
-/
set_option linter.unusedVariables false
set_option linter.unusedSimpArgs false
namespace Go.Proofs.YtcmjambbdfangaaGreat.Flash
open Go.RowKit
open Go.Proofs.YtcmjambbdfangaaGreat.Own
open Tup Bytes Foot
open Go.Proofs.YtcmjambbdfangaaGreat.Region (fill Then Deps2 Each2 Owes upd put wp_region_each3 slots)

def pairs : List (Nat × Nat) := [(2, 1), (3, 2), (4, 3), (7, 6), (8, 7), (9, 8), (10, 9), (11, 10), (12, 5), (12, 11), (13, 12)]
/-- behind some of the operations of 'f.Wait = append(f.Wait, wait{i, Fill(255, n)})' -/
def EJ (wr : World) (p : Nat) (tab : List Value) (cs : List Value) (AP : World → Value → Prop) (d : Nat → Bool) (ys : Nat → Value) (wx : World) : Prop :=
  (∀ i, i < 17 → i ≠ 13 → i ≠ 14 → d i = true → ys (83 + i) = tab.getD i undef) ∧ (∀ x ∈ pairs, d x.1 = true → d x.2 = true)
  ∧ ((d 14 = false ∧ d 17 = false ∧ Below wr.heap.size wr wx ∧ (d 13 = true → ∃ g0, ys 96 = .slice (some ⟨g0, 0, none⟩) 1 1 ∧ Lies wx g0 0 cs))
    ∨ ((∀ i, 1 ≤ i → i < 14 → d i = true) ∧ d 14 = true ∧ ∃ w6, AP w6 (ys 97) ∧ w6.cell? ⟨p, 4, none⟩ ≠ none ∧ w6.frozen? ⟨p, 4, none⟩ = false ∧ ((d 17 = false ∧ wx = w6) ∨ (d 17 = true ∧ wx = w6.setCell ⟨p, 4, none⟩ (ys 97)))))
theorem upd_ne {d : Nat → Bool} {i j : Nat} (h : j ≠ i) : upd d i j = d j := by unfold upd; rw [if_neg h]
theorem upd_eq (d : Nat → Bool) (i : Nat) : upd d i i = true := by unfold upd; rw [if_pos rfl]
theorem put_ne {ys : Nat → Value} {s t : Nat} (v : Value) (h : t ≠ s) : put ys (some s) v t = ys t := by show (if t = s then v else ys t) = ys t; rw [if_neg h]
theorem put_eq (ys : Nat → Value) (s : Nat) (v : Value) : put ys (some s) v s = v := by show (if s = s then v else ys s) = v; rw [if_pos rfl]
theorem no_pair {d : Nat → Bool} {i : Nat} (h : (pairs.all fun x => x.1 != i) = true) : ∀ x ∈ pairs, x.1 = i → d x.2 = true := fun x hx e => absurd e (by simpa using List.all_eq_true.1 h x hx)
theorem closed_upd {d : Nat → Bool} {i : Nat} (h : ∀ x ∈ pairs, d x.1 = true → d x.2 = true) (hi : ∀ x ∈ pairs, x.1 = i → d x.2 = true) : ∀ x ∈ pairs, upd d i x.1 = true → upd d i x.2 = true := by
  intro x hx hd
  by_cases e2 : x.2 = i
  · rw [e2]; exact upd_eq _ _
  · rw [upd_ne e2]
    by_cases e1 : x.1 = i
    · exact hi x hx e1
    · rw [upd_ne e1] at hd; exact h x hx hd
theorem closed_all {d : Nat → Bool} (h : ∀ x ∈ pairs, d x.1 = true → d x.2 = true) (h4 : d 4 = true) (h13 : d 13 = true) : ∀ i, 1 ≤ i → i < 14 → d i = true := by
  have k := fun a b (m : (a, b) ∈ pairs) => h (a, b) m
  have h3 := k 4 3 (by decide) h4
  have h2 := k 3 2 (by decide) h3
  have h1 := k 2 1 (by decide) h2
  have h12 := k 13 12 (by decide) h13
  have h5 := k 12 5 (by decide) h12
  have h11 := k 12 11 (by decide) h12
  have h10 := k 11 10 (by decide) h11
  have h9 := k 10 9 (by decide) h10
  have h8 := k 9 8 (by decide) h9
  have h7 := k 8 7 (by decide) h8
  have h6 := k 7 6 (by decide) h7
  intro i a b
  match i, a, b with
  | 1, _, _ => exact h1
  | 2, _, _ => exact h2
  | 3, _, _ => exact h3
  | 4, _, _ => exact h4
  | 5, _, _ => exact h5
  | 6, _, _ => exact h6
  | 7, _, _ => exact h7
  | 8, _, _ => exact h8
  | 9, _, _ => exact h9
  | 10, _, _ => exact h10
  | 11, _, _ => exact h11
  | 12, _, _ => exact h12
  | 13, _, _ => exact h13
theorem EJ.tabs {wr : World} {p : Nat} {tab cs : List Value} {AP : World → Value → Prop} {d : Nat → Bool} {ys : Nat → Value} {wx : World} (h : EJ wr p tab cs AP d ys wx) {i : Nat} (hi : i < 17) (h13 : i ≠ 13) (h14 : i ≠ 14) {v : Value} (hv : v = tab.getD i undef) :
    ∀ j, j < 17 → j ≠ 13 → j ≠ 14 → upd d i j = true → put ys (some (83 + i)) v (83 + j) = tab.getD j undef := by
  intro j hj a b hd
  by_cases e : j = i
  · subst e; rw [put_eq]; exact hv
  · rw [put_ne v (by omega)]
    rw [upd_ne e] at hd
    exact h.1 j hj a b hd
theorem EJ.early {wr : World} {p : Nat} {tab cs : List Value} {AP : World → Value → Prop} {d : Nat → Bool} {ys : Nat → Value} {wx : World} (h : EJ wr p tab cs AP d ys wx) {i : Nat} (h1 : 1 ≤ i) (hi : i < 14) (hd : d i = false) :
    d 14 = false ∧ d 17 = false ∧ Below wr.heap.size wr wx ∧ (d 13 = true → ∃ g0, ys 96 = .slice (some ⟨g0, 0, none⟩) 1 1 ∧ Lies wx g0 0 cs) := by
  rcases h.2.2 with x | ⟨x, _⟩
  · exact x
  · rw [x i h1 hi] at hd; simp at hd
theorem EJ.front {wr : World} {p : Nat} {tab cs : List Value} {AP : World → Value → Prop} {d : Nat → Bool} {ys : Nat → Value} {wx wy : World} (h : EJ wr p tab cs AP d ys wx) {i : Nat} (h1 : 1 ≤ i) (hi : i < 13) (hd : d i = false) (hc : ∀ x ∈ pairs, x.1 = i → d x.2 = true) {v : Value} (hv : v = tab.getD i undef) (hb : Below wx.heap.size wx wy) :
    EJ wr p tab cs AP (upd d i) (put ys (some (83 + i)) v) wy := by
  refine ⟨h.tabs (by omega) (by omega) (by omega) hv, closed_upd h.2.1 hc, .inl ?_⟩
  obtain ⟨a, b, c, e⟩ := h.early h1 (by omega) hd
  rw [upd_ne (by omega), upd_ne (by omega), upd_ne (by omega), put_ne v (by omega)]
  refine ⟨a, b, c.trans (hb.mono c.size), fun x => ?_⟩
  obtain ⟨g0, y1, y2⟩ := e x
  exact ⟨g0, y1, y2.below hb⟩
theorem EJ.idle {wr : World} {p : Nat} {tab cs : List Value} {AP : World → Value → Prop} {d : Nat → Bool} {ys : Nat → Value} {wx : World} (h : EJ wr p tab cs AP d ys wx) {i : Nat} (hi : i = 0 ∨ i = 15 ∨ i = 16) {v : Value} (hv : v = tab.getD i undef) :
    EJ wr p tab cs AP (upd d i) (put ys (some (83 + i)) v) wx := by
  refine ⟨h.tabs (by omega) (by omega) (by omega) hv, closed_upd h.2.1 (by rcases hi with rfl | rfl | rfl <;> exact no_pair (by decide)), ?_⟩
  rw [upd_ne (by omega), upd_ne (by omega), upd_ne (by omega), put_ne v (by omega), put_ne v (by omega)]
  rcases h.2.2 with x | ⟨x, y⟩
  · exact .inl x
  · exact .inr ⟨fun j h1 hj => by rw [upd_ne (by omega)]; exact x j h1 hj, y⟩
theorem EJ.build {wr : World} {p : Nat} {tab cs : List Value} {AP : World → Value → Prop} {d : Nat → Bool} {ys : Nat → Value} {wx wy : World} (h : EJ wr p tab cs AP d ys wx) (hd : d 13 = false) (h12 : d 12 = true) {g0 : Nat} (hl : Lies wy g0 0 cs) (hb : Below wx.heap.size wx wy) :
    EJ wr p tab cs AP (upd d 13) (put ys (some 96) (.slice (some ⟨g0, 0, none⟩) 1 1)) wy := by
  refine ⟨fun j hj a b hdj => ?_, closed_upd h.2.1 (by intro x hx e; simp only [pairs, List.mem_cons, List.not_mem_nil, or_false] at hx; rcases hx with rfl | rfl | rfl | rfl | rfl | rfl | rfl | rfl | rfl | rfl | rfl <;> first | exact h12 | (simp at e)), .inl ?_⟩
  · rw [put_ne _ (by omega)]
    rw [upd_ne a] at hdj
    exact h.1 j hj a b hdj
  · obtain ⟨a, b, c, _⟩ := h.early (by omega) (by omega) hd
    rw [upd_ne (by omega), upd_ne (by omega), put_eq]
    exact ⟨a, b, c.trans (hb.mono c.size), fun _ => ⟨g0, rfl, hl⟩⟩
theorem EJ.append {wr : World} {p : Nat} {tab cs : List Value} {AP : World → Value → Prop} {d : Nat → Bool} {ys : Nat → Value} {wx wy : World} (h : EJ wr p tab cs AP d ys wx) (hall : ∀ i, 1 ≤ i → i < 14 → d i = true) (h17 : d 17 = false) {v : Value} (hA : AP wy v) (hc : wy.cell? ⟨p, 4, none⟩ ≠ none) (hf : wy.frozen? ⟨p, 4, none⟩ = false) :
    EJ wr p tab cs AP (upd d 14) (put ys (some 97) v) wy := by
  refine ⟨fun j hj a b hdj => ?_, closed_upd h.2.1 (no_pair (by decide)), .inr ⟨fun i h1 hi => by rw [upd_ne (by omega)]; exact hall i h1 hi, upd_eq _ _, wy, ?_, hc, hf, .inl ⟨?_, rfl⟩⟩⟩
  · rw [put_ne _ (by omega)]
    rw [upd_ne b] at hdj
    exact h.1 j hj a b hdj
  · rw [put_eq]; exact hA
  · rw [upd_ne (by omega)]; exact h17
theorem EJ.store {wr : World} {p : Nat} {tab cs : List Value} {AP : World → Value → Prop} {d : Nat → Bool} {ys : Nat → Value} {wx : World} (h : EJ wr p tab cs AP d ys wx) (h14 : d 14 = true) (h17 : d 17 = false) (v : Value) :
    EJ wr p tab cs AP (upd d 17) (put ys none v) (wx.setCell ⟨p, 4, none⟩ (ys 97)) := by
  refine ⟨fun j hj a b hdj => ?_, closed_upd h.2.1 (no_pair (by decide)), ?_⟩
  · rw [upd_ne (by omega)] at hdj
    exact h.1 j hj a b hdj
  · rcases h.2.2 with ⟨x, _⟩ | ⟨x, y, w6, hA, hc, hf, ⟨_, e⟩ | ⟨e, _⟩⟩
    · rw [h14] at x; simp at x
    · refine .inr ⟨fun i h1 hi => by rw [upd_ne (by omega)]; exact x i h1 hi, by rw [upd_ne (by omega)]; exact y, w6, hA, hc, hf, .inr ⟨upd_eq _ _, ?_⟩⟩
      rw [e]; rfl
    · rw [h17] at e; simp at e
end Go.Proofs.YtcmjambbdfangaaGreat.Flash
