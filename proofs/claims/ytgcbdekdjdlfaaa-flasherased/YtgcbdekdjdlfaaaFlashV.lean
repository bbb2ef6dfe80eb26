/-
  What the document's own device answers to Image, Fuse and Rot; so many of a page's bytes done.
-/
import Derived.Test.YtgcbdekdjdlfaaaFlashU
set_option linter.unusedVariables false
set_option linter.unusedSimpArgs false
namespace Go.Proofs.Ytgcbdekdjdlfaaa.Flash
open Go.RowKit
open Go.Proofs.Ytgcbdekdjdlfaaa.Own
open Tup Bytes Foot
open Go.Proofs.Ytgcbdekdjdlfaaa.Region (fill Then Deps Each wp_region_is wp_region_is_tail)

/-- a byte is written -/
theorem RAt.put {w : World} {p : Nat} {d : Dev} {bB cap : Nat} {wv : Value} {fz : Nat} (h : RAt w p d bB cap wv fz) (j : Nat) (c : UInt8) (hj : j < d.img.length) :
    RAt (w.setCell ⟨bB, j, none⟩ (.int .u8 (c.toNat : Int))) p { d with img := d.img.set j c } bB cap wv fz := by
  have g : Grows (· = bB) w (w.setCell ⟨bB, j, none⟩ (.int .u8 (c.toNat : Int))) := Grows.set _ _ _ rfl
  refine ⟨?_, h.row.set j c hj, Nat.lt_of_lt_of_le h.lt g.size, owns_grows h.wait g (fun k hk e => h.ne3 (by rw [← e]; exact hk)), h.fuz, h.fuz0, by simpa using h.capl, h.ne1, h.ne2, h.ne3⟩
  have := g.var h.var (fun e => h.ne1 e.symm)
  simpa using this
theorem over_snoc {img b : List UInt8} {P k : Nat} (hk : k < b.length) (hP : P + k < img.length) : (over img P (b.take k)).set (P + k) b[k] = over img P (b.take (k + 1)) := by
  unfold over
  have l1 : (img.take P).length = P := by simp; omega
  have l2 : (b.take k).length = k := by simp; omega
  have l3 : (b.take (k + 1)).length = k + 1 := by simp; omega
  rw [l2, l3, List.append_assoc, List.append_assoc, List.set_append_right _ _ (by omega), l1, Nat.add_sub_cancel_left, List.set_append_right _ _ (by omega), l2, Nat.sub_self, List.take_succ_eq_append_getElem hk, List.append_assoc]
  rw [List.drop_eq_getElem_cons (show P + k < img.length by omega), List.set_cons_zero]
  rfl
set_option maxRecDepth 100000 in
theorem refImage_any {w : World} {p : Nat} {d : Dev} {bB cap : Nat} {wv : Value} {fz : Nat} (h : RAt w p d bB cap wv fz) :
    Calls Try.prog 44 #[ptr p] w fun e w' => e = .returned (.string (bs d.img)) ∧ w = w' := by
  have c3 := h.var.cell (j := 3) rfl
  have htx := text8 h.row 0 d.img.length cap (by omega)
  have hc : cut d.img 0 d.img.length = d.img := by simp [cut]
  rw [hc] at htx
  clear h hc
  unfold ptr
  go_enter Try.func44, Try.ntmps44
  go_wp2
  go_ret
  exact ⟨rfl, rfl⟩
set_option maxRecDepth 100000 in
theorem refFuse_any {w : World} {p : Nat} {d : Dev} {bB cap : Nat} {wv : Value} {fz : Nat} (h : RAt w p d bB cap wv fz) (n : Int) (hn : n < 9223372036854775808) :
    Calls Try.prog 40 #[ptr p, .int .i64 n] w fun e w' => e = .returned (.tuple #[]) ∧ RHas w' p (fuseD d n) (foot p bB wv) ∧ Grows (· = p) w w' := by
  have c5 := h.var.cell (j := 5) rfl
  have f5 := h.var.frozen 5
  have HA := Lib.hid h
  obtain ⟨z, hz⟩ : ∃ z : Nat, (z : Int) = max n 0 := ⟨(max n 0).toNat, by omega⟩
  have hmx := fun w ts t => max2 (P := Try.prog) w ts t n 0 (z : Int) hz
  have hd : decide (0 ≤ n) = (fuseD d n).fuse.isSome := by
    unfold fuseD
    by_cases h0 : n < 0
    · simp [h0]
    · simp [h0]; omega
  have HF := Lib.hid (show ∀ k, (fuseD d n).fuse = some k → z = k by
    unfold fuseD
    intro k hk
    by_cases h0 : n < 0
    · simp [h0] at hk
    · simp [h0] at hk; omega)
  have hz0 : z < 9223372036854775808 := by omega
  have c6 := h.var.cell (j := 6) rfl
  have f6 := h.var.frozen 6
  have HV := Lib.hid ((h.var.set 5 (.bool (fuseD d n).fuse.isSome)).set 6 (.int .i64 (z : Int)))
  clear h hz
  unfold ptr
  go_enter Try.func40, Try.ntmps40
  go_wp2
  refine bodyPost_end (results_none rfl _ _ _) rfl ?_
  have g := (Grows.set (S := (· = p)) w ⟨p, 5, none⟩ (.bool (fuseD d n).fuse.isSome) rfl).trans (Grows.set (S := (· = p)) _ ⟨p, 6, none⟩ (.int .i64 (z : Int)) rfl) (fun _ h => .inl h)
  exact ⟨rfl, ⟨_, _, _, _, HA.out.turn g HV.out rfl rfl HF.out hz0, rfl⟩, g⟩
set_option maxRecDepth 100000 in
set_option maxHeartbeats 4000000 in
theorem refDone_any {w : World} {p : Nat} {d : Dev} {bB cap : Nat} {wv : Value} {fz : Nat} (h : RAt w p d bB cap wv fz) (hd : d.Ok) (q : Nat) (hq : q < d.n) (b : ByteArray) (hb : b.size = d.pg) (n : Nat) (hn : n ≤ d.pg) :
    Calls Try.prog 59 #[ptr p, .agg #[.int .i64 (q : Int), .string b], .int .i64 (n : Int)] w fun e w' => e = .returned (.tuple #[]) ∧ RAt w' p { d with img := over d.img (q * d.pg) (b.data.toList.take n) } bB cap wv fz ∧ Grows (· = bB) w w' := by
  have hpg := hd.page hq
  have him := hd.img_le
  have hp1 := hd.p1
  have hq1 : q < 120 := Nat.lt_of_lt_of_le hq hd.n_le
  have m1 : (q : Int) * (d.pg : Int) = ((q * d.pg : Nat) : Int) := by rw [Int.natCast_mul]
  have x1 : 0 ≤ (q : Int) * (d.pg : Int) ∧ (q : Int) * (d.pg : Int) ≤ 100000 := by rw [m1]; omega
  have HA0 := Lib.hid (h.below (Geom.bel_alloc w (.cells #[.int .i64 (q : Int), .string b] 83)))
  have HV0 := Lib.hid (Var.new w 83 [.int .i64 (q : Int), .string b])
  have HNE := Lib.hid (show ¬ (w.heap.size = bB) by have := h.lt; omega)
  have HN0 := Lib.hid (over_nil d.img (q * d.pg))
  unfold ptr
  clear h hd hq
  go_enter Try.func59, Try.ntmps59
  go_wp2
  go_loopw [6] (fun i wr => ∃ k : Nat, i = .int .i64 (k : Int) ∧ k ≤ n ∧ Grows (· = bB) w wr ∧ RAt wr p { d with img := over d.img (q * d.pg) (b.data.toList.take k) } bB cap wv fz ∧ Var wr w.heap.size 83 [.int .i64 (q : Int), .string b]) (fun i _ => n - (intOf i).toNat)
  case atStart => exact ⟨0, rfl, Nat.zero_le _, Grows.alloc _ _ _, by rw [List.take_zero, HN0.out]; exact HA0.out, HV0.out⟩
  case round =>
    obtain ⟨k, rfl, hk, hG, hR, hV⟩ := hrel
    have HGr := Lib.hid hG
    have HAr := Lib.hid hR
    have HVr := Lib.hid hV
    clear hG hR hV HA0 HV0 HN0
    by_cases hlt : k < n
    · have hks : k < b.size := by omega
      have hkl : k < b.data.toList.length := by simpa using hks
      have HL := Lib.hid (show (over d.img (q * d.pg) (b.data.toList.take k)).length = d.img.length from over_length (by rw [List.length_take]; omega))
      have HPL := Lib.hid (show q * d.pg + k < d.img.length by omega)
      have HSN := Lib.hid (show (over d.img (q * d.pg) (b.data.toList.take k)).set (q * d.pg + k) b[k] = over d.img (q * d.pg) (b.data.toList.take (k + 1)) from over_snoc hkl (by omega))
      have d1 : decide ((k : Int) < (n : Int)) = true := by simp; omega
      have d2 : decide (k < n) = true := by simp; omega
      have hki : (k : Int) < (b.size : Int) := by omega
      have x2 : 0 ≤ (q : Int) * (d.pg : Int) + (k : Int) ∧ (q : Int) * (d.pg : Int) + (k : Int) ≤ 200000 := by rw [m1]; omega
      have x3 : (q : Int) * (d.pg : Int) + (k : Int) < (d.img.length : Int) := by rw [m1]; omega
      have x4 : ((q : Int) * (d.pg : Int) + (k : Int)).toNat = q * d.pg + k := by rw [m1]; omega
      clear m1
      go_wp2
      refine wp_region_is_tail 19 [12, 13, 14, 15, 16, 17, 18, 19, 20, 21, 22, 23, 24, 25, 26, 27, 28, 29, 30] (fun w' => Below wr.heap.size wr w')
        [.pointer (some ⟨p, 0, none⟩), .pointer (some ⟨p, 0, none⟩), .pointer (some ⟨p, 3, none⟩), .slice (some ⟨bB, 0, none⟩) d.img.length cap, .pointer (some ⟨w.heap.size, 0, none⟩), .int .i64 (q : Int), .pointer (some ⟨p, 0, none⟩), .pointer (some ⟨p, 0, none⟩), .pointer (some ⟨p, 0, none⟩), .pointer (some ⟨p, 0, none⟩), .int .i64 (d.pg : Int), .int .i64 ((q : Int) * (d.pg : Int)), .int .i64 (k : Int), .int .i64 ((q : Int) * (d.pg : Int) + (k : Int)), .pointer (some ⟨w.heap.size, 1, none⟩), .string b, .int .i64 (k : Int), .int .u8 (b[k].toNat : Int), .pointer (some ⟨bB, q * d.pg + k, none⟩)] (by kernel_rfl) (by kernel_rfl) (by kernel_rfl) (by decide) rfl (by decide) (by simp) (Below.refl _ _).drew ?each ?done
      case each =>
        simp only [List.take_succ_cons, List.take_zero, Each]
        repeat' (first | exact trivial | refine And.intro ?_ ?_)
        all_goals
          intro ys wx hBx hdeps
          simp only [Deps, Region.binds, List.getD_cons_zero, List.getD_cons_succ, forall_const, and_true] at hdeps
          have c0 : wx.cell? ⟨p, 0, none⟩ = some (.int .i64 (d.pg : Int)) := (HAr.out.below hBx).var.cell (j := 0) rfl
          have c3 : wx.cell? ⟨p, 3, none⟩ = some (.slice (some ⟨bB, 0, none⟩) d.img.length cap) := by have := (HAr.out.below hBx).var.cell (j := 3) rfl; rw [HL.out] at this; exact this
          have b0 : wx.cell? ⟨w.heap.size, 0, none⟩ = some (.int .i64 (q : Int)) := (HVr.out.below hBx HVr.out.lt).cell (j := 0) rfl
          have b1 : wx.cell? ⟨w.heap.size, 1, none⟩ = some (.string b) := (HVr.out.below hBx HVr.out.lt).cell (j := 1) rfl
          simp only [hdeps, fill, List.foldl_cons, List.foldl_nil, Act.put, List.setIfInBounds_toArray, List.set_cons_succ, List.set_cons_zero]
          first
            | (go_wp2_with fail; exact ⟨_, rfl, rfl, hBx, Below.refl _ _⟩)
      case done =>
        intro ys wx hBx hV
        have h29 : ys 29 = .int .u8 (b[k].toNat : Int) := hV 17 (by decide)
        have h30 : ys 30 = .pointer (some ⟨bB, q * d.pg + k, none⟩) := hV 18 (by decide)
        have hRx := HAr.out.below hBx
        obtain ⟨g1, g2⟩ := hRx.row (q * d.pg + k) (by rw [HL.out]; exact HPL.out)
        have HP := Lib.hid (hRx.put (q * d.pg + k) b[k] (by rw [HL.out]; exact HPL.out))
        have HVx := Lib.hid (HVr.out.below hBx HVr.out.lt)
        have HG := Lib.hid (HGr.out.trans ((Grows.of_below (S := (· = bB)) hBx).trans (Grows.set (S := (· = bB)) wx ⟨bB, q * d.pg + k, none⟩ (.int .u8 (b[k].toNat : Int)) rfl) (fun _ h => .inl h)) (fun _ h => .inl h))
        clear hRx
        simp only [h29, h30, fill, List.drop_succ_cons, List.drop_zero, List.foldl_cons, List.foldl_nil, Act.put, List.setIfInBounds_toArray, List.set_cons_succ, List.set_cons_zero]
        go_wp2
        refine ⟨⟨k + 1, by go_num, by omega, HG.out, ?_, ?_⟩, by simp [intOf]; omega⟩
        · have hK := HP.out
          rw [HSN.out] at hK
          exact hK
        · exact (Grows.set (S := (· = bB)) wx ⟨bB, q * d.pg + k, none⟩ (.int .u8 (b[k].toNat : Int)) rfl).var HVx.out HNE.out
    · obtain rfl : k = n := by omega
      have d1 : decide ((k : Int) < (k : Int)) = false := by simp
      go_wp2
      refine bodyPost_end (results_none rfl _ _ _) rfl ?_
      exact ⟨rfl, HAr.out, HGr.out⟩
end Go.Proofs.Ytgcbdekdjdlfaaa.Flash
