/-
  Joined texts: FlashXe, FlashXf, FlashXg.
-/
import Derived.Test.YtcmjambbdfangaaGreatRunFlashXa
import Derived.Test.YtcmjambbdfangaaGreatRunFlashW
/-
  The landed device: what is pending is ended (settle); Flush, Crash.
-/
set_option linter.unusedVariables false
set_option linter.unusedSimpArgs false
namespace Go.Proofs.YtcmjambbdfangaaGreat.Flash
open Go.RowKit
open Go.Proofs.YtcmjambbdfangaaGreat.Own
open Tup Bytes Foot
open Go.Proofs.YtcmjambbdfangaaGreat.Region (fill Then Deps Each wp_region_is wp_region_is_tail)

theorem setCells_row {B : Nat} {w : World} {l : List UInt8} (h : Row8 w B l) : ∀ (bs : List UInt8) (P : Nat), P + bs.length ≤ l.length → Row8 (w.setCells B P (bs.map fun c => .int .u8 (c.toNat : Int))) B (over l P bs) ∧ Grows (· = B) w (w.setCells B P (bs.map fun c => .int .u8 (c.toNat : Int)))
  | [], P, _ => by rw [over_nil]; exact ⟨h, Grows.refl _ _⟩
  | c :: r, P, hl => by
    have hl' : P + r.length + 1 ≤ l.length := by simpa [Nat.add_assoc] using hl
    have h1 := h.set P c (by omega)
    obtain ⟨i1, i2⟩ := setCells_row h1 r (P + 1) (by rw [List.length_set]; omega)
    have e : over (l.set P c) (P + 1) r = over l P (c :: r) := by
      unfold over
      have hP : P < l.length := by omega
      rw [List.take_succ_eq_append_getElem (by rw [List.length_set]; exact hP), List.getElem_set_self, List.take_set_of_le (Nat.le_refl _), List.drop_set_of_lt (by omega)]
      simp only [List.append_assoc, List.singleton_append, List.length_cons]
      rw [show P + 1 + r.length = P + (r.length + 1) by omega]
    rw [e] at i1
    exact ⟨i1, (Grows.set (S := (· = B)) w ⟨B, P, none⟩ _ rfl).trans i2 (fun _ h => .inl h)⟩
theorem info8s : (Tryz.prog.info? 5).map (·.size) = some 1 := by kernel_rfl
/-- bytes go over into the device's -/
theorem copy8 {w : World} {B B2 : Nat} {l l2 : List UInt8} (h : Row8 w B l) (h2 : Row8 w B2 l2) (P n c m c2 : Nat) (hn : m ≤ n) (hm : m ≤ l2.length) (hP : P + n ≤ l.length) (ty : TypeId) :
    (Builtin.copy_ #[55, 55] ty #[.slice (some ⟨B, P, none⟩) n c, .slice (some ⟨B2, 0, none⟩) m c2]).run Tryz.prog w = .ok (goInt m) (w.setCells B P ((l2.take m).map fun c => .int .u8 (c.toNat : Int))) := by
  have hlen : ((l2.take m).map fun c : UInt8 => Value.int .u8 (c.toNat : Int)).length = m := by rw [List.length_map, List.length_take]; omega
  have := run_copy_cells (P := Tryz.prog) w 55 55 ty 5 B P n c ⟨B2, 0, none⟩ m c2 ((l2.take m).map fun c => .int .u8 (c.toNat : Int)) Tryz.underlying55 info8s
    (by rw [hlen]; exact (Nat.min_eq_left hn).symm)
    (fun j v hj => by
      have hjm : j < m := by rw [← hlen]; exact (List.getElem?_eq_some_iff.1 hj).1
      have := (h2 j (by omega)).1
      rw [show (⟨B2, 0, none⟩ : Addr).add j = ⟨B2, j, none⟩ by unfold Addr.add; split <;> simp_all]
      rw [this]
      rw [List.getElem?_map, List.getElem?_take_of_lt hjm] at hj
      rw [List.getD_eq_getElem?_getD]
      cases hx : l2[j]? with
      | none => rw [hx] at hj; simp at hj
      | some y => rw [hx] at hj; simpa using hj)
    (fun j hj => by rw [hlen] at hj; rw [(h (P + j) (by omega)).1]; rfl)
    (fun j hj => by rw [hlen] at hj; exact (h (P + j) (by omega)).2)
    (fun v hv => by obtain ⟨c, _, rfl⟩ := List.mem_map.1 hv; rfl)
  rw [hlen] at this
  exact this
theorem copy8w {w : World} {B B2 : Nat} {l l2 : List UInt8} (h : Row8 w B l) (h2 : Row8 w B2 l2) (P n c m c2 : Nat) (hn : m ≤ n) (hm : m ≤ l2.length) (hP : P + n ≤ l.length) :
    ∃ w9, (∀ ty, (Builtin.copy_ #[55, 55] ty #[.slice (some ⟨B, P, none⟩) n c, .slice (some ⟨B2, 0, none⟩) m c2]).run Tryz.prog w = .ok (goInt m) w9) ∧ Row8 w9 B (over l P (l2.take m)) ∧ Grows (· = B) w w9 := by
  obtain ⟨a, b⟩ := setCells_row h (l2.take m) P (by rw [List.length_take]; omega)
  exact ⟨_, fun ty => copy8 h h2 P n c m c2 hn hm hP ty, a, b⟩
/-- bytes of the image are turned alone -/
theorem FAt.turnB {w w' : World} {p : Nat} {d : Dev} {bB cap : Nat} {wv : Value} {fz : Nat} {E : List Ent} (h : FAt w p d bB cap wv fz E) {im : List UInt8} (hl : im.length = d.img.length) (hr : Row8 w' bB im) (g : Grows (· = bB) w w') : FAt w' p { d with img := im } bB cap wv fz E := by
  refine ⟨?_, hr, Nat.lt_of_lt_of_le h.lt g.size, owns_grows h.wait g (fun k hk e => h.ne3 (by rw [← e]; exact hk)), h.ents, fun x hx => ?_, h.fuz, h.fuz0, by simp only [hl]; exact h.capl, h.ne1, h.ne2, h.ne3⟩
  · have := g.var h.var (fun e => h.ne1 e.symm)
    simp only [hl]
    exact this
  · obtain ⟨a, b, c, u, v, z⟩ := h.rows x hx
    exact ⟨a.grows g v, b, Nat.lt_of_lt_of_le c g.size, u, v, z⟩
/-- nothing is pending any more -/
theorem FAt.clear {w : World} {p : Nat} {d : Dev} {bB cap : Nat} {wv : Value} {fz : Nat} {E : List Ent} (h : FAt w p d bB cap wv fz E) : FAt (w.setCell ⟨p, 4, none⟩ (.slice none 0 0)) p { d with wait := [] } bB cap (.slice none 0 0) fz [] := by
  have g : Grows (· = p) w (w.setCell ⟨p, 4, none⟩ (.slice none 0 0)) := Grows.set _ _ _ rfl
  exact ⟨h.var.set 4 _, h.row.grows g h.ne1, Nat.lt_of_lt_of_le h.lt g.size, ⟨rfl, .inl ⟨rfl, rfl⟩⟩, rfl, fun x hx => by simp at hx, h.fuz, h.fuz0, h.capl, h.ne1, by simp [Value.ownBlock], by simp [Value.ownBlock]⟩
/-- what is ended, page by page -/
def settleI (d : Dev) (ks : Nat → Nat) (k : Nat) : List UInt8 := (d.wait.zipIdx.take k).foldl (fun im x => over im (x.1.1 * d.pg) (x.1.2.take (ks x.2))) d.img
theorem settleI_succ {d : Dev} {ks : Nat → Nat} {k : Nat} (hk : k < d.wait.length) : settleI d ks (k + 1) = over (settleI d ks k) (d.wait[k].1 * d.pg) (d.wait[k].2.take (ks k)) := by
  unfold settleI
  rw [List.take_succ_eq_append_getElem (by simpa using hk), List.foldl_append]
  simp
theorem settle_len (pg : Nat) (ks : Nat → Nat) (hks : ∀ i, ks i ≤ pg) : ∀ (l : List ((Nat × List UInt8) × Nat)) (im : List UInt8), (∀ x ∈ l, x.1.1 * pg + pg ≤ im.length ∧ x.1.2.length = pg) →
    (l.foldl (fun im x => over im (x.1.1 * pg) (x.1.2.take (ks x.2))) im).length = im.length
  | [], _, _ => rfl
  | x :: r, im, h => by
    have hx := h x (List.mem_cons_self ..)
    have h0 : (over im (x.1.1 * pg) (x.1.2.take (ks x.2))).length = im.length := over_length (by
      have := hks x.2
      rw [List.length_take]; omega)
    rw [List.foldl_cons, settle_len pg ks hks r _ (fun y hy => by rw [h0]; exact h y (List.mem_cons_of_mem _ hy)), h0]
theorem settleI_len {d : Dev} (h : d.Ok) {ks : Nat → Nat} (hks : ∀ i, ks i ≤ d.pg) (k : Nat) : (settleI d ks k).length = d.img.length :=
  settle_len d.pg ks hks _ d.img (fun x hx => by
    have hx := List.mem_of_mem_take hx
    have hm : x.1 ∈ d.wait := by
      obtain ⟨y, i⟩ := x
      exact (List.mem_zipIdx hx).2.2 ▸ List.getElem_mem _
    have := h.wait x.1 hm
    exact ⟨h.page this.1, this.2⟩)
theorem settle_crash (d : Dev) (mask : List Int) : settleI d (fun i => tornN d.pg (mask.getD i 0)) d.wait.length = crashI d mask d.wait.length := rfl
theorem settle_all {d : Dev} (h : d.Ok) : ∀ k, k ≤ d.wait.length → settleI d (fun _ => d.pg) k = (d.wait.take k).foldl (fun im x => over im (x.1 * d.pg) x.2) d.img
  | 0, _ => rfl
  | k + 1, hk => by
    rw [settleI_succ (by omega), settle_all h k (by omega), List.take_succ_eq_append_getElem (by omega), List.foldl_append]
    have := (h.wait _ (List.getElem_mem (show k < d.wait.length by omega))).2
    have e : d.wait[k].2.take d.pg = d.wait[k].2 := List.take_of_length_le (by omega)
    rw [e]; rfl
theorem copy_len {ks : Nat → Nat} (b : List UInt8) (k n : Nat) (h : ks k ≤ n) (hb : b.length = n) : (b.take (ks k)).length = ks k := by rw [List.length_take]; omega
set_option maxRecDepth 100000 in
set_option maxHeartbeats 8000000 in
theorem settleF_any {w : World} {p : Nat} {d : Dev} {bB cap : Nat} {wv : Value} {fz : Nat} {E : List Ent} (h : FAt w p d bB cap wv fz E) (hd : d.Ok) (ks : Nat → Nat) (hks : ∀ i, ks i ≤ d.pg) (x y : Nat)
    (hK : ∀ (wx : World) (i : Nat), i < d.wait.length → Grows (· = bB) w wx → (∃ im, FAt wx p { d with img := im } bB cap wv fz E) → Calls Tryz.prog 72 #[.int .i64 (i : Int), .pointer (some ⟨x, 0, none⟩)] wx fun e w' => e = .returned (.int .i64 (ks i : Int)) ∧ Below wx.heap.size wx w') :
    Calls Tryz.prog 71 #[ptr p, .func (.func 72) #[] #[.pointer (some ⟨x, 0, none⟩)]] w fun e w' => e = .returned (.tuple #[]) ∧ FAt w' p { d with img := settleI d ks d.wait.length, wait := [] } bB cap (.slice none 0 0) fz [] ∧ Grows (fun k => k = p ∨ k = bB) w w' := by
  obtain ⟨a, c, rfl⟩ := h.slice
  have c4 := h.var.cell (j := 4) rfl
  have hn := hd.wait_le
  have hEL := h.wlen
  have hp0 := hd.p0
  have hp1 := hd.p1
  have HLEN := Lib.hid (fun k => settleI_len hd hks k)
  have HX := Lib.hid (fun k (hk : k < d.wait.length) => settleI_succ (ks := ks) hk)
  have HWK := Lib.hid (fun k (hk : k < d.wait.length) => hd.wait d.wait[k] (List.getElem_mem hk))
  have HPG := Lib.hid (fun q (hq : q < d.n) => hd.page hq)
  have HST := Lib.hid (fun (wx : World) (im : List UInt8) (him : im.length = d.img.length) (hR : FAt wx p { d with img := im } bB cap (.slice a E.length c) fz E) q (hq : q < d.n) => atStands_any hR (hd.image him) q hq)
  have HK := Lib.hid hK
  have HKS := Lib.hid hks
  have HA0 := Lib.hid h
  unfold ptr at HST ⊢
  simp only at HST
  obtain ⟨L, hL⟩ : ∃ L, E.length = L := ⟨_, rfl⟩
  rw [hL] at c4 hEL
  have HL := Lib.hid hL
  have HW := Lib.hid hEL
  rw [← hEL] at hn
  clear h hd hK hL hEL hks
  go_enter Tryz.func71, Tryz.ntmps71
  go_wp2
  go_loopw [11] (fun i wr => ∃ k : Nat, i = .int .i64 (k : Int) ∧ k ≤ L ∧ Grows (· = bB) w wr ∧ FAt wr p { d with img := settleI d ks k } bB cap (.slice a E.length c) fz E) (fun i _ => L - (intOf i).toNat)
  case atStart => exact ⟨0, rfl, Nat.zero_le _, Grows.refl _ _, HA0.out⟩
  case round =>
    obtain ⟨k, rfl, hk, hG, hR⟩ := hrel
    have HGr := Lib.hid hG
    have HAr := Lib.hid hR
    clear c4 HA0
    by_cases hlt : k < L
    · have hkE : k < E.length := by rw [HL.out]; exact hlt
      have hkl : k < d.wait.length := by rw [← HW.out]; exact hlt
      obtain ⟨hkl2, hke⟩ := hR.ent hkE
      simp only at hke
      obtain ⟨g, ha, e0, e1⟩ := hR.pend hkE
      subst ha
      have hb0 : g < wr.heap.size := block_lt_of_cell e0
      have d1 : decide ((k : Int) < (L : Int)) = true := by simp; omega
      have d2 : decide (k < L) = true := by simp; omega
      have hrow := hR.rows E[k] (List.getElem_mem hkE)
      have HXk := Lib.hid (HX.out k hkl)
      have hwk := HWK.out k hkl
      rw [hke] at HXk hwk
      obtain ⟨yq, yb, yg, yc, hy⟩ : ∃ yq yb yg yc, E[k] = ⟨yq, yb, yg, yc⟩ := ⟨_, _, _, _, rfl⟩
      rw [hy] at e0 e1 hrow HXk hwk
      simp only [entW] at e0 e1 hrow HXk hwk
      obtain ⟨hq, hyl⟩ := hwk
      have hpg := HPG.out yq hq
      have hkk := HKS.out k
      have hsl := slice8h (L := yb.length) (off := 0) (cap := yc) yg (show ks k ≤ yc by have := hrow.2.1; omega) _ rfl
      have HROW := Lib.hid hrow
      have HQ := Lib.hid hq
      have HKL := Lib.hid hkl
      have HEM := Lib.hid (show (⟨yq, yb, yg, yc⟩ : Ent) ∈ E by rw [← hy]; exact List.getElem_mem hkE)
      have HV0 := Lib.hid (Var.new wr 104 [.int .i64 (yq : Int), .slice (some ⟨yg, 0, none⟩) yb.length yc])
      have HA1 := Lib.hid (hR.below (Geom.bel_alloc wr (.cells #[.int .i64 (yq : Int), .slice (some ⟨yg, 0, none⟩) yb.length yc] 104)))
      have HB1 := Lib.hid (HGr.out.trans (Grows.alloc (· = bB) wr (.cells #[.int .i64 (yq : Int), .slice (some ⟨yg, 0, none⟩) yb.length yc] 104)) (fun _ h => .inl h))
      have HPGE := Lib.hid (show yq * d.pg + d.pg ≤ (settleI d ks k).length by rw [HLEN.out]; exact hpg)
      have HYL := Lib.hid hyl
      have HNL := Lib.hid (copy_len (ks := ks) yb k d.pg hkk hyl)
      clear hR hG hrow hq hkl hkl2 hke hy hkE hpg
      rw [hyl] at hsl e1
      rw [hyl] at HV0 HA1 HB1
      go_wp2
      obtain ⟨w1, hw1⟩ : ∃ w1, w1 = wr.alloc (.cells #[.int .i64 (yq : Int), .slice (some ⟨yg, 0, none⟩) d.pg yc] 104) := ⟨_, rfl⟩
      rw [← hw1] at HV0 HA1 HB1 ⊢
      have HW1 := Lib.hid hw1
      clear hw1
      refine wp_region_is_tail 10 [16, 17, 18, 19, 20, 21, 22, 23, 24, 25] (fun w' => Below w1.heap.size w1 w')
        [.pointer (some ⟨p, 0, none⟩), .pointer (some ⟨wr.heap.size, 0, none⟩), .int .i64 (yq : Int), .slice (some ⟨bB, yq * d.pg, none⟩) d.pg (cap - yq * d.pg), .pointer (some ⟨wr.heap.size, 1, none⟩), .slice (some ⟨yg, 0, none⟩) d.pg yc, .func (.func 72) #[] #[.pointer (some ⟨x, 0, none⟩)], .int .i64 (k : Int), .int .i64 (ks k : Int), .slice (some ⟨yg, 0, none⟩) (ks k) yc] (by kernel_rfl) (by kernel_rfl) (by kernel_rfl) (by decide) rfl (by decide) (by simp) (Below.refl _ _).drew ?each ?done
      case each =>
        simp only [List.take_succ_cons, List.take_zero, Each]
        repeat' (first | exact trivial | refine And.intro ?_ ?_)
        all_goals
          intro ys wx hBx hdeps
          simp only [Deps, Region.binds, List.getD_cons_zero, List.getD_cons_succ, forall_const, and_true] at hdeps
          have b0 : wx.cell? ⟨wr.heap.size, 0, none⟩ = some (.int .i64 (yq : Int)) := (HV0.out.below hBx HV0.out.lt).cell (j := 0) rfl
          have b1 : wx.cell? ⟨wr.heap.size, 1, none⟩ = some (.slice (some ⟨yg, 0, none⟩) d.pg yc) := (HV0.out.below hBx HV0.out.lt).cell (j := 1) rfl
          simp only [hdeps, fill, List.foldl_cons, List.foldl_nil, Act.put, List.setIfInBounds_toArray, List.set_cons_succ, List.set_cons_zero]
          first
            | (go_wp2_with fail; exact ⟨_, rfl, rfl, hBx, Below.refl _ _⟩)
            | (go_wp2_with (go_at_call 65; (with_reducible refine (HST.out wx _ (HLEN.out k) (HA1.out.below hBx) yq HQ.out).mono ?_); rintro e w3 ⟨rfl, k3, rfl⟩); exact ⟨_, rfl, rfl, hBx.trans ((below_drewN _ k3).mono hBx.size), (below_drewN _ k3)⟩)
            | (go_wp2_with (go_at_call 72; (with_reducible refine (HK.out wx k HKL.out (HB1.out.trans (Grows.of_below hBx) (fun _ h => .inl h)) ⟨_, HA1.out.below hBx⟩).mono ?_); rintro e w3 ⟨rfl, hn3⟩); exact ⟨_, rfl, rfl, hBx.trans (hn3.mono hBx.size), hn3⟩)
      case done =>
        intro ys wx hBx hV
        have h19 : ys 19 = .slice (some ⟨bB, yq * d.pg, none⟩) d.pg (cap - yq * d.pg) := hV 3 (by decide)
        have h25 : ys 25 = .slice (some ⟨yg, 0, none⟩) (ks k) yc := hV 9 (by decide)
        have hRx := HA1.out.below hBx
        have hro := HROW.out.1
        have hrx : Row8 wx yg yb := (hRx.rows ⟨yq, yb, yg, yc⟩ (by have := HEM.out; exact this)).1
        obtain ⟨w9, hcp, hr9, hg9⟩ := copy8w hRx.row hrx (yq * d.pg) d.pg (cap - yq * d.pg) (ks k) yc (HKS.out k) (by rw [HYL.out]; exact HKS.out k) HPGE.out
        have HT := Lib.hid (hRx.turnB (over_length (by show _ ≤ (settleI d ks k).length; have := HNL.out; have := HKS.out k; have := HPGE.out; omega)) hr9 hg9)
        have HGG := Lib.hid (HB1.out.trans ((Grows.of_below hBx).trans hg9 (fun _ h => .inl h)) (fun _ h => .inl h))
        clear hRx hro hrx hBx hV hr9 hg9
        simp only [h19, h25, fill, List.drop_succ_cons, List.drop_zero, List.foldl_cons, List.foldl_nil, Act.put, List.setIfInBounds_toArray, List.set_cons_succ, List.set_cons_zero]
        go_wp2
        refine ⟨⟨k + 1, by go_num, by omega, HGG.out, ?_⟩, by simp [intOf]; omega⟩
        have hT := HT.out
        simp only at hT
        rw [HXk.out]; exact hT
    · obtain rfl : k = L := by omega
      have d1 : decide ((k : Int) < (k : Int)) = false := by simp
      have f4 := hR.var.frozen 4
      have c4 := hR.var.cell (j := 4) rfl
      have HC := Lib.hid hR.clear
      have HG := Lib.hid (show Grows (fun k => k = p ∨ k = bB) w (wr.setCell ⟨p, 4, none⟩ (.slice none 0 0)) from (hG.mono (fun _ h => .inr h)).trans (Grows.set (S := (· = p)) _ _ _ rfl) (fun _ h => .inl (.inl h)))
      clear hR hG
      go_wp2
      refine bodyPost_end (results_none rfl _ _ _) rfl ?_
      rw [← HW.out]
      exact ⟨rfl, HC.out, HG.out⟩
end Go.Proofs.YtcmjambbdfangaaGreat.Flash
/-
  The landed device: Flush, Crash.
-/
set_option linter.unusedVariables false
set_option linter.unusedSimpArgs false
namespace Go.Proofs.YtcmjambbdfangaaGreat.Flash
open Go.RowKit
open Go.Proofs.YtcmjambbdfangaaGreat.Own
open Tup Bytes Foot
open Go.Proofs.YtcmjambbdfangaaGreat.Region (fill Then Deps Each wp_region_is wp_region_is_tail)

set_option maxRecDepth 100000 in
theorem flush1_any {w : World} {p x : Nat} {pg : Nat} (hx : w.cell? ⟨x, 0, none⟩ = some (ptr p)) (c0 : w.cell? ⟨p, 0, none⟩ = some (.int .i64 (pg : Int))) (i : Int) :
    Calls Tryz.prog 72 #[.int .i64 i, ptr x] w fun e w' => e = .returned (.int .i64 (pg : Int)) ∧ Below w.heap.size w w' := by
  unfold ptr at hx ⊢
  go_enter Tryz.func72, Tryz.ntmps72
  go_wp2
  go_ret
  exact ⟨rfl, Below.refl _ _⟩
theorem FAt.cells0 {w : World} {p : Nat} {d : Dev} {bB cap : Nat} {wv : Value} {fz : Nat} {E : List Ent} (h : FAt w p d bB cap wv fz E) : w.cell? ⟨p, 0, none⟩ = some (.int .i64 (d.pg : Int)) := h.var.cell (j := 0) rfl
theorem flushD_ok {d : Dev} (hd : d.Ok) (h1 : d.down = false) (h2 : d.blow.1 = false) : flushD d = (0, { d.blow.2 with img := settleI d.blow.2 (fun _ => d.blow.2.pg) d.blow.2.wait.length, wait := [] }) := by
  have hl := blow_like d
  unfold flushD
  rw [h1, h2, settle_all (hd.like hl) _ (Nat.le_refl _), List.take_length, hl.wait, hl.pg, hl.img]; rfl
theorem after_inP {S : Nat → Prop} {w w' : World} {p bB : Nat} (g : Grows (fun k => k = p ∨ k = bB) w w') (h1 : S p) (h2 : S bB) : After S w w' (fun k => k = p ∨ k = bB) :=
  ⟨g.mono (fun k hk => by rcases hk with rfl | rfl <;> assumption), fun k hk => .inl (by rcases hk with rfl | rfl <;> assumption)⟩
theorem foot_nil (p bB : Nat) : ∀ k, footF p bB (.slice none 0 0) [] k → k = p ∨ k = bB := by
  rintro k (h | h | h | ⟨x, hx, _⟩)
  · exact .inl h
  · exact .inr h
  · simp [Value.ownBlock] at h
  · simp at hx
theorem after_sub {S T T' : Nat → Prop} {w w' : World} (h : After S w w' T) (hs : ∀ k, T' k → T k) : After S w w' T' := ⟨h.grows, fun k hk => h.foot k (hs k hk)⟩
set_option maxRecDepth 100000 in
set_option maxHeartbeats 4000000 in
theorem atFlush_any {w : World} {p : Nat} {d : Dev} {bB cap : Nat} {wv : Value} {fz : Nat} {E : List Ent} (h : FAt w p d bB cap wv fz E) (hd : d.Ok) :
    Calls Tryz.prog 33 #[ptr p] w fun e w' => e = .returned (.int .i64 ((flushD d).1 : Int)) ∧ ∃ S, FHas w' p (flushD d).2 S ∧ After (footF p bB wv E) w w' S := by
  have hB1 := Geom.bel_alloc w (.cells #[ptr p] 38)
  have h1 := h.below hB1
  have HA := Lib.hid h
  have HA1 := Lib.hid h1
  have hpl := h.var.lt
  have hbl := h.lt
  have HD := Lib.hid (atDown_any h1)
  have HV := Lib.hid (Var.new w 38 [ptr p])
  have HB1 := Lib.hid hB1
  unfold ptr at HD HV HB1 ⊢
  rcases hdn : d.down with _ | _
  · rw [hdn] at HD
    have HC := Lib.hid (atCount_any h1)
    unfold ptr at HC
    have hcs : (w.alloc (.cells #[ptr p] 38)).cell? ⟨w.heap.size, 0, none⟩ = some (ptr p) := (Var.new w 38 [ptr p]).cell (j := 0) rfl
    rcases hbb : d.blow.1 with _ | _
    · have HE := Lib.hid (flushD_ok hd hdn hbb)
      have hok := hd.like (blow_like d)
      have HS := Lib.hid (fun (w2 : World) (fy : Nat) (hF : FAt w2 p d.blow.2 bB cap wv fy E) (hx : w2.cell? ⟨w.heap.size, 0, none⟩ = some (ptr p)) => settleF_any hF hok (fun _ => d.blow.2.pg) (fun _ => Nat.le_refl _) w.heap.size w.heap.size (fun wx i _ g hi => by
        obtain ⟨im, hF⟩ := hi
        exact flush1_any (g.cell hx (by show ¬ w.heap.size = bB; omega)) hF.cells0 i))
      unfold ptr at HS
      rw [code_ok hbb] at HC
      have hmf : ∀ (fn : Fn) (first cap : Array Value) (w : World), (Instr.makeFunc fn first cap).run Tryz.prog w = .ok (.func fn first cap) w := fun _ _ _ _ => rfl
      clear h h1 hdn hbb hd hok
      go_enter Tryz.func33, Tryz.ntmps33
      go_wp2_with (first
        | (go_at_call 21; (with_reducible refine HD.out.mono ?_); rintro e w3 ⟨rfl, rfl⟩)
        | (go_at_call 70; (with_reducible refine HC.out.mono ?_); rintro e w4 ⟨rfl, hg4, fy, hF4⟩; have hv4 := (hg4.var HV.out (by show ¬ w.heap.size = p; omega)).cell (j := 0) rfl; have HG4 := Lib.hid hg4; have HF4 := Lib.hid hF4; clear hg4 hF4)
        | (go_at_call 71; (with_reducible refine (HS.out w4 fy HF4.out hv4).mono ?_); rintro e w5 ⟨rfl, hF5, hg5⟩))
      go_ret
      rw [HE.out]
      refine ⟨rfl, _, ⟨_, _, _, _, _, hF5, rfl⟩, ?_⟩
      have g := (HG4.out.mono (S' := fun k => k = p ∨ k = bB) (fun _ h => .inl h)).trans hg5 (fun _ h => .inl h)
      exact after_mid HB1.out (after_sub (after_inP (S := footF p bB wv E) g (.inl rfl) (.inr (.inl rfl))) (foot_nil p bB))
    · have HE := Lib.hid (show flushD d = (6, d.blow.2) by unfold flushD; rw [hdn, hbb]; rfl)
      rw [code_blown hbb] at HC
      clear h h1 hdn hbb hd
      go_enter Tryz.func33, Tryz.ntmps33
      go_wp2_with (first
        | (go_at_call 21; (with_reducible refine HD.out.mono ?_); rintro e w3 ⟨rfl, rfl⟩)
        | (go_at_call 70; (with_reducible refine HC.out.mono ?_); rintro e w4 ⟨rfl, hg4, fy, hF4⟩; have hv4 := (hg4.var HV.out (by show ¬ w.heap.size = p; omega)).cell (j := 0) rfl; have HG4 := Lib.hid hg4; have HF4 := Lib.hid hF4; clear hg4 hF4))
      go_ret
      rw [HE.out]
      exact ⟨rfl, _, ⟨_, _, _, _, _, HF4.out, rfl⟩, after_mid HB1.out (After.of_grows HG4.out (fun j hj => .inl hj))⟩
  · rw [hdn] at HD
    have HE := Lib.hid (show flushD d = (6, d) by unfold flushD; rw [hdn]; rfl)
    have hcs : (w.alloc (.cells #[ptr p] 38)).cell? ⟨w.heap.size, 0, none⟩ = some (ptr p) := (Var.new w 38 [ptr p]).cell (j := 0) rfl
    clear h h1 hdn hd
    go_enter Tryz.func33, Tryz.ntmps33
    go_wp2_with (go_at_call 21; (with_reducible refine HD.out.mono ?_); rintro e w3 ⟨rfl, rfl⟩)
    go_ret
    rw [HE.out]
    exact ⟨rfl, _, ⟨_, _, _, _, _, HA1.out, rfl⟩, after_below HB1.out⟩
theorem crash_fused (d : Dev) (mask : List Int) (im : List UInt8) (h : im = crashI d mask d.wait.length) : fuseD ({ ({ d with img := im, wait := [] } : Dev) with down := false }) (-1) = crashD d mask := by
  rw [crash_is, h]; rfl
end Go.Proofs.YtcmjambbdfangaaGreat.Flash
/-
  The landed device: Rot, New.
-/
set_option linter.unusedVariables false
set_option linter.unusedSimpArgs false
namespace Go.Proofs.YtcmjambbdfangaaGreat.Flash
open Go.RowKit
open Go.Proofs.YtcmjambbdfangaaGreat.Own
open Tup Bytes Foot
open Go.Proofs.YtcmjambbdfangaaGreat.Region (fill Then Deps Each wp_region_tail)

theorem newD_img (pg pgs rgs : Nat) (im : List UInt8) {N : Nat} (hN : pg * pgs * rgs = N) (h : im.length ≤ N) : over (List.replicate N 255) 0 im = (newD pg pgs rgs im).img := by
  unfold over newD
  simp only [List.take_zero, List.nil_append, Nat.zero_add, List.drop_replicate]
  rw [hN]
theorem copyS {w : World} {B : Nat} {l : List UInt8} (h : Row8 w B l) (P n c : Nat) (s : ByteArray) (hs : s.size ≤ n) (hP : P + n ≤ l.length) :
    ∃ w9, (∀ ty, (Builtin.copy_ #[55, 9] ty #[.slice (some ⟨B, P, none⟩) n c, .string s]).run Tryz.prog w = .ok (goInt s.size) w9) ∧ Row8 w9 B (over l P s.data.toList) ∧ Grows (· = B) w w9 := by
  have hsl : s.data.toList.length = s.size := by simp
  obtain ⟨a, b⟩ := setCells_row h s.data.toList P (by omega)
  refine ⟨_, fun ty => ?_, a, b⟩
  have hst := run_storeCells_cells (P := Tryz.prog) B P (s.data.toList.map fun c : UInt8 => Value.int .u8 (c.toNat : Int)) 0 w
    (fun j hj => by rw [List.length_map, hsl] at hj; rw [Nat.add_zero, (h (P + j) (by omega)).1]; rfl)
    (fun j hj => by rw [List.length_map, hsl] at hj; rw [Nat.add_zero]; exact (h (P + j) (by omega)).2)
    (fun v hv => by obtain ⟨c, _, rfl⟩ := List.mem_map.1 hv; rfl)
  rw [Nat.add_zero] at hst
  have hmin : Nat.min s.size n = s.size := Nat.min_eq_left hs
  have htk : List.take s.size (List.map (fun b : UInt8 => Value.int IntKind.u8 (b.toNat : Int)) s.data.toList) = List.map (fun b : UInt8 => Value.int IntKind.u8 (b.toNat : Int)) s.data.toList := List.take_of_length_le (by rw [List.length_map, hsl]; exact Nat.le_refl _)
  have hu : Tryz.prog.underlying 55 = some (.slice 5) := Tryz.underlying55
  obtain ⟨i0, hi, hz0, hz1, hz2⟩ := info_parts info8
  simp [Builtin.copy_, run_underlying hu, Builtin.lenOf, Builtin.firstCells, sizeOf, typeInfo, hi, hz1, hmin]
  rw [htk, hst]
  simp [Result.andThen]
/-- the values of New's operations: its bytes are new -/
def NX (tab : List Value) (base N : Nat) : Nat → Value → World → Prop := fun i v w => if i = 3 then (∃ g0 c, v = .slice (some ⟨g0, 0, none⟩) N c ∧ N ≤ c ∧ Row8 w g0 (List.replicate N 255) ∧ base ≤ g0 ∧ g0 < w.heap.size) else v = tab.getD i undef
theorem NX.mono (tab : List Value) (base N : Nat) : ∀ i v w w', NX tab base N i v w → Below w.heap.size w w' → NX tab base N i v w' := by
  intro i v w w' h hb
  unfold NX at h ⊢
  split
  · rename_i e
    rw [if_pos e] at h
    obtain ⟨g, cap, h1, h2, h3, h4, h5⟩ := h
    exact ⟨g, cap, h1, h2, h3.below hb, h4, Nat.lt_of_lt_of_le h5 hb.size⟩
  · rename_i e
    rw [if_neg e] at h; exact h
set_option maxRecDepth 100000 in
theorem fNew_wrong (g : Geom.Gm) (im : ByteArray) (w : World) (hr : Geom.rightG g = false) : Calls Tryz.prog 26 #[Geom.gV g, .string im] w fun e w' => Below w.heap.size w w' ∧ e = .returned (.tuple #[.pointer none, .int .i64 1]) := by
  have HR := Lib.hid (fun w => Geom.right_any g w)
  rw [hr] at HR
  obtain ⟨gp, gs, gr⟩ := g
  unfold Geom.gV at HR ⊢
  have HV := Lib.hid (Var.new w 23 [.int .i64 gp, .int .i64 gs, .int .i64 gr])
  have v0 := HV.out.cell (j := 0) rfl
  have v1 := HV.out.cell (j := 1) rfl
  have v2 := HV.out.cell (j := 2) rfl
  clear hr
  go_enter Tryz.func26, Tryz.ntmps26
  go_wp2_with (go_at_call 57; (with_reducible refine (HR.out _).mono ?_); rintro e w3 ⟨rfl, hn3⟩)
  go_ret2
  exact ⟨Geom.bel0 (Geom.bel_alloc _ _) hn3, rfl⟩
set_option maxRecDepth 100000 in
theorem fNew_long (g : Geom.Gm) (im : ByteArray) (w : World) (hr : Geom.rightG g = true) (hl : Geom.sizeG g < (im.size : Int)) : Calls Tryz.prog 26 #[Geom.gV g, .string im] w fun e w' => Below w.heap.size w w' ∧ e = .returned (.tuple #[.pointer none, .int .i64 1]) := by
  have HR := Lib.hid (fun w => Geom.right_any g w)
  have HB := Lib.hid (fun w => Geom.bytes_any g w)
  rw [hr] at HR HB
  simp only [if_true] at HB
  have d1 : decide (Geom.sizeG g < (im.size : Int)) = true := decide_eq_true hl
  generalize Geom.sizeG g = N at *
  obtain ⟨gp, gs, gr⟩ := g
  unfold Geom.gV at HR HB ⊢
  have HV := Lib.hid (Var.new w 23 [.int .i64 gp, .int .i64 gs, .int .i64 gr])
  have v0 := HV.out.cell (j := 0) rfl
  have v1 := HV.out.cell (j := 1) rfl
  have v2 := HV.out.cell (j := 2) rfl
  clear hr hl
  go_enter Tryz.func26, Tryz.ntmps26
  go_wp2_with (first
    | (go_at_call 57; (with_reducible refine (HR.out _).mono ?_); rintro e w3 ⟨rfl, hn3⟩; have u0 := (HV.out.below hn3 HV.out.lt).cell (j := 0) rfl; have u1 := (HV.out.below hn3 HV.out.lt).cell (j := 1) rfl; have u2 := (HV.out.below hn3 HV.out.lt).cell (j := 2) rfl)
    | (go_at_call 58; (with_reducible refine (HB.out _).mono ?_); rintro e w4 ⟨rfl, hn4⟩))
  go_ret2
  exact ⟨Geom.bel0 (Geom.bel0 (Geom.bel_alloc _ _) hn3) hn4, rfl⟩
set_option maxRecDepth 100000 in
set_option maxHeartbeats 4000000 in
theorem fNew_good (pg pgs rgs N : Nat) (hN : pg * pgs * rgs = N) (p0 : 32 ≤ pg) (p1 : pg ≤ 128) (s0 : 3 ≤ pgs) (s1 : pgs ≤ 10) (r0 : 4 ≤ rgs) (r1 : rgs ≤ 12) (im : ByteArray) (hi : im.size ≤ N) (w : World) :
    Calls Tryz.prog 26 #[Geom.gV ⟨pg, pgs, rgs⟩, .string im] w fun e w' => Below w.heap.size w w' ∧ ∃ p S, e = .returned (.tuple #[.pointer (some ⟨p, 0, none⟩), .int .i64 0]) ∧ FHas w' p (newD pg pgs rgs im.data.toList) S ∧ ∀ k, S k → w.heap.size ≤ k := by
  have hN1 : N ≤ 15360 := by rw [← hN]; exact Nat.mul_le_mul (Nat.mul_le_mul p1 s1) r1
  have hr : Geom.rightG ⟨pg, pgs, rgs⟩ = true := Geom.right_small.mpr ⟨by simp only; omega, by simp only; omega, by simp only; omega, by simp only; omega, by simp only; omega, by simp only; omega⟩
  have HR := Lib.hid (fun w => Geom.right_any ⟨pg, pgs, rgs⟩ w)
  have HB := Lib.hid (fun w => Geom.bytes_any ⟨pg, pgs, rgs⟩ w)
  rw [hr] at HR HB
  have hsz : Geom.sizeG ⟨pg, pgs, rgs⟩ = (N : Int) := by unfold Geom.sizeG; rw [← hN]; simp only [Int.natCast_mul]
  rw [hsz] at HB
  simp only [if_true] at HB
  have HK := Lib.hid (fun w => blanks_any N (by omega) w)
  have d1 : decide ((N : Int) < (im.size : Int)) = false := decide_eq_false (by omega)
  have d2 : decide (N < im.size) = false := decide_eq_false (by omega)
  have HIM := Lib.hid (newD_img pg pgs rgs im.data.toList hN (by simpa using hi))
  unfold Geom.gV at HR HB ⊢
  have HV := Lib.hid (Var.new w 23 [.int .i64 (pg : Int), .int .i64 (pgs : Int), .int .i64 (rgs : Int)])
  have v0 := HV.out.cell (j := 0) rfl
  have v1 := HV.out.cell (j := 1) rfl
  have v2 := HV.out.cell (j := 2) rfl
  clear hr hsz hN
  go_enter Tryz.func26, Tryz.ntmps26
  go_wp2_with (first
    | (go_at_call 57; (with_reducible refine (HR.out _).mono ?_); rintro e w3 ⟨rfl, hn3⟩; have u0 := (HV.out.below hn3 HV.out.lt).cell (j := 0) rfl; have u1 := (HV.out.below hn3 HV.out.lt).cell (j := 1) rfl; have u2 := (HV.out.below hn3 HV.out.lt).cell (j := 2) rfl)
    | (go_at_call 58; (with_reducible refine (HB.out _).mono ?_); rintro e w4 ⟨rfl, hn4⟩))
  have HB4 := Lib.hid (Geom.bel0 (Geom.bel0 (Geom.bel_alloc w (.cells #[.int .i64 (pg : Int), .int .i64 (pgs : Int), .int .i64 (rgs : Int)] 23)) hn3) hn4)
  have HV4 := Lib.hid (HV.out.below (bel2 hn3 hn4) HV.out.lt)
  clear v0 v1 v2 u0 u1 u2 hn3 hn4
  refine wp_region_tail 4 [17, 18, 19, 20] (fun w' => Below w4.heap.size w4 w') (NX [.agg #[.int .i64 (pg : Int), .int .i64 (pgs : Int), .int .i64 (rgs : Int)], .agg #[.int .i64 (pg : Int), .int .i64 (pgs : Int), .int .i64 (rgs : Int)], .int .i64 (N : Int)] w4.heap.size N) (by kernel_rfl) (by kernel_rfl) (by kernel_rfl) (by decide) rfl (by decide) (by simp) (NX.mono _ _ _) (Below.refl _ _).drew ?each ?tail
  case each =>
    simp only [List.take_succ_cons, List.take_zero, Each]
    refine ⟨?o0, ?o1, ?o2, ?o3, trivial⟩
    case o0 =>
      intro ys wx hBx hdeps
      have u0 := (HV4.out.below hBx HV4.out.lt).cell (j := 0) rfl
      have u1 := (HV4.out.below hBx HV4.out.lt).cell (j := 1) rfl
      have u2 := (HV4.out.below hBx HV4.out.lt).cell (j := 2) rfl
      clear hdeps
      simp only [fill, List.foldl_cons, List.foldl_nil, Act.put, List.setIfInBounds_toArray, List.set_cons_succ, List.set_cons_zero]
      go_wp2_with fail
      exact ⟨_, rfl, rfl, hBx, Below.refl _ _⟩
    case o1 =>
      intro ys wx hBx hdeps
      have u0 := (HV4.out.below hBx HV4.out.lt).cell (j := 0) rfl
      have u1 := (HV4.out.below hBx HV4.out.lt).cell (j := 1) rfl
      have u2 := (HV4.out.below hBx HV4.out.lt).cell (j := 2) rfl
      clear hdeps
      simp only [fill, List.foldl_cons, List.foldl_nil, Act.put, List.setIfInBounds_toArray, List.set_cons_succ, List.set_cons_zero]
      go_wp2_with fail
      exact ⟨_, rfl, rfl, hBx, Below.refl _ _⟩
    case o2 =>
      intro ys wx hBx hdeps
      simp only [Deps, Region.binds, List.getD_cons_zero, List.getD_cons_succ, forall_const, and_true, true_and] at hdeps
      have y1 : ys 18 = .agg #[.int .i64 (pg : Int), .int .i64 (pgs : Int), .int .i64 (rgs : Int)] := by first | exact hdeps | exact hdeps.1 | exact hdeps.2
      clear hdeps
      simp only [y1, fill, List.foldl_cons, List.foldl_nil, Act.put, List.setIfInBounds_toArray, List.set_cons_succ, List.set_cons_zero]
      go_wp2_with (go_at_call 58; (with_reducible refine (HB.out _).mono ?_); rintro e w3 ⟨rfl, hn3⟩)
      exact ⟨_, rfl, rfl, hBx.trans (hn3.mono hBx.size), hn3⟩
    case o3 =>
      intro ys wx hBx hdeps
      simp only [Deps, Region.binds, List.getD_cons_zero, List.getD_cons_succ, forall_const, and_true, true_and] at hdeps
      have y2 : ys 19 = .int .i64 (N : Int) := by first | exact hdeps | exact hdeps.1 | exact hdeps.2
      clear hdeps
      simp only [y2, fill, List.foldl_cons, List.foldl_nil, Act.put, List.setIfInBounds_toArray, List.set_cons_succ, List.set_cons_zero]
      go_wp2_with (go_at_call 59; (with_reducible refine (HK.out _).mono ?_); rintro e w3 ⟨⟨g0, c, rfl, hc, hrow, hg0, hg1⟩, hn3⟩)
      exact ⟨_, rfl, ⟨g0, c, rfl, hc, hrow, Nat.le_trans hBx.size hg0, hg1⟩, hBx.trans (hn3.mono hBx.size), hn3⟩
  case tail =>
    intro ys wx hBx hV
    have h17 : ys 17 = .agg #[.int .i64 (pg : Int), .int .i64 (pgs : Int), .int .i64 (rgs : Int)] := hV 0 (by decide)
    have h20 : ∃ g0 c, ys 20 = .slice (some ⟨g0, 0, none⟩) N c ∧ N ≤ c ∧ Row8 wx g0 (List.replicate N 255) ∧ w4.heap.size ≤ g0 ∧ g0 < wx.heap.size := hV 3 (by decide)
    with_reducible refine Exists.elim h20 ?_
    intro g0 h20
    with_reducible refine Exists.elim h20 ?_
    intro c hh
    have hg0 := hh.1
    have HC := Lib.hid hh.2.1
    have HRW := Lib.hid hh.2.2.1
    have HG := Lib.hid hh.2.2.2
    have HBx := Lib.hid (bel2 HB4.out hBx)
    clear hh h20 hV hBx
    have HVF := Lib.hid (Var.new wx 85 [.int .i64 (pg : Int), .int .i64 (pgs : Int), .int .i64 (rgs : Int), .slice (some ⟨g0, 0, none⟩) N c, .slice none 0 0, .bool false, .bool false, .int .i64 0])
    have z3 := HVF.out.cell (j := 3) rfl
    have HRA := Lib.hid (HRW.out.alloc (.cells #[.int .i64 (pg : Int), .int .i64 (pgs : Int), .int .i64 (rgs : Int), .slice (some ⟨g0, 0, none⟩) N c, .slice none 0 0, .bool false, .bool false, .int .i64 0] 85))
    with_reducible refine Exists.elim (copyS HRA.out 0 N c im hi (by simp)) ?_
    intro w9 h9
    have hcp := h9.1
    have HR9 := Lib.hid h9.2.1
    have HG9 := Lib.hid h9.2.2
    clear h9
    simp only [h17, hg0, fill, List.drop_succ_cons, List.drop_zero, List.foldl_cons, List.foldl_nil, Act.put, List.setIfInBounds_toArray, List.set_cons_succ, List.set_cons_zero]
    go_wp2
    go_ret2
    have hne : wx.heap.size ≠ g0 := by have := HG.out.2; omega
    have hB9 : Below w.heap.size w w9 := (HBx.out.alloc HBx.out.size _).trans (HG9.out.below (by have := HBx.out.size; simp; omega) (by rintro k rfl; have := HG.out.1; have := HB4.out.size; omega))
    refine ⟨hB9, wx.heap.size, footF wx.heap.size g0 (.slice none 0 0) [], rfl, ⟨g0, c, .slice none 0 0, 0, [], ⟨?_, ?_, ?_, ⟨rfl, .inl ⟨rfl, rfl⟩⟩, rfl, fun x hx => by simp at hx, by simp [newD], by omega, ?_, Ne.symm hne, by simp [Value.ownBlock], by simp [Value.ownBlock]⟩, rfl⟩, ?_⟩
    · have hl : (newD pg pgs rgs im.data.toList).img.length = N := by
        have := HIM.out
        rw [← this, over_length (by simpa using hi), List.length_replicate]
      rw [hl]
      exact HG9.out.var HVF.out (by exact hne)
    · rw [← HIM.out]; exact HR9.out
    · have := HG.out.2; have := HG9.out.size; simp at this; omega
    · have := HIM.out
      rw [← this, over_length (by simpa using hi), List.length_replicate]; exact HC.out
    · rintro k (rfl | rfl | hk | ⟨x, hx, _⟩)
      · exact HBx.out.size
      · have := HG.out.1; have := HB4.out.size; omega
      · simp [Value.ownBlock] at hk
      · simp at hx
theorem fNew_any (g : Geom.Gm) (im : ByteArray) (w : World) : Calls Tryz.prog 26 #[Geom.gV g, .string im] w fun e w' => Below w.heap.size w w' ∧
    if Geom.rightG g = true ∧ (im.size : Int) ≤ Geom.sizeG g then ∃ p S, e = .returned (.tuple #[.pointer (some ⟨p, 0, none⟩), .int .i64 0]) ∧ FHas w' p (newD g.page.toNat g.pages.toNat g.regions.toNat im.data.toList) S ∧ ∀ k, S k → w.heap.size ≤ k
    else e = .returned (.tuple #[.pointer none, .int .i64 1]) := by
  rcases hr : Geom.rightG g with _ | _
  · simp only [Bool.false_eq_true, false_and, if_false]
    exact fNew_wrong g im w hr
  · by_cases hl : (im.size : Int) ≤ Geom.sizeG g
    · simp only [hl, and_self, if_true]
      obtain ⟨p0, p1, s0, s1, r0, r1⟩ := Geom.right_small.mp hr
      obtain ⟨gp, gs, gr⟩ := g
      simp only at p0 p1 s0 s1 r0 r1
      obtain ⟨pg, rfl⟩ : ∃ k : Nat, gp = (k : Int) := ⟨gp.toNat, by omega⟩
      obtain ⟨pgs, rfl⟩ : ∃ k : Nat, gs = (k : Int) := ⟨gs.toNat, by omega⟩
      obtain ⟨rgs, rfl⟩ : ∃ k : Nat, gr = (k : Int) := ⟨gr.toNat, by omega⟩
      simp only [Int.toNat_natCast]
      have hs : Geom.sizeG ⟨pg, pgs, rgs⟩ = ((pg * pgs * rgs : Nat) : Int) := by unfold Geom.sizeG; simp only [Int.natCast_mul]
      rw [hs] at hl
      exact fNew_good pg pgs rgs _ rfl (by omega) (by omega) (by omega) (by omega) (by omega) (by omega) im (by omega) w
    · simp only [hl, and_false, if_false]
      exact fNew_long g im w hr (by omega)
end Go.Proofs.YtcmjambbdfangaaGreat.Flash
