/-
  The landed device: what is pending is ended (settle); Flush, Crash.
-/
import Derived.Test.YtgcbdekdjdlfaaaFlashXd
import Derived.Test.YtgcbdekdjdlfaaaFlashY
set_option linter.unusedVariables false
set_option linter.unusedSimpArgs false
namespace Go.Proofs.Ytgcbdekdjdlfaaa.Flash
open Go.RowKit
open Go.Proofs.Ytgcbdekdjdlfaaa.Own
open Tup Bytes Foot
open Go.Proofs.Ytgcbdekdjdlfaaa.Region (fill Then Deps Each wp_region_is wp_region_is_tail)

theorem setCells_row {B : Nat} {w : World} {l : List UInt8} (h : Row8 w B l) : ∀ (bs : List UInt8) (P : Nat), P + bs.length ≤ l.length → Row8 (w.setCells B P (bs.map fun c => .int .u8 (c.toNat : Int))) B (over l P bs) ∧ Grows (· = B) w (w.setCells B P (bs.map fun c => .int .u8 (c.toNat : Int)))
  | [], P, _ => by rw [over_nil]; exact ⟨h, Grows.refl _ _⟩
  | c :: r, P, hl => by
    have hl' : P + r.length + 1 ≤ l.length := by simpa [Nat.add_assoc] using hl
    have h1 := h.set P c (by omega)
    obtain ⟨i1, i2⟩ := setCells_row h1 r (P + 1) (by rw [List.length_set]; omega)
    have e : over (l.set P c) (P + 1) r = over l P (c :: r) := by
      unfold over
      have hP : P < l.length := by omega
      rw [List.take_succ_eq_append_getElem (by rw [List.length_set]; exact hP), List.getElem_set_self, List.take_set_of_le (Nat.le_refl _), List.drop_set_of_lt (by omega)]
      simp only [List.append_assoc, List.singleton_append, List.length_cons]
      rw [show P + 1 + r.length = P + (r.length + 1) by omega]
    rw [e] at i1
    exact ⟨i1, (Grows.set (S := (· = B)) w ⟨B, P, none⟩ _ rfl).trans i2 (fun _ h => .inl h)⟩
theorem info8s : (Try.prog.info? 5).map (·.size) = some 1 := by kernel_rfl
/-- bytes go over into the device's -/
theorem copy8 {w : World} {B B2 : Nat} {l l2 : List UInt8} (h : Row8 w B l) (h2 : Row8 w B2 l2) (P n c m c2 : Nat) (hn : m ≤ n) (hm : m ≤ l2.length) (hP : P + n ≤ l.length) (ty : TypeId) :
    (Builtin.copy_ #[61, 61] ty #[.slice (some ⟨B, P, none⟩) n c, .slice (some ⟨B2, 0, none⟩) m c2]).run Try.prog w = .ok (goInt m) (w.setCells B P ((l2.take m).map fun c => .int .u8 (c.toNat : Int))) := by
  have hlen : ((l2.take m).map fun c : UInt8 => Value.int .u8 (c.toNat : Int)).length = m := by rw [List.length_map, List.length_take]; omega
  have := run_copy_cells (P := Try.prog) w 61 61 ty 5 B P n c ⟨B2, 0, none⟩ m c2 ((l2.take m).map fun c => .int .u8 (c.toNat : Int)) Try.underlying61 info8s
    (by rw [hlen]; exact (Nat.min_eq_left hn).symm)
    (fun j v hj => by
      have hjm : j < m := by rw [← hlen]; exact (List.getElem?_eq_some_iff.1 hj).1
      have := (h2 j (by omega)).1
      rw [show (⟨B2, 0, none⟩ : Addr).add j = ⟨B2, j, none⟩ by unfold Addr.add; split <;> simp_all]
      rw [this]
      rw [List.getElem?_map, List.getElem?_take_of_lt hjm] at hj
      rw [List.getD_eq_getElem?_getD]
      cases hx : l2[j]? with
      | none => rw [hx] at hj; simp at hj
      | some y => rw [hx] at hj; simpa using hj)
    (fun j hj => by rw [hlen] at hj; rw [(h (P + j) (by omega)).1]; rfl)
    (fun j hj => by rw [hlen] at hj; exact (h (P + j) (by omega)).2)
    (fun v hv => by obtain ⟨c, _, rfl⟩ := List.mem_map.1 hv; rfl)
  rw [hlen] at this
  exact this
theorem copy8w {w : World} {B B2 : Nat} {l l2 : List UInt8} (h : Row8 w B l) (h2 : Row8 w B2 l2) (P n c m c2 : Nat) (hn : m ≤ n) (hm : m ≤ l2.length) (hP : P + n ≤ l.length) :
    ∃ w9, (∀ ty, (Builtin.copy_ #[61, 61] ty #[.slice (some ⟨B, P, none⟩) n c, .slice (some ⟨B2, 0, none⟩) m c2]).run Try.prog w = .ok (goInt m) w9) ∧ Row8 w9 B (over l P (l2.take m)) ∧ Grows (· = B) w w9 := by
  obtain ⟨a, b⟩ := setCells_row h (l2.take m) P (by rw [List.length_take]; omega)
  exact ⟨_, fun ty => copy8 h h2 P n c m c2 hn hm hP ty, a, b⟩
/-- bytes of the image are turned alone -/
theorem FAt.turnB {w w' : World} {p : Nat} {d : Dev} {bB cap : Nat} {wv : Value} {fz : Nat} {E : List Ent} (h : FAt w p d bB cap wv fz E) {im : List UInt8} (hl : im.length = d.img.length) (hr : Row8 w' bB im) (g : Grows (· = bB) w w') : FAt w' p { d with img := im } bB cap wv fz E := by
  refine ⟨?_, hr, Nat.lt_of_lt_of_le h.lt g.size, owns_grows h.wait g (fun k hk e => h.ne3 (by rw [← e]; exact hk)), h.ents, fun x hx => ?_, h.fuz, h.fuz0, by simp only [hl]; exact h.capl, h.ne1, h.ne2, h.ne3⟩
  · have := g.var h.var (fun e => h.ne1 e.symm)
    simp only [hl]
    exact this
  · obtain ⟨a, b, c, u, v, z⟩ := h.rows x hx
    exact ⟨a.grows g v, b, Nat.lt_of_lt_of_le c g.size, u, v, z⟩
/-- nothing is pending any more -/
theorem FAt.clear {w : World} {p : Nat} {d : Dev} {bB cap : Nat} {wv : Value} {fz : Nat} {E : List Ent} (h : FAt w p d bB cap wv fz E) : FAt (w.setCell ⟨p, 4, none⟩ (.slice none 0 0)) p { d with wait := [] } bB cap (.slice none 0 0) fz [] := by
  have g : Grows (· = p) w (w.setCell ⟨p, 4, none⟩ (.slice none 0 0)) := Grows.set _ _ _ rfl
  exact ⟨h.var.set 4 _, h.row.grows g h.ne1, Nat.lt_of_lt_of_le h.lt g.size, ⟨rfl, .inl ⟨rfl, rfl⟩⟩, rfl, fun x hx => by simp at hx, h.fuz, h.fuz0, h.capl, h.ne1, by simp [Value.ownBlock], by simp [Value.ownBlock]⟩
/-- what is ended, page by page -/
def settleI (d : Dev) (ks : Nat → Nat) (k : Nat) : List UInt8 := (d.wait.zipIdx.take k).foldl (fun im x => over im (x.1.1 * d.pg) (x.1.2.take (ks x.2))) d.img
theorem settleI_succ {d : Dev} {ks : Nat → Nat} {k : Nat} (hk : k < d.wait.length) : settleI d ks (k + 1) = over (settleI d ks k) (d.wait[k].1 * d.pg) (d.wait[k].2.take (ks k)) := by
  unfold settleI
  rw [List.take_succ_eq_append_getElem (by simpa using hk), List.foldl_append]
  simp
theorem settle_len (pg : Nat) (ks : Nat → Nat) (hks : ∀ i, ks i ≤ pg) : ∀ (l : List ((Nat × List UInt8) × Nat)) (im : List UInt8), (∀ x ∈ l, x.1.1 * pg + pg ≤ im.length ∧ x.1.2.length = pg) →
    (l.foldl (fun im x => over im (x.1.1 * pg) (x.1.2.take (ks x.2))) im).length = im.length
  | [], _, _ => rfl
  | x :: r, im, h => by
    have hx := h x (List.mem_cons_self ..)
    have h0 : (over im (x.1.1 * pg) (x.1.2.take (ks x.2))).length = im.length := over_length (by
      have := hks x.2
      rw [List.length_take]; omega)
    rw [List.foldl_cons, settle_len pg ks hks r _ (fun y hy => by rw [h0]; exact h y (List.mem_cons_of_mem _ hy)), h0]
theorem settleI_len {d : Dev} (h : d.Ok) {ks : Nat → Nat} (hks : ∀ i, ks i ≤ d.pg) (k : Nat) : (settleI d ks k).length = d.img.length :=
  settle_len d.pg ks hks _ d.img (fun x hx => by
    have hx := List.mem_of_mem_take hx
    have hm : x.1 ∈ d.wait := by
      obtain ⟨y, i⟩ := x
      exact (List.mem_zipIdx hx).2.2 ▸ List.getElem_mem _
    have := h.wait x.1 hm
    exact ⟨h.page this.1, this.2⟩)
theorem settle_crash (d : Dev) (mask : List Int) : settleI d (fun i => tornN d.pg (mask.getD i 0)) d.wait.length = crashI d mask d.wait.length := rfl
theorem settle_all {d : Dev} (h : d.Ok) : ∀ k, k ≤ d.wait.length → settleI d (fun _ => d.pg) k = (d.wait.take k).foldl (fun im x => over im (x.1 * d.pg) x.2) d.img
  | 0, _ => rfl
  | k + 1, hk => by
    rw [settleI_succ (by omega), settle_all h k (by omega), List.take_succ_eq_append_getElem (by omega), List.foldl_append]
    have := (h.wait _ (List.getElem_mem (show k < d.wait.length by omega))).2
    have e : d.wait[k].2.take d.pg = d.wait[k].2 := List.take_of_length_le (by omega)
    rw [e]; rfl
theorem copy_len {ks : Nat → Nat} (b : List UInt8) (k n : Nat) (h : ks k ≤ n) (hb : b.length = n) : (b.take (ks k)).length = ks k := by rw [List.length_take]; omega
set_option maxRecDepth 100000 in
set_option maxHeartbeats 8000000 in
theorem settleF_any {w : World} {p : Nat} {d : Dev} {bB cap : Nat} {wv : Value} {fz : Nat} {E : List Ent} (h : FAt w p d bB cap wv fz E) (hd : d.Ok) (ks : Nat → Nat) (hks : ∀ i, ks i ≤ d.pg) (x y : Nat)
    (hK : ∀ (wx : World) (i : Nat), i < d.wait.length → Grows (· = bB) w wx → (∃ im, FAt wx p { d with img := im } bB cap wv fz E) → Calls Try.prog 51 #[.int .i64 (i : Int), .pointer (some ⟨x, 0, none⟩)] wx fun e w' => e = .returned (.int .i64 (ks i : Int)) ∧ Below wx.heap.size wx w') :
    Calls Try.prog 50 #[ptr p, .func (.func 51) #[] #[.pointer (some ⟨x, 0, none⟩)]] w fun e w' => e = .returned (.tuple #[]) ∧ FAt w' p { d with img := settleI d ks d.wait.length, wait := [] } bB cap (.slice none 0 0) fz [] ∧ Grows (fun k => k = p ∨ k = bB) w w' := by
  obtain ⟨a, c, rfl⟩ := h.slice
  have c4 := h.var.cell (j := 4) rfl
  have hn := hd.wait_le
  have hEL := h.wlen
  have hp0 := hd.p0
  have hp1 := hd.p1
  have HLEN := Lib.hid (fun k => settleI_len hd hks k)
  have HX := Lib.hid (fun k (hk : k < d.wait.length) => settleI_succ (ks := ks) hk)
  have HWK := Lib.hid (fun k (hk : k < d.wait.length) => hd.wait d.wait[k] (List.getElem_mem hk))
  have HPG := Lib.hid (fun q (hq : q < d.n) => hd.page hq)
  have HST := Lib.hid (fun (wx : World) (im : List UInt8) (him : im.length = d.img.length) (hR : FAt wx p { d with img := im } bB cap (.slice a E.length c) fz E) q (hq : q < d.n) => atStands_any hR (hd.image him) q hq)
  have HK := Lib.hid hK
  have HKS := Lib.hid hks
  have HA0 := Lib.hid h
  unfold ptr at HST ⊢
  simp only at HST
  obtain ⟨L, hL⟩ : ∃ L, E.length = L := ⟨_, rfl⟩
  rw [hL] at c4 hEL
  have HL := Lib.hid hL
  have HW := Lib.hid hEL
  rw [← hEL] at hn
  clear h hd hK hL hEL hks
  go_enter Try.func50, Try.ntmps50
  go_wp2
  go_loopw [11] (fun i wr => ∃ k : Nat, i = .int .i64 (k : Int) ∧ k ≤ L ∧ Grows (· = bB) w wr ∧ FAt wr p { d with img := settleI d ks k } bB cap (.slice a E.length c) fz E) (fun i _ => L - (intOf i).toNat)
  case atStart => exact ⟨0, rfl, Nat.zero_le _, Grows.refl _ _, HA0.out⟩
  case round =>
    obtain ⟨k, rfl, hk, hG, hR⟩ := hrel
    have HGr := Lib.hid hG
    have HAr := Lib.hid hR
    clear c4 HA0
    by_cases hlt : k < L
    · have hkE : k < E.length := by rw [HL.out]; exact hlt
      have hkl : k < d.wait.length := by rw [← HW.out]; exact hlt
      obtain ⟨hkl2, hke⟩ := hR.ent hkE
      simp only at hke
      obtain ⟨g, ha, e0, e1⟩ := hR.pend hkE
      subst ha
      have hb0 : g < wr.heap.size := block_lt_of_cell e0
      have d1 : decide ((k : Int) < (L : Int)) = true := by simp; omega
      have d2 : decide (k < L) = true := by simp; omega
      have hrow := hR.rows E[k] (List.getElem_mem hkE)
      have HXk := Lib.hid (HX.out k hkl)
      have hwk := HWK.out k hkl
      rw [hke] at HXk hwk
      obtain ⟨yq, yb, yg, yc, hy⟩ : ∃ yq yb yg yc, E[k] = ⟨yq, yb, yg, yc⟩ := ⟨_, _, _, _, rfl⟩
      rw [hy] at e0 e1 hrow HXk hwk
      simp only [entW] at e0 e1 hrow HXk hwk
      obtain ⟨hq, hyl⟩ := hwk
      have hpg := HPG.out yq hq
      have hkk := HKS.out k
      have hsl := slice8h (L := yb.length) (off := 0) (cap := yc) yg (show ks k ≤ yc by have := hrow.2.1; omega) _ rfl
      have HROW := Lib.hid hrow
      have HQ := Lib.hid hq
      have HKL := Lib.hid hkl
      have HEM := Lib.hid (show (⟨yq, yb, yg, yc⟩ : Ent) ∈ E by rw [← hy]; exact List.getElem_mem hkE)
      have HV0 := Lib.hid (Var.new wr 74 [.int .i64 (yq : Int), .slice (some ⟨yg, 0, none⟩) yb.length yc])
      have HA1 := Lib.hid (hR.below (Geom.bel_alloc wr (.cells #[.int .i64 (yq : Int), .slice (some ⟨yg, 0, none⟩) yb.length yc] 74)))
      have HB1 := Lib.hid (HGr.out.trans (Grows.alloc (· = bB) wr (.cells #[.int .i64 (yq : Int), .slice (some ⟨yg, 0, none⟩) yb.length yc] 74)) (fun _ h => .inl h))
      have HPGE := Lib.hid (show yq * d.pg + d.pg ≤ (settleI d ks k).length by rw [HLEN.out]; exact hpg)
      have HYL := Lib.hid hyl
      have HNL := Lib.hid (copy_len (ks := ks) yb k d.pg hkk hyl)
      clear hR hG hrow hq hkl hkl2 hke hy hkE hpg
      rw [hyl] at hsl e1
      rw [hyl] at HV0 HA1 HB1
      go_wp2
      obtain ⟨w1, hw1⟩ : ∃ w1, w1 = wr.alloc (.cells #[.int .i64 (yq : Int), .slice (some ⟨yg, 0, none⟩) d.pg yc] 74) := ⟨_, rfl⟩
      rw [← hw1] at HV0 HA1 HB1 ⊢
      have HW1 := Lib.hid hw1
      clear hw1
      refine wp_region_is_tail 10 [16, 17, 18, 19, 20, 21, 22, 23, 24, 25] (fun w' => Below w1.heap.size w1 w')
        [.pointer (some ⟨p, 0, none⟩), .pointer (some ⟨wr.heap.size, 0, none⟩), .int .i64 (yq : Int), .slice (some ⟨bB, yq * d.pg, none⟩) d.pg (cap - yq * d.pg), .pointer (some ⟨wr.heap.size, 1, none⟩), .slice (some ⟨yg, 0, none⟩) d.pg yc, .func (.func 51) #[] #[.pointer (some ⟨x, 0, none⟩)], .int .i64 (k : Int), .int .i64 (ks k : Int), .slice (some ⟨yg, 0, none⟩) (ks k) yc] (by kernel_rfl) (by kernel_rfl) (by kernel_rfl) (by decide) rfl (by decide) (by simp) (Below.refl _ _).drew ?each ?done
      case each =>
        simp only [List.take_succ_cons, List.take_zero, Each]
        repeat' (first | exact trivial | refine And.intro ?_ ?_)
        all_goals
          intro ys wx hBx hdeps
          simp only [Deps, Region.binds, List.getD_cons_zero, List.getD_cons_succ, forall_const, and_true] at hdeps
          have b0 : wx.cell? ⟨wr.heap.size, 0, none⟩ = some (.int .i64 (yq : Int)) := (HV0.out.below hBx HV0.out.lt).cell (j := 0) rfl
          have b1 : wx.cell? ⟨wr.heap.size, 1, none⟩ = some (.slice (some ⟨yg, 0, none⟩) d.pg yc) := (HV0.out.below hBx HV0.out.lt).cell (j := 1) rfl
          simp only [hdeps, fill, List.foldl_cons, List.foldl_nil, Act.put, List.setIfInBounds_toArray, List.set_cons_succ, List.set_cons_zero]
          first
            | (go_wp2_with fail; exact ⟨_, rfl, rfl, hBx, Below.refl _ _⟩)
            | (go_wp2_with (go_at_call 48; (with_reducible refine (HST.out wx _ (HLEN.out k) (HA1.out.below hBx) yq HQ.out).mono ?_); rintro e w3 ⟨rfl, k3, rfl⟩); exact ⟨_, rfl, rfl, hBx.trans ((below_drewN _ k3).mono hBx.size), (below_drewN _ k3)⟩)
            | (go_wp2_with (go_at_call 51; (with_reducible refine (HK.out wx k HKL.out (HB1.out.trans (Grows.of_below hBx) (fun _ h => .inl h)) ⟨_, HA1.out.below hBx⟩).mono ?_); rintro e w3 ⟨rfl, hn3⟩); exact ⟨_, rfl, rfl, hBx.trans (hn3.mono hBx.size), hn3⟩)
      case done =>
        intro ys wx hBx hV
        have h19 : ys 19 = .slice (some ⟨bB, yq * d.pg, none⟩) d.pg (cap - yq * d.pg) := hV 3 (by decide)
        have h25 : ys 25 = .slice (some ⟨yg, 0, none⟩) (ks k) yc := hV 9 (by decide)
        have hRx := HA1.out.below hBx
        have hro := HROW.out.1
        have hrx : Row8 wx yg yb := (hRx.rows ⟨yq, yb, yg, yc⟩ (by have := HEM.out; exact this)).1
        obtain ⟨w9, hcp, hr9, hg9⟩ := copy8w hRx.row hrx (yq * d.pg) d.pg (cap - yq * d.pg) (ks k) yc (HKS.out k) (by rw [HYL.out]; exact HKS.out k) HPGE.out
        have HT := Lib.hid (hRx.turnB (over_length (by show _ ≤ (settleI d ks k).length; have := HNL.out; have := HKS.out k; have := HPGE.out; omega)) hr9 hg9)
        have HGG := Lib.hid (HB1.out.trans ((Grows.of_below hBx).trans hg9 (fun _ h => .inl h)) (fun _ h => .inl h))
        clear hRx hro hrx hBx hV hr9 hg9
        simp only [h19, h25, fill, List.drop_succ_cons, List.drop_zero, List.foldl_cons, List.foldl_nil, Act.put, List.setIfInBounds_toArray, List.set_cons_succ, List.set_cons_zero]
        go_wp2
        refine ⟨⟨k + 1, by go_num, by omega, HGG.out, ?_⟩, by simp [intOf]; omega⟩
        have hT := HT.out
        simp only at hT
        rw [HXk.out]; exact hT
    · obtain rfl : k = L := by omega
      have d1 : decide ((k : Int) < (k : Int)) = false := by simp
      have f4 := hR.var.frozen 4
      have c4 := hR.var.cell (j := 4) rfl
      have HC := Lib.hid hR.clear
      have HG := Lib.hid (show Grows (fun k => k = p ∨ k = bB) w (wr.setCell ⟨p, 4, none⟩ (.slice none 0 0)) from (hG.mono (fun _ h => .inr h)).trans (Grows.set (S := (· = p)) _ _ _ rfl) (fun _ h => .inl (.inl h)))
      clear hR hG
      go_wp2
      refine bodyPost_end (results_none rfl _ _ _) rfl ?_
      rw [← HW.out]
      exact ⟨rfl, HC.out, HG.out⟩
set_option maxRecDepth 100000 in
set_option maxHeartbeats 8000000 in
theorem settleC_any {w : World} {p : Nat} {d : Dev} {bB cap : Nat} {wv : Value} {fz : Nat} {E : List Ent} (h : FAt w p d bB cap wv fz E) (hd : d.Ok) (ks : Nat → Nat) (hks : ∀ i, ks i ≤ d.pg) (x y : Nat)
    (hK : ∀ (wx : World) (i : Nat), i < d.wait.length → Grows (· = bB) w wx → (∃ im, FAt wx p { d with img := im } bB cap wv fz E) → Calls Try.prog 52 #[.int .i64 (i : Int), .pointer (some ⟨x, 0, none⟩), .pointer (some ⟨y, 0, none⟩)] wx fun e w' => e = .returned (.int .i64 (ks i : Int)) ∧ Below wx.heap.size wx w') :
    Calls Try.prog 50 #[ptr p, .func (.func 52) #[] #[.pointer (some ⟨x, 0, none⟩), .pointer (some ⟨y, 0, none⟩)]] w fun e w' => e = .returned (.tuple #[]) ∧ FAt w' p { d with img := settleI d ks d.wait.length, wait := [] } bB cap (.slice none 0 0) fz [] ∧ Grows (fun k => k = p ∨ k = bB) w w' := by
  obtain ⟨a, c, rfl⟩ := h.slice
  have c4 := h.var.cell (j := 4) rfl
  have hn := hd.wait_le
  have hEL := h.wlen
  have hp0 := hd.p0
  have hp1 := hd.p1
  have HLEN := Lib.hid (fun k => settleI_len hd hks k)
  have HX := Lib.hid (fun k (hk : k < d.wait.length) => settleI_succ (ks := ks) hk)
  have HWK := Lib.hid (fun k (hk : k < d.wait.length) => hd.wait d.wait[k] (List.getElem_mem hk))
  have HPG := Lib.hid (fun q (hq : q < d.n) => hd.page hq)
  have HST := Lib.hid (fun (wx : World) (im : List UInt8) (him : im.length = d.img.length) (hR : FAt wx p { d with img := im } bB cap (.slice a E.length c) fz E) q (hq : q < d.n) => atStands_any hR (hd.image him) q hq)
  have HK := Lib.hid hK
  have HKS := Lib.hid hks
  have HA0 := Lib.hid h
  unfold ptr at HST ⊢
  simp only at HST
  obtain ⟨L, hL⟩ : ∃ L, E.length = L := ⟨_, rfl⟩
  rw [hL] at c4 hEL
  have HL := Lib.hid hL
  have HW := Lib.hid hEL
  rw [← hEL] at hn
  clear h hd hK hL hEL hks
  go_enter Try.func50, Try.ntmps50
  go_wp2
  go_loopw [11] (fun i wr => ∃ k : Nat, i = .int .i64 (k : Int) ∧ k ≤ L ∧ Grows (· = bB) w wr ∧ FAt wr p { d with img := settleI d ks k } bB cap (.slice a E.length c) fz E) (fun i _ => L - (intOf i).toNat)
  case atStart => exact ⟨0, rfl, Nat.zero_le _, Grows.refl _ _, HA0.out⟩
  case round =>
    obtain ⟨k, rfl, hk, hG, hR⟩ := hrel
    have HGr := Lib.hid hG
    have HAr := Lib.hid hR
    clear c4 HA0
    by_cases hlt : k < L
    · have hkE : k < E.length := by rw [HL.out]; exact hlt
      have hkl : k < d.wait.length := by rw [← HW.out]; exact hlt
      obtain ⟨hkl2, hke⟩ := hR.ent hkE
      simp only at hke
      obtain ⟨g, ha, e0, e1⟩ := hR.pend hkE
      subst ha
      have hb0 : g < wr.heap.size := block_lt_of_cell e0
      have d1 : decide ((k : Int) < (L : Int)) = true := by simp; omega
      have d2 : decide (k < L) = true := by simp; omega
      have hrow := hR.rows E[k] (List.getElem_mem hkE)
      have HXk := Lib.hid (HX.out k hkl)
      have hwk := HWK.out k hkl
      rw [hke] at HXk hwk
      obtain ⟨yq, yb, yg, yc, hy⟩ : ∃ yq yb yg yc, E[k] = ⟨yq, yb, yg, yc⟩ := ⟨_, _, _, _, rfl⟩
      rw [hy] at e0 e1 hrow HXk hwk
      simp only [entW] at e0 e1 hrow HXk hwk
      obtain ⟨hq, hyl⟩ := hwk
      have hpg := HPG.out yq hq
      have hkk := HKS.out k
      have hsl := slice8h (L := yb.length) (off := 0) (cap := yc) yg (show ks k ≤ yc by have := hrow.2.1; omega) _ rfl
      have HROW := Lib.hid hrow
      have HQ := Lib.hid hq
      have HKL := Lib.hid hkl
      have HEM := Lib.hid (show (⟨yq, yb, yg, yc⟩ : Ent) ∈ E by rw [← hy]; exact List.getElem_mem hkE)
      have HV0 := Lib.hid (Var.new wr 74 [.int .i64 (yq : Int), .slice (some ⟨yg, 0, none⟩) yb.length yc])
      have HA1 := Lib.hid (hR.below (Geom.bel_alloc wr (.cells #[.int .i64 (yq : Int), .slice (some ⟨yg, 0, none⟩) yb.length yc] 74)))
      have HB1 := Lib.hid (HGr.out.trans (Grows.alloc (· = bB) wr (.cells #[.int .i64 (yq : Int), .slice (some ⟨yg, 0, none⟩) yb.length yc] 74)) (fun _ h => .inl h))
      have HPGE := Lib.hid (show yq * d.pg + d.pg ≤ (settleI d ks k).length by rw [HLEN.out]; exact hpg)
      have HYL := Lib.hid hyl
      have HNL := Lib.hid (copy_len (ks := ks) yb k d.pg hkk hyl)
      clear hR hG hrow hq hkl hkl2 hke hy hkE hpg
      rw [hyl] at hsl e1
      rw [hyl] at HV0 HA1 HB1
      go_wp2
      obtain ⟨w1, hw1⟩ : ∃ w1, w1 = wr.alloc (.cells #[.int .i64 (yq : Int), .slice (some ⟨yg, 0, none⟩) d.pg yc] 74) := ⟨_, rfl⟩
      rw [← hw1] at HV0 HA1 HB1 ⊢
      have HW1 := Lib.hid hw1
      clear hw1
      refine wp_region_is_tail 10 [16, 17, 18, 19, 20, 21, 22, 23, 24, 25] (fun w' => Below w1.heap.size w1 w')
        [.pointer (some ⟨p, 0, none⟩), .pointer (some ⟨wr.heap.size, 0, none⟩), .int .i64 (yq : Int), .slice (some ⟨bB, yq * d.pg, none⟩) d.pg (cap - yq * d.pg), .pointer (some ⟨wr.heap.size, 1, none⟩), .slice (some ⟨yg, 0, none⟩) d.pg yc, .func (.func 52) #[] #[.pointer (some ⟨x, 0, none⟩), .pointer (some ⟨y, 0, none⟩)], .int .i64 (k : Int), .int .i64 (ks k : Int), .slice (some ⟨yg, 0, none⟩) (ks k) yc] (by kernel_rfl) (by kernel_rfl) (by kernel_rfl) (by decide) rfl (by decide) (by simp) (Below.refl _ _).drew ?each ?done
      case each =>
        simp only [List.take_succ_cons, List.take_zero, Each]
        repeat' (first | exact trivial | refine And.intro ?_ ?_)
        all_goals
          intro ys wx hBx hdeps
          simp only [Deps, Region.binds, List.getD_cons_zero, List.getD_cons_succ, forall_const, and_true] at hdeps
          have b0 : wx.cell? ⟨wr.heap.size, 0, none⟩ = some (.int .i64 (yq : Int)) := (HV0.out.below hBx HV0.out.lt).cell (j := 0) rfl
          have b1 : wx.cell? ⟨wr.heap.size, 1, none⟩ = some (.slice (some ⟨yg, 0, none⟩) d.pg yc) := (HV0.out.below hBx HV0.out.lt).cell (j := 1) rfl
          simp only [hdeps, fill, List.foldl_cons, List.foldl_nil, Act.put, List.setIfInBounds_toArray, List.set_cons_succ, List.set_cons_zero]
          first
            | (go_wp2_with fail; exact ⟨_, rfl, rfl, hBx, Below.refl _ _⟩)
            | (go_wp2_with (go_at_call 48; (with_reducible refine (HST.out wx _ (HLEN.out k) (HA1.out.below hBx) yq HQ.out).mono ?_); rintro e w3 ⟨rfl, k3, rfl⟩); exact ⟨_, rfl, rfl, hBx.trans ((below_drewN _ k3).mono hBx.size), (below_drewN _ k3)⟩)
            | (go_wp2_with (go_at_call 52; (with_reducible refine (HK.out wx k HKL.out (HB1.out.trans (Grows.of_below hBx) (fun _ h => .inl h)) ⟨_, HA1.out.below hBx⟩).mono ?_); rintro e w3 ⟨rfl, hn3⟩); exact ⟨_, rfl, rfl, hBx.trans (hn3.mono hBx.size), hn3⟩)
      case done =>
        intro ys wx hBx hV
        have h19 : ys 19 = .slice (some ⟨bB, yq * d.pg, none⟩) d.pg (cap - yq * d.pg) := hV 3 (by decide)
        have h25 : ys 25 = .slice (some ⟨yg, 0, none⟩) (ks k) yc := hV 9 (by decide)
        have hRx := HA1.out.below hBx
        have hro := HROW.out.1
        have hrx : Row8 wx yg yb := (hRx.rows ⟨yq, yb, yg, yc⟩ (by have := HEM.out; exact this)).1
        obtain ⟨w9, hcp, hr9, hg9⟩ := copy8w hRx.row hrx (yq * d.pg) d.pg (cap - yq * d.pg) (ks k) yc (HKS.out k) (by rw [HYL.out]; exact HKS.out k) HPGE.out
        have HT := Lib.hid (hRx.turnB (over_length (by show _ ≤ (settleI d ks k).length; have := HNL.out; have := HKS.out k; have := HPGE.out; omega)) hr9 hg9)
        have HGG := Lib.hid (HB1.out.trans ((Grows.of_below hBx).trans hg9 (fun _ h => .inl h)) (fun _ h => .inl h))
        clear hRx hro hrx hBx hV hr9 hg9
        simp only [h19, h25, fill, List.drop_succ_cons, List.drop_zero, List.foldl_cons, List.foldl_nil, Act.put, List.setIfInBounds_toArray, List.set_cons_succ, List.set_cons_zero]
        go_wp2
        refine ⟨⟨k + 1, by go_num, by omega, HGG.out, ?_⟩, by simp [intOf]; omega⟩
        have hT := HT.out
        simp only at hT
        rw [HXk.out]; exact hT
    · obtain rfl : k = L := by omega
      have d1 : decide ((k : Int) < (k : Int)) = false := by simp
      have f4 := hR.var.frozen 4
      have c4 := hR.var.cell (j := 4) rfl
      have HC := Lib.hid hR.clear
      have HG := Lib.hid (show Grows (fun k => k = p ∨ k = bB) w (wr.setCell ⟨p, 4, none⟩ (.slice none 0 0)) from (hG.mono (fun _ h => .inr h)).trans (Grows.set (S := (· = p)) _ _ _ rfl) (fun _ h => .inl (.inl h)))
      clear hR hG
      go_wp2
      refine bodyPost_end (results_none rfl _ _ _) rfl ?_
      rw [← HW.out]
      exact ⟨rfl, HC.out, HG.out⟩
end Go.Proofs.Ytgcbdekdjdlfaaa.Flash
