/-
  Joined texts: FlashE, FlashN.
-/
import Derived.Test.YtcmjambbdfangaaGreatRunFlashW
/-
  What the document's own device answers to Erase.
-/
set_option linter.unusedVariables false
set_option linter.unusedSimpArgs false
namespace Go.Proofs.YtcmjambbdfangaaGreat.Flash
open Go.RowKit
open Go.Proofs.YtcmjambbdfangaaGreat.Own
open Tup Bytes Foot
open Go.Proofs.YtcmjambbdfangaaGreat.Region (fill Then Deps Each Deps2 Each2 Owes upd put wp_region_each3 slots wp_region_is wp_region_is_tail)

theorem blow_mk (d : Dev) : ∃ fu dn, d.blow.2 = ⟨d.pg, d.pgs, d.rgs, d.img, d.wait, fu, dn⟩ := by
  unfold Dev.blow
  split <;> exact ⟨_, _, rfl⟩
theorem over_rep {img : List UInt8} {A a b : Nat} (c : UInt8) (h : A + a + b ≤ img.length) : over (over img A (List.replicate a c)) (A + a) (List.replicate b c) = over img A (List.replicate (a + b) c) := by
  have h1 : (over img A (List.replicate a c)).take (A + a) = img.take A ++ List.replicate a c := by
    unfold over
    rw [List.take_append_of_le_length (by simp <;> omega), List.take_of_length_le (by simp <;> omega)]
  have h2 : (over img A (List.replicate a c)).drop (A + a + b) = img.drop (A + a + b) := drop_over (by simp) (by omega)
  show (over img A (List.replicate a c)).take (A + a) ++ List.replicate b c ++ (over img A (List.replicate a c)).drop (A + a + (List.replicate b c).length) = _
  rw [List.length_replicate, h1, h2]
  unfold over
  rw [List.length_replicate, ← List.replicate_append_replicate, List.append_assoc, List.append_assoc, List.append_assoc, List.append_assoc, Nat.add_assoc]
def erasing (d : Dev) (F : Nat) (x : Nat × List UInt8) : Bool := decide (F ≤ x.1) && decide (x.1 < F + d.pgs)
theorem erase_state {d : Dev} {k : Nat} (h1 : d.down = false) (h2 : k < d.rgs) (h3 : d.wait.any (erasing d (k * d.pgs)) = true) : eraseD d k = (7, d) := by
  unfold eraseD
  rw [h1, if_neg (by simp), if_neg (by simp; omega), Int.toNat_natCast]
  exact if_pos h3
theorem erase_ok {d : Dev} {k : Nat} (h1 : d.down = false) (h2 : k < d.rgs) (h3 : d.wait.any (erasing d (k * d.pgs)) = false) :
    eraseD d k = if d.blow.1 then (6, { d.blow.2 with wait := d.wait ++ (List.range d.pgs).map fun i => (k * d.pgs + i, List.replicate d.pg 255) }) else (0, { d.blow.2 with img := over d.img (k * d.pgs * d.pg) (List.replicate (d.pgs * d.pg) 255) }) := by
  unfold eraseD
  rw [h1, if_neg (by simp), if_neg (by simp; omega), Int.toNat_natCast, if_neg (by unfold erasing at h3; rw [h3]; simp)]
/-- what is pending where an erase blew, up to a page -/
def blown (d : Dev) (F j : Nat) : List (Nat × List UInt8) := d.wait ++ (List.range j).map fun i => (F + i, List.replicate d.pg 255)
theorem blown_succ (d : Dev) (F j : Nat) : blown d F j ++ [(F + j, List.replicate d.pg 255)] = blown d F (j + 1) := by
  unfold blown
  rw [List.range_succ, List.map_append, List.append_assoc]; rfl
theorem blown_len (d : Dev) (F j : Nat) : (blown d F j).length = d.wait.length + j := by simp [blown]
/-- .. from the world at which the append begins -/
theorem RAt.push_at {w5 w6 : World} {p : Nat} {e : Dev} {bB cap : Nat} {wv : Value} {fy : Nat} (h : RAt w5 p e bB cap wv fy) (k : Nat) (b : List UInt8) {g cap2 n : Nat} (hn : n = e.wait.length)
    (hown : w6.ownsRow 0 74 2 (.slice (some ⟨g, 0, none⟩) (n + 1) cap2) (n + 1) (waitC e.wait ++ waitV k b)) (hgr : w5.grownBy w6 wv.ownBlock) (hat : wv.ownBlock = some g ∨ g = w5.heap.size) :
    RAt (w6.setCell ⟨p, 4, none⟩ (.slice (some ⟨g, 0, none⟩) (n + 1) cap2)) p { e with wait := e.wait ++ [(k, b)] } bB cap (.slice (some ⟨g, 0, none⟩) (n + 1) cap2) fy
    ∧ After (foot p bB wv) w5 (w6.setCell ⟨p, 4, none⟩ (.slice (some ⟨g, 0, none⟩) (n + 1) cap2)) (foot p bB (.slice (some ⟨g, 0, none⟩) (n + 1) cap2)) := by
  have hp := h.var.lt
  have hB := h.lt
  have hgp : g ≠ p := by
    rcases hat with x | x
    · intro y; subst y; exact h.ne2 x
    · omega
  have hgB : g ≠ bB := by
    rcases hat with x | x
    · intro y; subst y; exact h.ne3 x
    · omega
  have hv6 : Var w6 p _ _ := h.var.kept hgr h.ne2
  have g1 : Grows (fun k => wv.ownBlock = some k) w5 w6 := Grows.grown (S := fun k => wv.ownBlock = some k) hgr (fun k hk => hk)
  have hr6 : Row8 w6 bB e.img := h.row.grows g1 h.ne3
  have g2 : Grows (· = p) w6 (w6.setCell ⟨p, 4, none⟩ (.slice (some ⟨g, 0, none⟩) (n + 1) cap2)) := Grows.set _ _ _ rfl
  refine ⟨⟨hv6.set 4 _, hr6.grows g2 h.ne1, Nat.lt_of_lt_of_le hB (Nat.le_trans g1.size g2.size), ?_, h.fuz, h.fuz0, h.capl, h.ne1, ?_, ?_⟩, ?_, ?_⟩
  · have hl : (e.wait ++ [(k, b)]).length = n + 1 := by simp [hn]
    show World.ownsRow _ 0 _ 2 _ (e.wait ++ [(k, b)]).length (waitC (e.wait ++ [(k, b)]))
    rw [hl, waitC_append]
    exact owns_grows hown g2 (fun j hj => by
      have : g = j := by simpa [Value.ownBlock] using hj
      omega)
  · simp [Value.ownBlock]; exact hgp
  · simp [Value.ownBlock]; exact hgB
  · exact (g1.mono (fun j hj => Or.inr (Or.inr hj))).trans g2 (fun j hj => .inl (.inl hj))
  · rintro j (rfl | rfl | hj)
    · exact .inl (.inl rfl)
    · exact .inl (.inr (.inl rfl))
    · have : g = j := by simpa [Value.ownBlock] using hj
      subst this
      rcases hat with x | x
      · exact .inl (.inr (.inr x))
      · exact .inr (by omega)
theorem RAt.push_now {w5 w6 : World} {p : Nat} {e : Dev} {bB cap : Nat} {wv : Value} {fy : Nat} (h : RAt w5 p e bB cap wv fy) (hgr : w5.grownBy w6 wv.ownBlock) : w6.cell? ⟨p, 4, none⟩ = some wv ∧ w6.frozen? ⟨p, 4, none⟩ = false :=
  ⟨(h.var.kept hgr h.ne2).cell (j := 4) rfl, (h.var.kept hgr h.ne2).frozen 4⟩
set_option maxRecDepth 100000 in
set_option maxHeartbeats 16000000 in
theorem refErase_any {w : World} {p : Nat} {d : Dev} {bB cap : Nat} {wv : Value} {fz : Nat} (h : RAt w p d bB cap wv fz) (hd : d.Ok) (r : Int) :
    Calls Tryz.prog 42 #[ptr p, .int .i64 r] w fun e w' => e = .returned (.int .i64 ((eraseD d r).1 : Int)) ∧ ∃ S, RHas w' p (eraseD d r).2 S ∧ After (foot p bB wv) w w' S := by
  have c7 := h.var.cell (j := 7) rfl
  have c1 := h.var.cell (j := 1) rfl
  have c2 := h.var.cell (j := 2) rfl
  have HA := Lib.hid h
  unfold ptr
  rcases hdn : d.down with _ | _
  · rw [hdn] at c7
    by_cases hr0 : r < 0
    · have HE := Lib.hid (show eraseD d r = (1, d) by unfold eraseD; rw [hdn, if_neg (by simp), if_pos (by omega)])
      have q1 : decide (r < 0) = true := by simp; omega
      clear h hdn
      go_enter Tryz.func42, Tryz.ntmps42
      go_wp2
      go_ret
      rw [HE.out]
      exact ⟨rfl, _, ⟨_, _, _, _, HA.out, rfl⟩, After.refl _ _⟩
    · obtain ⟨k, rfl⟩ : ∃ k : Nat, r = (k : Int) := ⟨r.toNat, by omega⟩
      have q1 : decide ((k : Int) < 0) = false := by simp
      by_cases hr1 : k < d.rgs
      · have q2 : decide ((d.rgs : Int) ≤ (k : Int)) = false := by simp; omega
        have q3 : decide (d.rgs ≤ k) = false := by simp; omega
        obtain ⟨F, hF⟩ : ∃ F, F = k * d.pgs := ⟨_, rfl⟩
        have hFi : (k : Int) * (d.pgs : Int) = (F : Int) := by rw [hF, Int.natCast_mul]
        have hFn : F + d.pgs ≤ d.n := by
          rw [hF]; unfold Dev.n
          calc k * d.pgs + d.pgs = (k + 1) * d.pgs := by rw [Nat.add_mul]; omega
            _ ≤ d.rgs * d.pgs := Nat.mul_le_mul_right _ hr1
            _ = d.pgs * d.rgs := Nat.mul_comm _ _
        have hn1 := hd.n_le
        have hs1 := hd.s1
        have hwl := hd.wait_le
        have HE7 := Lib.hid (fun hx => erase_state (d := d) hdn hr1 hx)
        have HE0 := Lib.hid (fun hx => erase_ok (d := d) hdn hr1 hx)
        rw [← hF] at HE7 HE0
        obtain ⟨a, c, rfl⟩ := h.slice
        obtain ⟨fu, dn, hmk⟩ := blow_mk d
        have HMK := Lib.hid hmk
        have HR := Lib.hid (fun w' (hb : Below w.heap.size w w') => refBlows_any (h.below hb))
        rw [hmk] at HR HE0
        unfold ptr at HR
        have HOK := Lib.hid (fun (im : List UInt8) (him : im.length = d.img.length) => show (Dev.mk d.pg d.pgs d.rgs im d.wait fu dn).Ok from (hd.image him).like ⟨rfl, rfl, rfl, rfl, rfl⟩)
        have HIM := Lib.hid hd.img_n
        have HP0 := Lib.hid hd.p0
        have hp1 := hd.p1
        have hRl : (bs (List.replicate d.pg (255 : UInt8))).size = d.pg := by rw [bs_size, List.length_replicate]
        have HDA := Lib.hid (fun (wx : World) fy (im : List UInt8) (him : im.length = d.img.length) (hR : RAt wx p (Dev.mk d.pg d.pgs d.rgs im d.wait fu dn) bB cap (.slice a d.wait.length c) fy) m (hm : m < d.n) =>
          refDone_any hR (HOK.out im him) m hm (bs (List.replicate d.pg (255 : UInt8))) hRl d.pg (Nat.le_refl _))
        unfold ptr at HDA
        have HF := Lib.hid (fun w => fill_any 255 (d.pg : Int) d.pg (.inl rfl) (by omega) w)
        rw [show (((255 : UInt8).toNat : Int)) = 255 from rfl] at HF
        obtain ⟨L, hL⟩ : ∃ L, d.wait.length = L := ⟨_, rfl⟩
        have HL := Lib.hid hL
        rw [hL] at HA HR HDA hwl ⊢
        clear h hdn hF hL hmk hRl hd
        go_enter Tryz.func42, Tryz.ntmps42
        go_wp2
        go_loopw [6] (fun i wr => ∃ j : Nat, i = .int .i64 (j : Int) ∧ j ≤ L ∧ Below w.heap.size w wr ∧ (d.wait.take j).any (erasing d F) = false) (fun i _ => L - (intOf i).toNat)
        case atStart => exact ⟨0, rfl, Nat.zero_le _, Below.refl _ _, rfl⟩
        case round =>
          obtain ⟨j, rfl, hj, hBr, hany⟩ := hrel
          have HN := Lib.hid hany
          have HBr := Lib.hid hBr
          clear hany hBr c7 c1 c2
          have HAr := Lib.hid (HA.out.below HBr.out)
          have c4 := HAr.out.var.cell (j := 4) rfl
          have c1 := HAr.out.var.cell (j := 1) rfl
          by_cases hlt : j < L
          · have hjl : j < d.wait.length := by rw [HL.out]; exact hlt
            obtain ⟨g, ha, e0, -⟩ := HAr.out.pend hjl
            subst ha
            have HT := Lib.hid (any_take (f := erasing d F) hjl)
            have HH := Lib.hid (fun hf => any_hit (f := erasing d F) hjl hf)
            have d3 : decide ((j : Int) < (L : Int)) = true := by simp; omega
            have d4 : decide (j < L) = true := by simp; omega
            generalize hy : d.wait[j] = yy at *
            obtain ⟨y, y2⟩ := yy
            simp only at e0
            have hes : erasing d F (y, y2) = (decide (F ≤ y) && decide (y < F + d.pgs)) := rfl
            clear hy HE0 HDA HOK HF HR
            by_cases k1 : F ≤ y
            · have u1 : decide ((F : Int) ≤ (y : Int)) = true := by simp; omega
              have u2 : decide (F ≤ y) = true := by simp; omega
              by_cases k2 : y < F + d.pgs
              · have u3 : decide ((y : Int) < (F : Int) + (d.pgs : Int)) = true := by simp; omega
                have u4 : decide (y < F + d.pgs) = true := by simp; omega
                have HE := Lib.hid (HE7.out (HH.out (by rw [hes, u2, u4]; rfl)))
                clear HE7 HH HT hes
                go_wp2
                go_quiet (fail)
                go_wp2
                go_ret
                rw [HE.out]
                exact ⟨rfl, _, ⟨_, _, _, _, HAr.out.below (below_drewN _ _), rfl⟩, after_below (bel2 HBr.out (below_drewN _ _))⟩
              · have u3 : decide ((y : Int) < (F : Int) + (d.pgs : Int)) = false := by simp; omega
                have u4 : decide (y < F + d.pgs) = false := by simp; omega
                have HK := Lib.hid (show (d.wait.take (j + 1)).any (erasing d F) = false by rw [HT.out, HN.out, hes, u2, u4]; rfl)
                clear HE7 HH HT hes
                go_wp2
                go_quiet (fail)
                go_wp2
                exact ⟨⟨j + 1, by go_num, by omega, bel2 HBr.out (below_drewN _ _), HK.out⟩, by simp [intOf]; omega⟩
            · have u1 : decide ((F : Int) ≤ (y : Int)) = false := by simp; omega
              have u2 : decide (F ≤ y) = false := by simp; omega
              have HK := Lib.hid (show (d.wait.take (j + 1)).any (erasing d F) = false by rw [HT.out, HN.out, hes, u2]; rfl)
              clear HE7 HH HT hes
              go_wp2
              go_quiet (fail)
              go_wp2
              exact ⟨⟨j + 1, by go_num, by omega, bel2 HBr.out (below_drewN _ _), HK.out⟩, by simp [intOf]; omega⟩
          · have d3 : decide ((j : Int) < (L : Int)) = false := by simp; omega
            have d4 : decide (j < L) = false := by simp; omega
            have HE := Lib.hid (HE0.out (by
              have := HN.out
              rw [List.take_of_length_le (by rw [HL.out]; omega)] at this
              exact this))
            have HRr := Lib.hid (HR.out wr HBr.out)
            clear HE7 HE0 HR HN
            rcases hbb : d.blow.1 with _ | _
            · rw [hbb] at HE HRr
              clear hbb
              go_wp2_with (go_at_call 34; (with_reducible refine HRr.out.mono ?_); rintro e w1 ⟨rfl, hg1, fy, hR1⟩; have HG1 := Lib.hid hg1; have HR1 := Lib.hid hR1; clear hg1 hR1)
              go_loopw [8] (fun i wr => ∃ m : Nat, i = .int .i64 (m : Int) ∧ F ≤ m ∧ m ≤ F + d.pgs ∧ Grows (· = bB) w1 wr ∧ RAt wr p (Dev.mk d.pg d.pgs d.rgs (over d.img (F * d.pg) (List.replicate ((m - F) * d.pg) 255)) d.wait fu dn) bB cap (.slice a L c) fy) (fun i _ => F + d.pgs - (intOf i).toNat)
              case atStart =>
                have hz0 : over d.img (F * d.pg) (List.replicate ((F - F) * d.pg) 255) = d.img := by rw [Nat.sub_self, Nat.zero_mul]; exact over_nil _ _
                refine ⟨F, rfl, Nat.le_refl _, by omega, .refl _ _, ?_⟩
                rw [hz0]; exact HR1.out
              case round =>
                obtain ⟨m, rfl, hm0, hm1, hG2, hR2⟩ := hrel
                have HG2 := Lib.hid hG2
                have HA2 := Lib.hid hR2
                have c1' := hR2.var.cell (j := 1) rfl
                clear hG2 hR2 c4 c1
                by_cases hmt : m < F + d.pgs
                · have z1 : decide ((m : Int) < (F : Int) + (d.pgs : Int)) = true := by simp; omega
                  have z2 : decide (m < F + d.pgs) = true := by simp; omega
                  have hmn : m < d.n := by omega
                  have hpl : m * d.pg + d.pg ≤ d.img.length := page_le hmn HIM.out
                  have hFm : F * d.pg + (m - F) * d.pg = m * d.pg := by rw [← Nat.add_mul]; congr 1; omega
                  have him : (over d.img (F * d.pg) (List.replicate ((m - F) * d.pg) 255)).length = d.img.length := over_length (by rw [List.length_replicate]; omega)
                  have HD := Lib.hid (fun wx hR => HDA.out wx fy _ him hR m hmn)
                  have HS := Lib.hid (show over (over d.img (F * d.pg) (List.replicate ((m - F) * d.pg) 255)) (m * d.pg) ((bs (List.replicate d.pg (255 : UInt8))).data.toList.take d.pg) = over d.img (F * d.pg) (List.replicate ((m + 1 - F) * d.pg) 255) by
                    rw [list_bs, List.take_of_length_le (by simp), ← hFm, over_rep 255 (by omega)]
                    congr 2
                    rw [show m + 1 - F = (m - F) + 1 by omega, Nat.add_mul]; omega)
                  clear HDA HOK him hFm hpl hmn
                  go_wp2
                  clear c1'
                  refine wp_region_is_tail 14 [100, 101, 102, 103, 104, 105, 106, 107, 108, 109, 110, 111, 112, 113] (fun w' => Below wr.heap.size wr w')
                    [.pointer (some ⟨p, 0, none⟩), .int .i64 (m : Int), .pointer (some ⟨p, 0, none⟩), .pointer (some ⟨p, 0, none⟩), .pointer (some ⟨p, 0, none⟩), .pointer (some ⟨p, 0, none⟩), .int .i64 (d.pg : Int), .string (bs (List.replicate d.pg 255)), .agg #[.int .i64 (m : Int), .string (bs (List.replicate d.pg 255))], .pointer (some ⟨p, 0, none⟩), .pointer (some ⟨p, 0, none⟩), .pointer (some ⟨p, 0, none⟩), .pointer (some ⟨p, 0, none⟩), .int .i64 (d.pg : Int)] (by kernel_rfl) (by kernel_rfl) (by kernel_rfl) (by decide) rfl (by decide) (by simp) (Below.refl _ _).drew ?each ?done
                  case each =>
                    simp only [List.take_succ_cons, List.take_zero, Each]
                    repeat' (first | exact trivial | refine And.intro ?_ ?_)
                    all_goals
                      intro ys wx hBx hdeps
                      simp only [Deps, Region.binds, List.getD_cons_zero, List.getD_cons_succ, forall_const, and_true] at hdeps
                      have c0 : wx.cell? ⟨p, 0, none⟩ = some (.int .i64 (d.pg : Int)) := (HA2.out.below hBx).var.cell (j := 0) rfl
                      simp only [hdeps, fill, List.foldl_cons, List.foldl_nil, Act.put, List.setIfInBounds_toArray, List.set_cons_succ, List.set_cons_zero]
                      first
                        | (go_wp2_with fail; exact ⟨_, rfl, rfl, hBx, Below.refl _ _⟩)
                        | (go_wp2_with (go_at_call 61; (with_reducible refine (HF.out _).mono ?_); rintro e w3 ⟨rfl, hn3⟩); exact ⟨_, rfl, rfl, hBx.trans (hn3.mono hBx.size), hn3⟩)
                  case done =>
                    intro ys wx hBx hV
                    have h100 : ys 100 = .pointer (some ⟨p, 0, none⟩) := hV 0 (by decide)
                    have h108 : ys 108 = .agg #[.int .i64 (m : Int), .string (bs (List.replicate d.pg 255))] := hV 8 (by decide)
                    have h113 : ys 113 = .int .i64 (d.pg : Int) := hV 13 (by decide)
                    have HAx := Lib.hid (HA2.out.below hBx)
                    have HBx := Lib.hid hBx
                    simp only [h100, h108, h113, fill, List.drop_succ_cons, List.drop_zero, List.foldl_cons, List.foldl_nil, Act.put, List.setIfInBounds_toArray, List.set_cons_succ, List.set_cons_zero]
                    go_wp2_with (go_at_call 35; (with_reducible refine (HD.out wx HAx.out).mono ?_); rintro e w5 ⟨rfl, hR5, hG5⟩; have HR5 := Lib.hid hR5; have HG5 := Lib.hid hG5; clear hR5 hG5)
                    refine ⟨⟨m + 1, by go_num, by omega, by omega, HG2.out.trans ((Grows.of_below HBx.out).trans HG5.out (fun _ h => .inl h)) (fun _ h => .inl h), ?_⟩, by simp [intOf]; omega⟩
                    have hK := HR5.out
                    rw [HS.out] at hK
                    exact hK
                · have z1 : decide ((m : Int) < (F : Int) + (d.pgs : Int)) = false := by simp; omega
                  have z2 : decide (m < F + d.pgs) = false := by simp; omega
                  have HZ := Lib.hid (show over d.img (F * d.pg) (List.replicate ((m - F) * d.pg) 255) = over d.img (F * d.pg) (List.replicate (d.pgs * d.pg) 255) by rw [show m - F = d.pgs by omega])
                  clear HDA HOK
                  go_wp2
                  go_ret
                  rw [HE.out]
                  have hK := HA2.out
                  rw [HZ.out] at hK
                  refine ⟨rfl, _, ⟨_, _, _, _, hK, rfl⟩, ?_⟩
                  exact After.trans (after_below HBr.out) (After.trans (After.of_grows HG1.out (fun j hj => .inl hj)) (After.of_grows HG2.out (fun j hj => .inr (.inl hj))))
            · rw [hbb] at HE HRr
              clear hbb
              go_wp2_with (go_at_call 34; (with_reducible refine HRr.out.mono ?_); rintro e w1 ⟨rfl, hg1, fy, hR1⟩; have HG1 := Lib.hid hg1; have HR1 := Lib.hid hR1; clear hg1 hR1)
              go_loopw [8] (fun i wr => ∃ m : Nat, i = .int .i64 (m : Int) ∧ F ≤ m ∧ m ≤ F + d.pgs ∧ ∃ a2 c2, RAt wr p (Dev.mk d.pg d.pgs d.rgs d.img (blown d F (m - F)) fu dn) bB cap (.slice a2 (blown d F (m - F)).length c2) fy ∧ After (foot p bB (.slice a L c)) w1 wr (foot p bB (.slice a2 (blown d F (m - F)).length c2))) (fun i _ => F + d.pgs - (intOf i).toNat)
              case atStart =>
                have hb0 : blown d F (F - F) = d.wait := by rw [Nat.sub_self]; simp [blown]
                refine ⟨F, rfl, Nat.le_refl _, by omega, a, c, ?_⟩
                rw [hb0, HL.out]
                exact ⟨HR1.out, After.refl _ _⟩
              case round =>
                obtain ⟨m, rfl, hm0, hm1, a2, c2, hR2, hA2⟩ := hrel
                have HF2 := Lib.hid hA2
                obtain ⟨M, hM⟩ : ∃ M, (blown d F (m - F)).length = M := ⟨_, rfl⟩
                have HBM : Hid ((Dev.mk d.pg d.pgs d.rgs d.img (blown d F (m - F)) fu dn).wait.length = M) := hM
                have hMl : M ≤ 200 := by rw [← hM, blown_len, HL.out]; omega
                rw [hM] at hR2 HF2
                have HA2 := Lib.hid hR2
                have c1' := hR2.var.cell (j := 1) rfl
                clear hA2 hR2 c4 c1 HDA HOK
                by_cases hmt : m < F + d.pgs
                · have z1 : decide ((m : Int) < (F : Int) + (d.pgs : Int)) = true := by simp; omega
                  have z2 : decide (m < F + d.pgs) = true := by simp; omega
                  have HNX := Lib.hid (show blown d F (m - F) ++ [(m, List.replicate d.pg 255)] = blown d F (m + 1 - F) by
                    rw [show m + 1 - F = (m - F) + 1 by omega, ← blown_succ, show F + (m - F) = m by omega])
                  have HLX := Lib.hid (show (blown d F (m + 1 - F)).length = M + 1 by rw [← HNX.out, List.length_append, hM]; rfl)
                  clear hM
                  go_wp2
                  obtain ⟨AP, hAP⟩ : ∃ AP : World → Value → Prop, AP = fun w6 v => ∃ wx g cap2, RAt wx p (Dev.mk d.pg d.pgs d.rgs d.img (blown d F (m - F)) fu dn) bB cap (.slice a2 M c2) fy ∧ v = .slice (some ⟨g, 0, none⟩) (M + 1) cap2 ∧ w6.ownsRow 0 74 2 (.slice (some ⟨g, 0, none⟩) (M + 1) cap2) (M + 1) (waitC (blown d F (m - F)) ++ [.int .i64 (m : Int), .string (bs (List.replicate d.pg 255))]) ∧ wx.grownBy w6 (Value.slice a2 M c2).ownBlock ∧ ((Value.slice a2 M c2).ownBlock = some g ∨ g = wx.heap.size) ∧ Below wr.heap.size wr wx := ⟨_, rfl⟩
                  have HAP := Lib.hid hAP
                  clear hAP
                  refine wp_region_each3 [some 83, some 84, some 85, some 86, some 87, some 88, some 89, some 90, some 91, some 92, some 93, some 94, some 95, some 96, some 97, some 98, some 99, none] (EJ wr p [.pointer (some ⟨p, 0, none⟩), .pointer (some ⟨p, 0, none⟩), .pointer (some ⟨p, 0, none⟩), .pointer (some ⟨p, 4, none⟩), .slice a2 M c2, .int .i64 (m : Int), .pointer (some ⟨p, 0, none⟩), .pointer (some ⟨p, 0, none⟩), .pointer (some ⟨p, 0, none⟩), .pointer (some ⟨p, 0, none⟩), .int .i64 (d.pg : Int), .string (bs (List.replicate d.pg 255)), .agg #[.int .i64 (m : Int), .string (bs (List.replicate d.pg 255))], undef, undef, .pointer (some ⟨p, 0, none⟩), .pointer (some ⟨p, 4, none⟩)] [.int .i64 (m : Int), .string (bs (List.replicate d.pg 255))] AP) (by kernel_rfl) (by kernel_rfl) (by simp [slots]) ?start ?each ?done
                  case start => exact ⟨by simp, by simp, .inl ⟨rfl, rfl, (Below.refl _ _).drew, by simp⟩⟩
                  case each =>
                    clear c1'
                    simp only [Each2]
                    refine ⟨?o0, ?o1, ?o2, ?o3, ?o4, ?o5, ?o6, ?o7, ?o8, ?o9, ?o10, ?o11, ?o12, ?o13, ?o14, ?o15, ?o16, ?o17, trivial⟩
                    case o0 =>
                      intro d0 ys wx hJ hdi hw hdeps
                      simp only [List.getD_cons_succ, List.getD_cons_zero, fill, slots, List.filterMap_cons, List.filterMap_nil, id, List.foldl_cons, List.foldl_nil, Act.put, List.setIfInBounds_toArray, List.set_cons_succ, List.set_cons_zero]
                      go_wp2_with fail
                      exact ⟨_, rfl, hJ.idle (i := 0) (by decide) rfl⟩
                    case o1 =>
                      intro d0 ys wx hJ hdi hw hdeps
                      simp only [List.getD_cons_succ, List.getD_cons_zero, fill, slots, List.filterMap_cons, List.filterMap_nil, id, List.foldl_cons, List.foldl_nil, Act.put, List.setIfInBounds_toArray, List.set_cons_succ, List.set_cons_zero]
                      go_wp2_with fail
                      exact ⟨_, rfl, hJ.front (i := 1) (by decide) (by decide) hdi (no_pair (by decide)) rfl (Below.refl _ _)⟩
                    case o2 =>
                      intro d0 ys wx hJ hdi hw hdeps
                      have q1 : d0 1 = true := by simp [Region.Deps2, Go.Region.binds] at hdeps; simp [hdeps]
                      have y1 : ys 84 = .pointer (some ⟨p, 0, none⟩) := hJ.1 1 (by decide) (by decide) (by decide) q1
                      simp only [y1, List.getD_cons_succ, List.getD_cons_zero, fill, slots, List.filterMap_cons, List.filterMap_nil, id, List.foldl_cons, List.foldl_nil, Act.put, List.setIfInBounds_toArray, List.set_cons_succ, List.set_cons_zero]
                      go_wp2_with fail
                      exact ⟨_, rfl, hJ.front (i := 2) (by decide) (by decide) hdi (by intro x hx e; simp only [pairs, List.mem_cons, List.not_mem_nil, or_false] at hx; rcases hx with rfl | rfl | rfl | rfl | rfl | rfl | rfl | rfl | rfl | rfl | rfl <;> first | exact q1 | (simp at e)) rfl (Below.refl _ _)⟩
                    case o3 =>
                      intro d0 ys wx hJ hdi hw hdeps
                      have q2 : d0 2 = true := by simp [Region.Deps2, Go.Region.binds] at hdeps; simp [hdeps]
                      have y2 : ys 85 = .pointer (some ⟨p, 0, none⟩) := hJ.1 2 (by decide) (by decide) (by decide) q2
                      simp only [y2, List.getD_cons_succ, List.getD_cons_zero, fill, slots, List.filterMap_cons, List.filterMap_nil, id, List.foldl_cons, List.foldl_nil, Act.put, List.setIfInBounds_toArray, List.set_cons_succ, List.set_cons_zero]
                      go_wp2_with fail
                      exact ⟨_, rfl, hJ.front (i := 3) (by decide) (by decide) hdi (by intro x hx e; simp only [pairs, List.mem_cons, List.not_mem_nil, or_false] at hx; rcases hx with rfl | rfl | rfl | rfl | rfl | rfl | rfl | rfl | rfl | rfl | rfl <;> first | exact q2 | (simp at e)) rfl (Below.refl _ _)⟩
                    case o4 =>
                      intro d0 ys wx hJ hdi hw hdeps
                      have q3 : d0 3 = true := by simp [Region.Deps2, Go.Region.binds] at hdeps; simp [hdeps]
                      have y3 : ys 86 = .pointer (some ⟨p, 4, none⟩) := hJ.1 3 (by decide) (by decide) (by decide) q3
                      have hE := (hJ.early (by decide) (by decide) hdi).2.2.1
                      have hRx := HA2.out.below hE
                      have c4 : wx.cell? ⟨p, 4, none⟩ = some (.slice a2 M c2) := hRx.var.cell (j := 4) rfl
                      clear hRx hE
                      simp only [y3, List.getD_cons_succ, List.getD_cons_zero, fill, slots, List.filterMap_cons, List.filterMap_nil, id, List.foldl_cons, List.foldl_nil, Act.put, List.setIfInBounds_toArray, List.set_cons_succ, List.set_cons_zero]
                      go_wp2_with fail
                      exact ⟨_, rfl, hJ.front (i := 4) (by decide) (by decide) hdi (by intro x hx e; simp only [pairs, List.mem_cons, List.not_mem_nil, or_false] at hx; rcases hx with rfl | rfl | rfl | rfl | rfl | rfl | rfl | rfl | rfl | rfl | rfl <;> first | exact q3 | (simp at e)) rfl (Below.refl _ _)⟩
                    case o5 =>
                      intro d0 ys wx hJ hdi hw hdeps
                      simp only [List.getD_cons_succ, List.getD_cons_zero, fill, slots, List.filterMap_cons, List.filterMap_nil, id, List.foldl_cons, List.foldl_nil, Act.put, List.setIfInBounds_toArray, List.set_cons_succ, List.set_cons_zero]
                      go_wp2_with fail
                      exact ⟨_, rfl, hJ.front (i := 5) (by decide) (by decide) hdi (no_pair (by decide)) rfl (Below.refl _ _)⟩
                    case o6 =>
                      intro d0 ys wx hJ hdi hw hdeps
                      simp only [List.getD_cons_succ, List.getD_cons_zero, fill, slots, List.filterMap_cons, List.filterMap_nil, id, List.foldl_cons, List.foldl_nil, Act.put, List.setIfInBounds_toArray, List.set_cons_succ, List.set_cons_zero]
                      go_wp2_with fail
                      exact ⟨_, rfl, hJ.front (i := 6) (by decide) (by decide) hdi (no_pair (by decide)) rfl (Below.refl _ _)⟩
                    case o7 =>
                      intro d0 ys wx hJ hdi hw hdeps
                      have q6 : d0 6 = true := by simp [Region.Deps2, Go.Region.binds] at hdeps; simp [hdeps]
                      have y6 : ys 89 = .pointer (some ⟨p, 0, none⟩) := hJ.1 6 (by decide) (by decide) (by decide) q6
                      simp only [y6, List.getD_cons_succ, List.getD_cons_zero, fill, slots, List.filterMap_cons, List.filterMap_nil, id, List.foldl_cons, List.foldl_nil, Act.put, List.setIfInBounds_toArray, List.set_cons_succ, List.set_cons_zero]
                      go_wp2_with fail
                      exact ⟨_, rfl, hJ.front (i := 7) (by decide) (by decide) hdi (by intro x hx e; simp only [pairs, List.mem_cons, List.not_mem_nil, or_false] at hx; rcases hx with rfl | rfl | rfl | rfl | rfl | rfl | rfl | rfl | rfl | rfl | rfl <;> first | exact q6 | (simp at e)) rfl (Below.refl _ _)⟩
                    case o8 =>
                      intro d0 ys wx hJ hdi hw hdeps
                      have q7 : d0 7 = true := by simp [Region.Deps2, Go.Region.binds] at hdeps; simp [hdeps]
                      have y7 : ys 90 = .pointer (some ⟨p, 0, none⟩) := hJ.1 7 (by decide) (by decide) (by decide) q7
                      simp only [y7, List.getD_cons_succ, List.getD_cons_zero, fill, slots, List.filterMap_cons, List.filterMap_nil, id, List.foldl_cons, List.foldl_nil, Act.put, List.setIfInBounds_toArray, List.set_cons_succ, List.set_cons_zero]
                      go_wp2_with fail
                      exact ⟨_, rfl, hJ.front (i := 8) (by decide) (by decide) hdi (by intro x hx e; simp only [pairs, List.mem_cons, List.not_mem_nil, or_false] at hx; rcases hx with rfl | rfl | rfl | rfl | rfl | rfl | rfl | rfl | rfl | rfl | rfl <;> first | exact q7 | (simp at e)) rfl (Below.refl _ _)⟩
                    case o9 =>
                      intro d0 ys wx hJ hdi hw hdeps
                      have q8 : d0 8 = true := by simp [Region.Deps2, Go.Region.binds] at hdeps; simp [hdeps]
                      have y8 : ys 91 = .pointer (some ⟨p, 0, none⟩) := hJ.1 8 (by decide) (by decide) (by decide) q8
                      simp only [y8, List.getD_cons_succ, List.getD_cons_zero, fill, slots, List.filterMap_cons, List.filterMap_nil, id, List.foldl_cons, List.foldl_nil, Act.put, List.setIfInBounds_toArray, List.set_cons_succ, List.set_cons_zero]
                      go_wp2_with fail
                      exact ⟨_, rfl, hJ.front (i := 9) (by decide) (by decide) hdi (by intro x hx e; simp only [pairs, List.mem_cons, List.not_mem_nil, or_false] at hx; rcases hx with rfl | rfl | rfl | rfl | rfl | rfl | rfl | rfl | rfl | rfl | rfl <;> first | exact q8 | (simp at e)) rfl (Below.refl _ _)⟩
                    case o10 =>
                      intro d0 ys wx hJ hdi hw hdeps
                      have q9 : d0 9 = true := by simp [Region.Deps2, Go.Region.binds] at hdeps; simp [hdeps]
                      have y9 : ys 92 = .pointer (some ⟨p, 0, none⟩) := hJ.1 9 (by decide) (by decide) (by decide) q9
                      have hE := (hJ.early (by decide) (by decide) hdi).2.2.1
                      have hRx := HA2.out.below hE
                      have c0 : wx.cell? ⟨p, 0, none⟩ = some (.int .i64 (d.pg : Int)) := hRx.var.cell (j := 0) rfl
                      clear hRx hE
                      simp only [y9, List.getD_cons_succ, List.getD_cons_zero, fill, slots, List.filterMap_cons, List.filterMap_nil, id, List.foldl_cons, List.foldl_nil, Act.put, List.setIfInBounds_toArray, List.set_cons_succ, List.set_cons_zero]
                      go_wp2_with fail
                      exact ⟨_, rfl, hJ.front (i := 10) (by decide) (by decide) hdi (by intro x hx e; simp only [pairs, List.mem_cons, List.not_mem_nil, or_false] at hx; rcases hx with rfl | rfl | rfl | rfl | rfl | rfl | rfl | rfl | rfl | rfl | rfl <;> first | exact q9 | (simp at e)) rfl (Below.refl _ _)⟩
                    case o11 =>
                      intro d0 ys wx hJ hdi hw hdeps
                      have q10 : d0 10 = true := by simp [Region.Deps2, Go.Region.binds] at hdeps; simp [hdeps]
                      have y10 : ys 93 = .int .i64 (d.pg : Int) := hJ.1 10 (by decide) (by decide) (by decide) q10
                      simp only [y10, List.getD_cons_succ, List.getD_cons_zero, fill, slots, List.filterMap_cons, List.filterMap_nil, id, List.foldl_cons, List.foldl_nil, Act.put, List.setIfInBounds_toArray, List.set_cons_succ, List.set_cons_zero]
                      go_wp2_with (go_at_call 61; (with_reducible refine (HF.out _).mono ?_); rintro e w3 ⟨rfl, hn3⟩)
                      refine ⟨.string (bs (List.replicate d.pg 255)), ?_, hJ.front (i := 11) (by decide) (by decide) hdi (by intro x hx e; simp only [pairs, List.mem_cons, List.not_mem_nil, or_false] at hx; rcases hx with rfl | rfl | rfl | rfl | rfl | rfl | rfl | rfl | rfl | rfl | rfl <;> first | exact q10 | (simp at e)) rfl hn3⟩
                      rfl
                    case o12 =>
                      intro d0 ys wx hJ hdi hw hdeps
                      have q5 : d0 5 = true := by simp [Region.Deps2, Go.Region.binds] at hdeps; simp [hdeps]
                      have y5 : ys 88 = .int .i64 (m : Int) := hJ.1 5 (by decide) (by decide) (by decide) q5
                      have q11 : d0 11 = true := by simp [Region.Deps2, Go.Region.binds] at hdeps; simp [hdeps]
                      have y11 : ys 94 = .string (bs (List.replicate d.pg 255)) := hJ.1 11 (by decide) (by decide) (by decide) q11
                      simp only [y5, y11, List.getD_cons_succ, List.getD_cons_zero, fill, slots, List.filterMap_cons, List.filterMap_nil, id, List.foldl_cons, List.foldl_nil, Act.put, List.setIfInBounds_toArray, List.set_cons_succ, List.set_cons_zero]
                      go_wp2_with fail
                      exact ⟨_, rfl, hJ.front (i := 12) (by decide) (by decide) hdi (by intro x hx e; simp only [pairs, List.mem_cons, List.not_mem_nil, or_false] at hx; rcases hx with rfl | rfl | rfl | rfl | rfl | rfl | rfl | rfl | rfl | rfl | rfl <;> first | exact q5 | exact q11 | (simp at e)) rfl (Below.refl _ _)⟩
                    case o13 =>
                      intro d0 ys wx hJ hdi hw hdeps
                      have q12 : d0 12 = true := by simp [Region.Deps2, Go.Region.binds] at hdeps; simp [hdeps]
                      have y12 : ys 95 = .agg #[.int .i64 (m : Int), .string (bs (List.replicate d.pg 255))] := hJ.1 12 (by decide) (by decide) (by decide) q12
                      simp only [y12, List.getD_cons_succ, List.getD_cons_zero, fill, slots, List.filterMap_cons, List.filterMap_nil, id, List.foldl_cons, List.foldl_nil, Act.put, List.setIfInBounds_toArray, List.set_cons_succ, List.set_cons_zero]
                      go_wp2_with fail
                      exact ⟨_, rfl, hJ.build hdi q12 (lies_new _ [.int .i64 (m : Int), .string (bs (List.replicate d.pg 255))] _) (Geom.bel_alloc _ _)⟩
                    case o14 =>
                      intro d0 ys wx hJ hdi hw hdeps
                      have q4 : d0 4 = true := by simp [Region.Deps2, Go.Region.binds] at hdeps; simp [hdeps]
                      have y4 : ys 87 = .slice a2 M c2 := hJ.1 4 (by decide) (by decide) (by decide) q4
                      have q13 : d0 13 = true := by simp [Region.Deps2, Go.Region.binds] at hdeps; simp [hdeps]
                      obtain ⟨h17, hE, g0, y13, hLi⟩ : d0 17 = false ∧ Below wr.heap.size wr wx ∧ ∃ g0, ys 96 = .slice (some ⟨g0, 0, none⟩) 1 1 ∧ Lies wx g0 0 [.int .i64 (m : Int), .string (bs (List.replicate d.pg 255))] := by
                        rcases hJ.2.2 with ⟨_, x2, x3, x4⟩ | ⟨_, x, _⟩
                        · obtain ⟨g0, z1, z2⟩ := x4 q13
                          exact ⟨x2, x3, g0, z1, z2⟩
                        · rw [x] at hdi; simp at hdi
                      have hall := closed_all hJ.2.1 q4 q13
                      have HJ := Lib.hid hJ
                      have HRx := Lib.hid (HA2.out.below hE)
                      have HO := Lib.hid HRx.out.wait
                      rw [HBM.out] at HO
                      clear hJ
                      simp only [y4, y13, List.getD_cons_succ, List.getD_cons_zero, fill, slots, List.filterMap_cons, List.filterMap_nil, id, List.foldl_cons, List.foldl_nil, Act.put, List.setIfInBounds_toArray, List.set_cons_succ, List.set_cons_zero]
                      refine append_tup rfl _ _ 56 rfl 0 74 (.agg #[.int .i64 0, .string ⟨#[]⟩]) 2 24 Tryz.underlying56 infoWait rfl (by decide) _ _ _ rfl (show World.ownsRow _ 0 _ 2 _ M (waitC (blown d F (m - F))) from HO.out) g0 [.int .i64 (m : Int), .string (bs (List.replicate d.pg 255))] rfl rfl hLi ?c1 ?c2 ?c3 ?c5 ?_
                      case c1 => simp [Value.oneCell']
                      case c2 => omega
                      case c3 => (unfold maxLen; omega)
                      case c5 => exact Nat.zero_le _
                      intro g cap2 w6 hown6 hgrow6 hat6 hlt6
                      have hpv := HRx.out.push_now hgrow6
                      go_wp2_with fail
                      exact ⟨_, rfl, HJ.out.append hall h17 (by rw [HAP.out]; exact ⟨wx, g, cap2, HRx.out, rfl, hown6, hgrow6, hat6, hE⟩) (by rw [hpv.1]; simp) hpv.2⟩
                    case o15 =>
                      intro d0 ys wx hJ hdi hw hdeps
                      have q0 : d0 0 = true := by simp [Region.Deps2, Go.Region.binds] at hdeps; simp [hdeps]
                      have y0 : ys 83 = .pointer (some ⟨p, 0, none⟩) := hJ.1 0 (by decide) (by decide) (by decide) q0
                      simp only [y0, List.getD_cons_succ, List.getD_cons_zero, fill, slots, List.filterMap_cons, List.filterMap_nil, id, List.foldl_cons, List.foldl_nil, Act.put, List.setIfInBounds_toArray, List.set_cons_succ, List.set_cons_zero]
                      go_wp2_with fail
                      exact ⟨_, rfl, hJ.idle (i := 15) (by decide) rfl⟩
                    case o16 =>
                      intro d0 ys wx hJ hdi hw hdeps
                      have q15 : d0 15 = true := by simp [Region.Deps2, Go.Region.binds] at hdeps; simp [hdeps]
                      have y15 : ys 98 = .pointer (some ⟨p, 0, none⟩) := hJ.1 15 (by decide) (by decide) (by decide) q15
                      simp only [y15, List.getD_cons_succ, List.getD_cons_zero, fill, slots, List.filterMap_cons, List.filterMap_nil, id, List.foldl_cons, List.foldl_nil, Act.put, List.setIfInBounds_toArray, List.set_cons_succ, List.set_cons_zero]
                      go_wp2_with fail
                      exact ⟨_, rfl, hJ.idle (i := 16) (by decide) rfl⟩
                    case o17 =>
                      intro d0 ys wx hJ hdi hw hdeps
                      have q16 : d0 16 = true := by simp [Region.Deps2, Go.Region.binds] at hdeps; simp [hdeps]
                      have y16 : ys 99 = .pointer (some ⟨p, 4, none⟩) := hJ.1 16 (by decide) (by decide) (by decide) q16
                      have q14 : d0 14 = true := by simp [Region.Deps2, Go.Region.binds] at hdeps; simp [hdeps]
                      obtain ⟨w6, hAP, hc6, hf6, h17, hwx⟩ : ∃ w6, AP w6 (ys 97) ∧ w6.cell? ⟨p, 4, none⟩ ≠ none ∧ w6.frozen? ⟨p, 4, none⟩ = false ∧ d0 17 = false ∧ wx = w6 := by
                        rcases hJ.2.2 with ⟨x, _⟩ | ⟨_, _, w6, x1, x2, x3, ⟨x4, x5⟩ | ⟨x4, _⟩⟩
                        · rw [q14] at x; simp at x
                        · exact ⟨w6, x1, x2, x3, x4, x5⟩
                        · rw [hdi] at x4; simp at x4
                      subst hwx
                      rw [HAP.out] at hAP
                      obtain ⟨_, g97, cap97, _, y97, _⟩ := hAP
                      obtain ⟨cv, hcv⟩ := Option.ne_none_iff_exists'.1 hc6
                      have HST := Lib.hid (hJ.store q14 hdi (.tuple #[]))
                      rw [y97] at HST
                      clear hJ hc6
                      simp only [y16, y97, List.getD_cons_succ, List.getD_cons_zero, fill, slots, List.filterMap_cons, List.filterMap_nil, id, List.foldl_cons, List.foldl_nil, Act.put, List.setIfInBounds_toArray, List.set_cons_succ, List.set_cons_zero]
                      go_wp2_with fail
                      first | exact ⟨_, rfl, HST.out⟩ | exact ⟨rfl, _, HST.out⟩ | exact ⟨rfl, HST.out⟩
                  case done =>
                    intro d0 ys wx hJ hall
                    have h15 : ys 99 = .pointer (some ⟨p, 4, none⟩) := hJ.1 16 (by decide) (by decide) (by decide) (hall 16 (by decide))
                    obtain ⟨w6, hA6, hwx⟩ : ∃ w6, AP w6 (ys 97) ∧ wx = w6.setCell ⟨p, 4, none⟩ (ys 97) := by
                      rcases hJ.2.2 with ⟨x, _⟩ | ⟨_, _, w6, x1, x2, x3, ⟨x4, x5⟩ | ⟨_, x5⟩⟩
                      · rw [hall 14 (by decide)] at x; simp at x
                      · rw [hall 17 (by decide)] at x4; simp at x4
                      · exact ⟨w6, x1, x5⟩
                    rw [HAP.out] at hA6
                    obtain ⟨wz, g, cap2, hRz, hv97, hown, hgr, hat, hE⟩ := hA6
                    rw [hv97] at hwx
                    have hK := hRz.push_at m (List.replicate d.pg 255) HBM.out.symm (by unfold waitV; exact hown) hgr hat
                    rw [← hwx] at hK
                    have HK := Lib.hid hK
                    have HEz := Lib.hid hE
                    clear hJ hall hK hwx hown hgr hat hRz hE hv97
                    simp only [List.getD_cons_succ, List.getD_cons_zero, fill, slots, List.filterMap_cons, List.filterMap_nil, id, List.foldl_cons, List.foldl_nil, Act.put, List.setIfInBounds_toArray, List.set_cons_succ, List.set_cons_zero]
                    go_wp2
                    refine ⟨⟨m + 1, by go_num, by omega, by omega, some ⟨g, 0, none⟩, cap2, ?_⟩, by simp [intOf]; omega⟩
                    rw [HLX.out]
                    have hK := HK.out
                    rw [HNX.out] at hK
                    exact ⟨hK.1, HF2.out.trans ((after_below HEz.out).trans hK.2)⟩
                · have z1 : decide ((m : Int) < (F : Int) + (d.pgs : Int)) = false := by simp; omega
                  have z2 : decide (m < F + d.pgs) = false := by simp; omega
                  have HZ := Lib.hid (show blown d F (m - F) = d.wait ++ (List.range d.pgs).map fun i => (F + i, List.replicate d.pg 255) by rw [show m - F = d.pgs by omega]; rfl)
                  go_wp2
                  go_ret
                  rw [HE.out]
                  have hK := HA2.out
                  rw [HZ.out] at hK
                  refine ⟨rfl, _, ⟨_, _, _, _, hK, rfl⟩, ?_⟩
                  exact After.trans (after_below HBr.out) (After.trans (After.of_grows HG1.out (fun j hj => .inl hj)) HF2.out)
      · have q2 : decide ((d.rgs : Int) ≤ (k : Int)) = true := by simp; omega
        have q3 : decide (d.rgs ≤ k) = true := by simp; omega
        have HE := Lib.hid (show eraseD d k = (1, d) by unfold eraseD; rw [hdn, if_neg (by simp), if_pos (by omega)])
        clear h hdn
        go_enter Tryz.func42, Tryz.ntmps42
        go_wp2
        go_ret
        rw [HE.out]
        exact ⟨rfl, _, ⟨_, _, _, _, HA.out, rfl⟩, After.refl _ _⟩
  · rw [hdn] at c7
    have HE := Lib.hid (show eraseD d r = (6, d) by unfold eraseD; rw [hdn]; rfl)
    clear h hdn
    go_enter Tryz.func42, Tryz.ntmps42
    go_wp2
    go_ret
    rw [HE.out]
    exact ⟨rfl, _, ⟨_, _, _, _, HA.out, rfl⟩, After.refl _ _⟩
end Go.Proofs.YtcmjambbdfangaaGreat.Flash
/-
  What the document's own device is when it is new.
-/
set_option linter.unusedVariables false
set_option linter.unusedSimpArgs false
namespace Go.Proofs.YtcmjambbdfangaaGreat.Flash
open Go.RowKit
open Go.Proofs.YtcmjambbdfangaaGreat.Own
open Tup Bytes Foot
open Go.Proofs.YtcmjambbdfangaaGreat.Region (fill Then Deps Each wp_region_tail)

/-- the values of NewFlash's operations: its bytes are new -/
def NV (tab : List Value) (base N : Nat) (bytes : List UInt8) : Nat → Value → World → Prop := fun i v w => if i = 9 then (∃ g0 cap, v = .slice (some ⟨g0, 0, none⟩) N cap ∧ N ≤ cap ∧ Row8 w g0 bytes ∧ base ≤ g0 ∧ g0 < w.heap.size) else v = tab.getD i undef
theorem NV.mono (tab : List Value) (base N : Nat) (bytes : List UInt8) : ∀ i v w w', NV tab base N bytes i v w → Below w.heap.size w w' → NV tab base N bytes i v w' := by
  intro i v w w' h hb
  unfold NV at h ⊢
  split
  · rename_i e
    rw [if_pos e] at h
    obtain ⟨g, cap, h1, h2, h3, h4, h5⟩ := h
    exact ⟨g, cap, h1, h2, h3.below hb, h4, Nat.lt_of_lt_of_le h5 hb.size⟩
  · rename_i e
    rw [if_neg e] at h; exact h
set_option maxRecDepth 100000 in
set_option maxHeartbeats 8000000 in
theorem refNew_full (pg pgs rgs : Nat) (im : ByteArray) (hi : im.size ≤ pg * pgs * rgs) (p0 : 32 ≤ pg) (p1 : pg ≤ 128) (s0 : 3 ≤ pgs) (s1 : pgs ≤ 10) (r0 : 4 ≤ rgs) (r1 : rgs ≤ 12) (w : World) :
    Calls Tryz.prog 29 #[.agg #[.int .i64 (pg : Int), .int .i64 (pgs : Int), .int .i64 (rgs : Int)], .string im] w fun e w' => ∃ p bB cap, e = .returned (ptr p) ∧ RAt w' p (newD pg pgs rgs im.data.toList) bB cap (.slice none 0 0) 0 ∧ Below w.heap.size w w' ∧ w.heap.size ≤ p ∧ w.heap.size ≤ bB := by
  obtain ⟨N, hN⟩ : ∃ N, N = pg * pgs * rgs := ⟨_, rfl⟩
  have hN1 : N ≤ 15360 := by rw [hN]; exact Nat.mul_le_mul (Nat.mul_le_mul p1 s1) r1
  rw [← hN] at hi
  have HS := Lib.hid (fun w => Geom.refSize_any ⟨pg, pgs, rgs⟩ ⟨by simp only; omega, by simp only; omega, by simp only; omega, by simp only; omega, by simp only; omega, by simp only; omega⟩ w)
  have hsz : Geom.sizeG ⟨pg, pgs, rgs⟩ = (N : Int) := by unfold Geom.sizeG; rw [hN]; simp only [Int.natCast_mul]
  rw [hsz] at HS
  unfold Geom.gV at HS
  have HF := Lib.hid (fun w => fill_any 255 ((N : Int) - (im.size : Int)) (N - im.size) (.inl (by omega)) (by omega) w)
  rw [show (((255 : UInt8).toNat : Int)) = 255 from rfl] at HF
  obtain ⟨BY, hBY⟩ : ∃ BY, BY = im ++ bs (List.replicate (N - im.size) 255) := ⟨_, rfl⟩
  have hBl : BY.data.toList = im.data.toList ++ List.replicate (N - im.size) 255 := by rw [hBY]; simp [bs]
  have hBs : BY.size = N := by
    have : BY.data.toList.length = N := by rw [hBl, List.length_append, List.length_replicate]; simp; omega
    simpa using this
  have hcv := fun w => Lib.run_convert_string_bytes (P := Tryz.prog) w 9 55 5 BY Tryz.underlying9 Tryz.underlying55 Tryz.underlying5
  rw [hBs] at hcv
  have HD := Lib.hid (show newD pg pgs rgs im.data.toList = ⟨pg, pgs, rgs, BY.data.toList, [], none, false⟩ by
    unfold newD
    rw [hBl, hN]
    simp)
  have HBs := Lib.hid hBs
  have HBY := Lib.hid hBY
  have hcap : ∀ w, N ≤ grownCap w N 0 5 := fun w => grownCap_ge w N 0 5
  have hsum : im.size + (N - im.size) ≤ 15360 := by omega
  have hbz : (bs (List.replicate (N - im.size) (255 : UInt8))).size = N - im.size := by rw [bs_size, List.length_replicate]
  clear hsz hN hBl hBY hBs
  go_enter Tryz.func29, Tryz.ntmps29
  go_wp2
  refine wp_region_tail 10 [5, 6, 7, 8, 9, 10, 11, 12, 13, 14] (fun w' => Below (w.alloc (.cells #[.int .i64 (pg : Int), .int .i64 (pgs : Int), .int .i64 (rgs : Int)] 23)).heap.size (w.alloc (.cells #[.int .i64 (pg : Int), .int .i64 (pgs : Int), .int .i64 (rgs : Int)] 23)) w') (NV [.agg #[.int .i64 (pg : Int), .int .i64 (pgs : Int), .int .i64 (rgs : Int)], .string im, .agg #[.int .i64 (pg : Int), .int .i64 (pgs : Int), .int .i64 (rgs : Int)], .int .i64 ((N : Nat) : Int), .string im, .int .i64 (im.size : Int), .int .i64 ((N : Int) - (im.size : Int)), .string (bs (List.replicate (N - im.size) 255)), .string (im ++ bs (List.replicate (N - im.size) 255))] (w.alloc (.cells #[.int .i64 (pg : Int), .int .i64 (pgs : Int), .int .i64 (rgs : Int)] 23)).heap.size N BY.data.toList) (by kernel_rfl) (by kernel_rfl) (by kernel_rfl) (by decide) rfl (by decide) (by simp) (NV.mono _ _ _ _) (Below.refl _ _).drew ?each ?tail
  case each =>
    simp only [List.take_succ_cons, List.take_zero, Each]
    refine ⟨?o0, ?o1, ?o2, ?o3, ?o4, ?o5, ?o6, ?o7, ?o8, ?o9, trivial⟩
    case o0 =>
      intro ys wx hBx hdeps
      simp only [Deps, Region.binds, List.getD_cons_zero, List.getD_cons_succ, forall_const, and_true, true_and] at hdeps
      have c0 : wx.cell? ⟨w.heap.size, 0, none⟩ = some (.int .i64 (pg : Int)) := ((Var.new w 23 [.int .i64 (pg : Int), .int .i64 (pgs : Int), .int .i64 (rgs : Int)]).below hBx (by simp)).cell rfl
      have c1 : wx.cell? ⟨w.heap.size, 1, none⟩ = some (.int .i64 (pgs : Int)) := ((Var.new w 23 [.int .i64 (pg : Int), .int .i64 (pgs : Int), .int .i64 (rgs : Int)]).below hBx (by simp)).cell rfl
      have c2 : wx.cell? ⟨w.heap.size, 2, none⟩ = some (.int .i64 (rgs : Int)) := ((Var.new w 23 [.int .i64 (pg : Int), .int .i64 (pgs : Int), .int .i64 (rgs : Int)]).below hBx (by simp)).cell rfl
      clear hdeps
      simp only [fill, List.foldl_cons, List.foldl_nil, Act.put, List.setIfInBounds_toArray, List.set_cons_succ, List.set_cons_zero]
      go_wp2_with fail
      exact ⟨_, rfl, rfl, hBx, Below.refl _ _⟩
    case o1 =>
      intro ys wx hBx hdeps
      simp only [Deps, Region.binds, List.getD_cons_zero, List.getD_cons_succ, forall_const, and_true, true_and] at hdeps
      clear hdeps
      simp only [fill, List.foldl_cons, List.foldl_nil, Act.put, List.setIfInBounds_toArray, List.set_cons_succ, List.set_cons_zero]
      go_wp2_with fail
      exact ⟨_, rfl, rfl, hBx, Below.refl _ _⟩
    case o2 =>
      intro ys wx hBx hdeps
      simp only [Deps, Region.binds, List.getD_cons_zero, List.getD_cons_succ, forall_const, and_true, true_and] at hdeps
      have c0 : wx.cell? ⟨w.heap.size, 0, none⟩ = some (.int .i64 (pg : Int)) := ((Var.new w 23 [.int .i64 (pg : Int), .int .i64 (pgs : Int), .int .i64 (rgs : Int)]).below hBx (by simp)).cell rfl
      have c1 : wx.cell? ⟨w.heap.size, 1, none⟩ = some (.int .i64 (pgs : Int)) := ((Var.new w 23 [.int .i64 (pg : Int), .int .i64 (pgs : Int), .int .i64 (rgs : Int)]).below hBx (by simp)).cell rfl
      have c2 : wx.cell? ⟨w.heap.size, 2, none⟩ = some (.int .i64 (rgs : Int)) := ((Var.new w 23 [.int .i64 (pg : Int), .int .i64 (pgs : Int), .int .i64 (rgs : Int)]).below hBx (by simp)).cell rfl
      clear hdeps
      simp only [fill, List.foldl_cons, List.foldl_nil, Act.put, List.setIfInBounds_toArray, List.set_cons_succ, List.set_cons_zero]
      go_wp2_with fail
      exact ⟨_, rfl, rfl, hBx, Below.refl _ _⟩
    case o3 =>
      intro ys wx hBx hdeps
      simp only [Deps, Region.binds, List.getD_cons_zero, List.getD_cons_succ, forall_const, and_true, true_and] at hdeps
      have y2 : ys 7 = .agg #[.int .i64 (pg : Int), .int .i64 (pgs : Int), .int .i64 (rgs : Int)] := by first | exact hdeps | exact hdeps.1 | exact hdeps.2
      clear hdeps
      simp only [y2, fill, List.foldl_cons, List.foldl_nil, Act.put, List.setIfInBounds_toArray, List.set_cons_succ, List.set_cons_zero]
      go_wp2_with (go_at_call 62; (with_reducible refine (HS.out _).mono ?_); rintro e w3 ⟨rfl, hn3⟩)
      exact ⟨_, rfl, rfl, hBx.trans (hn3.mono hBx.size), hn3⟩
    case o4 =>
      intro ys wx hBx hdeps
      simp only [Deps, Region.binds, List.getD_cons_zero, List.getD_cons_succ, forall_const, and_true, true_and] at hdeps
      clear hdeps
      simp only [fill, List.foldl_cons, List.foldl_nil, Act.put, List.setIfInBounds_toArray, List.set_cons_succ, List.set_cons_zero]
      go_wp2_with fail
      exact ⟨_, rfl, rfl, hBx, Below.refl _ _⟩
    case o5 =>
      intro ys wx hBx hdeps
      simp only [Deps, Region.binds, List.getD_cons_zero, List.getD_cons_succ, forall_const, and_true, true_and] at hdeps
      have y4 : ys 9 = .string im := by first | exact hdeps | exact hdeps.1 | exact hdeps.2
      clear hdeps
      simp only [y4, fill, List.foldl_cons, List.foldl_nil, Act.put, List.setIfInBounds_toArray, List.set_cons_succ, List.set_cons_zero]
      go_wp2_with fail
      exact ⟨_, rfl, rfl, hBx, Below.refl _ _⟩
    case o6 =>
      intro ys wx hBx hdeps
      simp only [Deps, Region.binds, List.getD_cons_zero, List.getD_cons_succ, forall_const, and_true, true_and] at hdeps
      have y3 : ys 8 = .int .i64 ((N : Nat) : Int) := by first | exact hdeps | exact hdeps.1 | exact hdeps.2
      have y5 : ys 10 = .int .i64 (im.size : Int) := by first | exact hdeps | exact hdeps.1 | exact hdeps.2
      clear hdeps
      simp only [y3, y5, fill, List.foldl_cons, List.foldl_nil, Act.put, List.setIfInBounds_toArray, List.set_cons_succ, List.set_cons_zero]
      go_wp2_with fail
      exact ⟨_, rfl, rfl, hBx, Below.refl _ _⟩
    case o7 =>
      intro ys wx hBx hdeps
      simp only [Deps, Region.binds, List.getD_cons_zero, List.getD_cons_succ, forall_const, and_true, true_and] at hdeps
      have y6 : ys 11 = .int .i64 ((N : Int) - (im.size : Int)) := by first | exact hdeps | exact hdeps.1 | exact hdeps.2
      clear hdeps
      simp only [y6, fill, List.foldl_cons, List.foldl_nil, Act.put, List.setIfInBounds_toArray, List.set_cons_succ, List.set_cons_zero]
      go_wp2_with (go_at_call 61; (with_reducible refine (HF.out _).mono ?_); rintro e w3 ⟨rfl, hn3⟩)
      exact ⟨_, rfl, rfl, hBx.trans (hn3.mono hBx.size), hn3⟩
    case o8 =>
      intro ys wx hBx hdeps
      simp only [Deps, Region.binds, List.getD_cons_zero, List.getD_cons_succ, forall_const, and_true, true_and] at hdeps
      have y1 : ys 6 = .string im := by first | exact hdeps | exact hdeps.1 | exact hdeps.2
      have y7 : ys 12 = .string (bs (List.replicate (N - im.size) 255)) := by first | exact hdeps | exact hdeps.1 | exact hdeps.2
      clear hdeps
      simp only [y1, y7, fill, List.foldl_cons, List.foldl_nil, Act.put, List.setIfInBounds_toArray, List.set_cons_succ, List.set_cons_zero]
      go_wp2_with fail
      exact ⟨_, rfl, rfl, hBx, Below.refl _ _⟩
    case o9 =>
      intro ys wx hBx hdeps
      simp only [Deps, Region.binds, List.getD_cons_zero, List.getD_cons_succ, forall_const, and_true, true_and] at hdeps
      have y8 : ys 13 = .string (im ++ bs (List.replicate (N - im.size) 255)) := by first | exact hdeps | exact hdeps.1 | exact hdeps.2
      clear hdeps
      rw [← HBY.out] at y8
      simp only [y8, fill, List.foldl_cons, List.foldl_nil, Act.put, List.setIfInBounds_toArray, List.set_cons_succ, List.set_cons_zero]
      go_wp2_with fail
      have hbb := bytes_below wx 5 BY
      have hss : (Lib.bytesWorld wx 5 BY).heap.size = wx.heap.size + 1 := Lib.bytesWorld_size _ _ _
      exact ⟨_, rfl, ⟨wx.heap.size, _, rfl, hcap wx, Row8.of_string wx 5 BY, hBx.size, by omega⟩, hBx.trans (hbb.mono hBx.size), hbb⟩
  case tail =>
    intro ys wx hBx hV
    have h5 : ys 5 = .agg #[.int .i64 (pg : Int), .int .i64 (pgs : Int), .int .i64 (rgs : Int)] := hV 0 (by decide)
    have h14 : ∃ g0 cap, ys 14 = .slice (some ⟨g0, 0, none⟩) N cap ∧ N ≤ cap ∧ Row8 wx g0 BY.data.toList ∧ (w.alloc (.cells #[.int .i64 (pg : Int), .int .i64 (pgs : Int), .int .i64 (rgs : Int)] 23)).heap.size ≤ g0 ∧ g0 < wx.heap.size := hV 9 (by decide)
    with_reducible refine Exists.elim h14 ?_
    intro g0 h14
    with_reducible refine Exists.elim h14 ?_
    intro cap hh
    have hg0 := hh.1
    have HC := Lib.hid hh.2.1
    have HR := Lib.hid hh.2.2.1
    have HG := Lib.hid hh.2.2.2
    have HB := Lib.hid (Geom.bel0 (Geom.bel_alloc w (.cells #[.int .i64 (pg : Int), .int .i64 (pgs : Int), .int .i64 (rgs : Int)] 23)) hBx)
    clear hh h14 hV hBx
    simp only [h5, hg0, fill, List.drop_succ_cons, List.drop_zero, List.foldl_cons, List.foldl_nil, Act.put, List.setIfInBounds_toArray, List.set_cons_succ, List.set_cons_zero]
    go_wp2
    go_ret
    have hs0 : (w.alloc (.cells #[.int .i64 (pg : Int), .int .i64 (pgs : Int), .int .i64 (rgs : Int)] 23)).heap.size = w.heap.size + 1 := by simp
    refine ⟨wx.heap.size, g0, cap, rfl, ?_, HB.out.alloc HB.out.size _, HB.out.size, by have := HG.out.1; omega⟩
    rw [HD.out]
    have hv := Var.new wx 58 [.int .i64 (pg : Int), .int .i64 (pgs : Int), .int .i64 (rgs : Int), .slice (some ⟨g0, 0, none⟩) N cap, .slice none 0 0, .bool false, .int .i64 0, .bool false]
    have hl : BY.data.toList.length = N := by simpa using HBs.out
    refine ⟨?_, HR.out.alloc _, by have := HG.out.2; simp; omega, ⟨rfl, .inl ⟨rfl, rfl⟩⟩, by simp, by omega, by rw [hl]; exact HC.out, by have := HG.out.2; omega, by simp [Value.ownBlock], by simp [Value.ownBlock]⟩
    simp only [hl]
    exact hv
theorem refNew_any (pg pgs rgs : Nat) (im : ByteArray) (hi : im.size ≤ pg * pgs * rgs) (p0 : 32 ≤ pg) (p1 : pg ≤ 128) (s0 : 3 ≤ pgs) (s1 : pgs ≤ 10) (r0 : 4 ≤ rgs) (r1 : rgs ≤ 12) (w : World) :
    Calls Tryz.prog 29 #[.agg #[.int .i64 (pg : Int), .int .i64 (pgs : Int), .int .i64 (rgs : Int)], .string im] w fun e w' => ∃ p S, e = .returned (ptr p) ∧ RHas w' p (newD pg pgs rgs im.data.toList) S ∧ Below w.heap.size w w' ∧ ∀ k, S k → w.heap.size ≤ k := by
  refine (refNew_full pg pgs rgs im hi p0 p1 s0 s1 r0 r1 w).mono ?_
  rintro e w' ⟨p, bB, cap, h1, h2, h3, h4, h5⟩
  refine ⟨p, foot p bB (.slice none 0 0), h1, ⟨bB, cap, _, _, h2, rfl⟩, h3, ?_⟩
  rintro k (rfl | rfl | hk)
  · exact h4
  · exact h5
  · simp [Value.ownBlock] at hk
end Go.Proofs.YtcmjambbdfangaaGreat.Flash
