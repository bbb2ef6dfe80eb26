/-
  What the document's own device answers to Program.
-/
import Derived.Test.YtgcbdekdjdlfaaaFlashT
set_option linter.unusedVariables false
set_option linter.unusedSimpArgs false
namespace Go.Proofs.Ytgcbdekdjdlfaaa.Flash
open Go.RowKit
open Go.Proofs.Ytgcbdekdjdlfaaa.Own
open Tup Bytes Foot

theorem held_length {d : Dev} (h : d.Ok) {k : Nat} (hk : k < d.n) : (d.held k).length = d.pg := by
  have : ∀ (l : List (Nat × List UInt8)) (s : List UInt8), (∀ x ∈ l, x.2.length = d.pg) → s.length = d.pg → (l.foldl (fun s x => if x.1 = k then x.2 else s) s).length = d.pg := by
    intro l
    induction l with
    | nil => intro s _ hs; exact hs
    | cons x r ih =>
      intro s hx hs
      rw [List.foldl_cons]
      refine ih _ (fun y hy => hx y (List.mem_cons_of_mem _ hy)) ?_
      split
      · exact hx x (List.mem_cons_self ..)
      · exact hs
  exact this _ _ (fun x hx => (h.wait x hx).2) (cut_length (h.page hk))
theorem owns_below {w w' : World} {base : Nat} {e : TypeId} {size : Nat} {v : Value} {n : Nat} {xs : List Value} (h : w.ownsRow base e size v n xs) (g : Below w.heap.size w w') : w'.ownsRow base e size v n xs := owns_grows h (Grows.of_below (S := fun _ => False) g) (fun _ _ x => x)
theorem infoWait : (Try.prog.info? 83).map (fun i => (i.zero, i.size, i.bytes)) = some (some (.agg #[.int .i64 0, .string ⟨#[]⟩]), 2, 24) := by kernel_rfl
theorem after_below {S : Nat → Prop} {w w' : World} (g : Below w.heap.size w w') : After S w w' S := ⟨.of_below g, fun _ h => .inl h⟩
theorem After.of_grows {S T : Nat → Prop} {w w' : World} (g : Grows T w w') (h : ∀ k, T k → S k) : After S w w' S := ⟨g.mono h, fun _ h => .inl h⟩
def waitV (k : Nat) (b : List UInt8) : List Value := [.int .i64 (k : Int), .string (bs b)]
/-- a page is laid behind what is pending -/
theorem RAt.push {w5 w6 : World} {p : Nat} {e : Dev} {bB cap : Nat} {wv : Value} {fy : Nat} (h : RAt w5 p e bB cap wv fy) (o : Obj) (k : Nat) (b : List UInt8) {g cap2 n : Nat} (hn : n = e.wait.length)
    (hown : w6.ownsRow 0 83 2 (.slice (some ⟨g, 0, none⟩) (n + 1) cap2) (n + 1) (waitC e.wait ++ waitV k b)) (hgr : (w5.alloc o).grownBy w6 wv.ownBlock) (hat : wv.ownBlock = some g ∨ g = (w5.alloc o).heap.size) :
    RAt (w6.setCell ⟨p, 4, none⟩ (.slice (some ⟨g, 0, none⟩) (n + 1) cap2)) p { e with wait := e.wait ++ [(k, b)] } bB cap (.slice (some ⟨g, 0, none⟩) (n + 1) cap2) fy
    ∧ After (foot p bB wv) w5 (w6.setCell ⟨p, 4, none⟩ (.slice (some ⟨g, 0, none⟩) (n + 1) cap2)) (foot p bB (.slice (some ⟨g, 0, none⟩) (n + 1) cap2)) := by
  have hp := h.var.lt
  have hB := h.lt
  have hs : (w5.alloc o).heap.size = w5.heap.size + 1 := by simp
  have hgp : g ≠ p := by
    rcases hat with x | x
    · intro y; subst y; exact h.ne2 x
    · omega
  have hgB : g ≠ bB := by
    rcases hat with x | x
    · intro y; subst y; exact h.ne3 x
    · omega
  have hv6 : Var w6 p _ _ := (h.var.alloc o).kept hgr h.ne2
  have g1 : Grows (fun k => wv.ownBlock = some k) w5 w6 := (Grows.alloc (fun _ => False) w5 o).mono (fun _ x => x.elim) |>.trans (Grows.grown (S := fun k => wv.ownBlock = some k) hgr (fun k hk => hk)) (fun j hj => .inl hj)
  have hr6 : Row8 w6 bB e.img := h.row.grows g1 h.ne3
  have g2 : Grows (· = p) w6 (w6.setCell ⟨p, 4, none⟩ (.slice (some ⟨g, 0, none⟩) (n + 1) cap2)) := Grows.set _ _ _ rfl
  refine ⟨⟨hv6.set 4 _, hr6.grows g2 h.ne1, Nat.lt_of_lt_of_le hB (Nat.le_trans g1.size g2.size), ?_, h.fuz, h.fuz0, h.capl, h.ne1, ?_, ?_⟩, ?_, ?_⟩
  · have hl : (e.wait ++ [(k, b)]).length = n + 1 := by simp [hn]
    show World.ownsRow _ 0 _ 2 _ (e.wait ++ [(k, b)]).length (waitC (e.wait ++ [(k, b)]))
    rw [hl, waitC_append]
    exact owns_grows hown g2 (fun j hj => by
      have : g = j := by simpa [Value.ownBlock] using hj
      omega)
  · simp [Value.ownBlock]; exact hgp
  · simp [Value.ownBlock]; exact hgB
  · exact (g1.mono (fun j hj => Or.inr (Or.inr hj))).trans g2 (fun j hj => .inl (.inl hj))
  · rintro j (rfl | rfl | hj)
    · exact .inl (.inl rfl)
    · exact .inl (.inr (.inl rfl))
    · have : g = j := by simpa [Value.ownBlock] using hj
      subst this
      rcases hat with x | x
      · exact .inl (.inr (.inr x))
      · exact .inr (by omega)
theorem RAt.push_var {w5 w6 : World} {p : Nat} {e : Dev} {bB cap : Nat} {wv : Value} {fy : Nat} (h : RAt w5 p e bB cap wv fy) (o : Obj) (hgr : (w5.alloc o).grownBy w6 wv.ownBlock) : w6.cell? ⟨p, 4, none⟩ = some wv ∧ w6.frozen? ⟨p, 4, none⟩ = false :=
  ⟨((h.var.alloc o).kept hgr h.ne2).cell (j := 4) rfl, ((h.var.alloc o).kept hgr h.ne2).frozen 4⟩
theorem waitV_one (k : Nat) (b : List UInt8) : ∀ u ∈ waitV k b, u.oneCell' = true := by simp [waitV, Value.oneCell']
set_option maxRecDepth 100000 in
set_option maxHeartbeats 4000000 in
theorem refProgram_any {w : World} {p : Nat} {d : Dev} {bB cap : Nat} {wv : Value} {fz : Nat} (h : RAt w p d bB cap wv fz) (hd : d.Ok) (q : Int) (b : ByteArray) :
    Calls Try.prog 43 #[ptr p, .int .i64 q, .string b] w fun e w' => e = .returned (.int .i64 ((programD d q b.data.toList).1 : Int)) ∧ ∃ S, RHas w' p (programD d q b.data.toList).2 S ∧ After (foot p bB wv) w w' S := by
  have c0 := h.var.cell (j := 0) rfl
  have c7 := h.var.cell (j := 7) rfl
  have HA := Lib.hid h
  have HP := Lib.hid (fun w' (hb : Below w.heap.size w w') => refPages_any (h.below hb) hd)
  unfold ptr at HP ⊢
  rcases hdn : d.down with _ | _
  · rw [hdn] at c7
    rcases has_cases d q with ⟨h1, h2⟩ | ⟨h1, h2, h3⟩ | ⟨h1, h2, h3⟩
    · have HE := Lib.hid (show programD d q b.data.toList = (1, d) from program_arg hdn (.inl h2))
      clear h hdn h2
      go_enter Try.func43, Try.ntmps43
      go_wp2
      go_ret
      rw [HE.out]
      exact ⟨rfl, _, ⟨_, _, _, _, HA.out, rfl⟩, After.refl _ _⟩
    · have HE := Lib.hid (show programD d q b.data.toList = (1, d) from program_arg hdn (.inl h3))
      clear h hdn h3
      go_enter Try.func43, Try.ntmps43
      go_wp2_with (go_at_call 60; (with_reducible refine (HP.out _ (Below.refl _ _)).mono ?_); rintro e w3 ⟨rfl, k3, rfl⟩)
      go_ret
      rw [HE.out]
      exact ⟨rfl, _, ⟨_, _, _, _, HA.out.below (below_drewN _ _), rfl⟩, after_below (below_drewN _ _)⟩
    · obtain ⟨i1, i2⟩ := has_lt h3
      obtain ⟨k, rfl⟩ : ∃ k : Nat, q = (k : Int) := ⟨q.toNat, by omega⟩
      rw [Int.toNat_natCast] at i1
      have h4 : decide (d.n ≤ k) = false := by simp; omega
      by_cases hsz : b.size = d.pg
      · have e1 : ((b.size : Int) != (d.pg : Int)) = false := by simp [hsz]
        have e2 : ((b.size : Int) == (d.pg : Int)) = true := by simp [hsz]
        have e3 : (b.size == d.pg) = true := by simp [hsz]
        have HW := Lib.hid (fun w' (hb : Below w.heap.size w w') => refWaits_any (h.below hb) hd k)
        have HH := Lib.hid (fun w' (hb : Below w.heap.size w w') => refHeld_any (h.below hb) hd k i1)
        unfold ptr at HW HH
        have hbl : b.data.toList.length = d.pg := by simpa using hsz
        have hp1 := hd.p1
        rcases hwt : d.waits k with _ | _
        · rw [hwt] at HW
          have hhl : (bs (d.held k)).size ≤ maxLen := by
            rw [bs_size]
            have hpl : (d.held k).length = d.pg := held_length hd i1
            rw [hpl]; unfold maxLen; omega
          have HB := Lib.hid (fun w' => refBlank_any (bs (d.held k)) hhl w')
          rw [list_bs] at HB
          clear hhl
          rcases hbk : blank (d.held k) with _ | _
          · rw [hbk] at HB
            have HE := Lib.hid (show programD d k b.data.toList = (7, d) from program_state hdn i1 hbl (.inr hbk))
            clear h hdn h3 hwt hbk i1 i2 hbl hsz
            go_enter Try.func43, Try.ntmps43
            go_wp2_with (first
              | (go_at_call 60; (with_reducible refine (HP.out _ (Below.refl _ _)).mono ?_); rintro e w3 ⟨rfl, k3, rfl⟩)
              | (go_at_call 62; (with_reducible refine (HW.out _ (below_drewN _ _)).mono ?_); rintro e w4 ⟨rfl, rfl⟩)
              | (go_at_call 61; (with_reducible refine (HH.out _ (below_drewN _ _)).mono ?_); rintro e w4 ⟨rfl, hb4⟩)
              | (go_at_call 32; (with_reducible refine (HB.out _).mono ?_); rintro e w5 ⟨rfl, rfl⟩))
            go_ret
            rw [HE.out]
            exact ⟨rfl, _, ⟨_, _, _, _, HA.out.below (bel2 (below_drewN _ _) hb4), rfl⟩, after_below (bel2 (below_drewN _ _) hb4)⟩
          · rw [hbk] at HB
            have HE := Lib.hid (program_ok hdn i1 hbl hwt hbk)
            have HR := Lib.hid (fun w' (hb : Below w.heap.size w w') => refBlows_any (h.below hb))
            unfold ptr at HR
            have hwl := hd.wait_le
            obtain ⟨a, c, rfl⟩ := h.slice
            have hbw := (blow_img d).2.1
            have HBW := Lib.hid hbw
            have HZ := Lib.hid (bs_list b)
            clear h hdn h3 hwt hbk i1 i2 hbl hsz hbw
            rcases hbb : d.blow.1 with _ | _
            all_goals
              rw [hbb] at HE HR
              go_enter Try.func43, Try.ntmps43
              go_wp2_with (first
                | (go_at_call 60; (with_reducible refine (HP.out _ (Below.refl _ _)).mono ?_); rintro e w3 ⟨rfl, k3, rfl⟩)
                | (go_at_call 62; (with_reducible refine (HW.out _ (below_drewN _ _)).mono ?_); rintro e w4 ⟨rfl, rfl⟩)
                | (go_at_call 61; (with_reducible refine (HH.out _ (below_drewN _ _)).mono ?_); rintro e w4 ⟨rfl, hb4⟩)
                | (go_at_call 32; (with_reducible refine (HB.out _).mono ?_); rintro e w5 ⟨rfl, rfl⟩)
                | (go_at_call 58; (with_reducible refine (HR.out _ (bel2 (below_drewN _ _) hb4)).mono ?_); rintro e w5 ⟨rfl, hg5, fy, hR5⟩; have c4 := hR5.var.cell (j := 4) rfl; have hO5 := hR5.wait; rw [HBW.out] at hO5; have HR5 := Lib.hid hR5; clear hR5)
                | (at_builtin; (refine append_tup rfl _ _ 67 rfl 0 83 (.agg #[.int .i64 0, .string ⟨#[]⟩]) 2 24 Try.underlying67 infoWait rfl (by decide) _ _ _ rfl (show World.ownsRow _ 0 _ 2 _ d.wait.length (waitC d.wait) from owns_below hO5 (Geom.bel_alloc _ _)) w5.heap.size [.int .i64 (k : Int), .string b] rfl rfl ?c0 ?c1 ?c2 ?c3 ?c5 ?_); (case c0 => exact lies_new _ [.int .i64 (k : Int), .string b] _); (case c1 => simp [Value.oneCell']); (case c2 => omega); (case c3 => (unfold maxLen; omega)); (case c5 => exact Nat.zero_le _); intro g cap2 w6 hown6 hgrow6 hat6 hlt6; have hpv := HR5.out.push_var _ hgrow6; have v1 := hpv.1; have v2 := hpv.2; clear hpv))
              go_ret
              rw [HE.out]
              have hK := HR5.out.push _ k b.data.toList (by rw [HBW.out]) (by rw [HBW.out]; unfold waitV; rw [HZ.out]; exact hown6) hgrow6 hat6
              rw [HBW.out] at hK
              refine ⟨rfl, _, ⟨_, _, _, _, hK.1, rfl⟩, ?_⟩
              refine After.trans (S1 := foot p bB (.slice a d.wait.length c)) ?_ hK.2
              exact After.trans (after_below (bel2 (below_drewN _ _) hb4)) (After.of_grows hg5 (fun j hj => .inl hj))
        · rw [hwt] at HW
          have HE := Lib.hid (show programD d k b.data.toList = (7, d) from program_state hdn i1 hbl (.inl hwt))
          clear h hdn h3 hwt i1 i2 hbl hsz
          go_enter Try.func43, Try.ntmps43
          go_wp2_with (first
            | (go_at_call 60; (with_reducible refine (HP.out _ (Below.refl _ _)).mono ?_); rintro e w3 ⟨rfl, k3, rfl⟩)
            | (go_at_call 62; (with_reducible refine (HW.out _ (below_drewN _ _)).mono ?_); rintro e w4 ⟨rfl, rfl⟩))
          go_ret
          rw [HE.out]
          exact ⟨rfl, _, ⟨_, _, _, _, HA.out.below (below_drewN _ _), rfl⟩, after_below (below_drewN _ _)⟩
      · have e1 : ((b.size : Int) != (d.pg : Int)) = true := by simp; omega
        have e2 : ((b.size : Int) == (d.pg : Int)) = false := by simp; omega
        have e3 : (b.size == d.pg) = false := by simp; omega
        have HE := Lib.hid (show programD d k b.data.toList = (1, d) from program_arg hdn (.inr (by simpa using hsz)))
        clear h hdn h3 i1 i2
        go_enter Try.func43, Try.ntmps43
        go_wp2_with (go_at_call 60; (with_reducible refine (HP.out _ (Below.refl _ _)).mono ?_); rintro e w3 ⟨rfl, k3, rfl⟩)
        go_ret
        rw [HE.out]
        exact ⟨rfl, _, ⟨_, _, _, _, HA.out.below (below_drewN _ _), rfl⟩, after_below (below_drewN _ _)⟩
  · rw [hdn] at c7
    have HE := Lib.hid (show programD d q b.data.toList = (6, d) by unfold programD; rw [hdn]; rfl)
    clear h hdn
    go_enter Try.func43, Try.ntmps43
    go_wp2
    go_ret
    rw [HE.out]
    exact ⟨rfl, _, ⟨_, _, _, _, HA.out, rfl⟩, After.refl _ _⟩
end Go.Proofs.Ytgcbdekdjdlfaaa.Flash
