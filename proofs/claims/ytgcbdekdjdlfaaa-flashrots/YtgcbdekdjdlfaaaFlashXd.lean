/-
  The landed device: Program.
-/
import Derived.Test.YtgcbdekdjdlfaaaFlashXc
set_option linter.unusedVariables false
set_option linter.unusedSimpArgs false
namespace Go.Proofs.Ytgcbdekdjdlfaaa.Flash
open Go.RowKit
open Go.Proofs.Ytgcbdekdjdlfaaa.Own
open Tup Bytes Foot

theorem infoChange : (Try.prog.info? 74).map (fun i => (i.zero, i.size, i.bytes)) = some (some (.agg #[.int .i64 0, .slice none 0 0]), 2, 32) := by kernel_rfl
/-- a page is laid behind what is pending: its bytes are a new row -/
theorem FAt.push {w0 w5 w6 : World} {p : Nat} {e : Dev} {bB cap : Nat} {wv : Value} {fy : Nat} {E : List Ent} (h0 : FAt w0 p e bB cap wv fy E) (hb : Below w0.heap.size w0 w5) (o : Obj) (y : Ent)
    (hy : Row8 w5 y.g y.b ∧ y.b.length ≤ y.c ∧ w0.heap.size ≤ y.g ∧ y.g < w5.heap.size) {g cap2 n : Nat} (hn : n = E.length)
    (hown : w6.ownsRow 0 74 2 (.slice (some ⟨g, 0, none⟩) (n + 1) cap2) (n + 1) (rowC E ++ rowC [y])) (hgr : (w5.alloc o).grownBy w6 wv.ownBlock) (hat : wv.ownBlock = some g ∨ g = (w5.alloc o).heap.size) :
    FAt (w6.setCell ⟨p, 4, none⟩ (.slice (some ⟨g, 0, none⟩) (n + 1) cap2)) p { e with wait := e.wait ++ [(y.q, y.b)] } bB cap (.slice (some ⟨g, 0, none⟩) (n + 1) cap2) fy (E ++ [y])
    ∧ After (footF p bB wv E) w0 (w6.setCell ⟨p, 4, none⟩ (.slice (some ⟨g, 0, none⟩) (n + 1) cap2)) (footF p bB (.slice (some ⟨g, 0, none⟩) (n + 1) cap2) (E ++ [y])) := by
  have h := h0.below hb
  obtain ⟨hy1, hy2, hy3, hy4⟩ := hy
  have hp := h.var.lt
  have hB := h.lt
  have hp0 := h0.var.lt
  have hB0 := h0.lt
  have hw0 : ∀ k, wv.ownBlock = some k → k < w0.heap.size := fun k hk => Flash.owns_lt h0.wait hk
  have hsz := hb.size
  have hs : (w5.alloc o).heap.size = w5.heap.size + 1 := by simp
  have hgp : g ≠ p := by
    rcases hat with x | x
    · intro z; subst z; exact h.ne2 x
    · omega
  have hgB : g ≠ bB := by
    rcases hat with x | x
    · intro z; subst z; exact h.ne3 x
    · omega
  have hgy : g ≠ y.g := by
    rcases hat with x | x
    · have := hw0 g x; omega
    · omega
  have hyw : wv.ownBlock ≠ some y.g := fun z => by have := hw0 _ z; omega
  have hv6 : Var w6 p _ _ := (h.var.alloc o).kept hgr h.ne2
  have g1 : Grows (fun k => wv.ownBlock = some k) w5 w6 := (Grows.alloc (fun _ => False) w5 o).mono (fun _ x => x.elim) |>.trans (Grows.grown (S := fun k => wv.ownBlock = some k) hgr (fun k hk => hk)) (fun j hj => .inl hj)
  have hr6 : Row8 w6 bB e.img := h.row.grows g1 h.ne3
  have g2 : Grows (· = p) w6 (w6.setCell ⟨p, 4, none⟩ (.slice (some ⟨g, 0, none⟩) (n + 1) cap2)) := Grows.set _ _ _ rfl
  refine ⟨⟨hv6.set 4 _, hr6.grows g2 h.ne1, Nat.lt_of_lt_of_le hB (Nat.le_trans g1.size g2.size), ?_, ?_, ?_, h.fuz, h.fuz0, h.capl, h.ne1, ?_, ?_⟩, ?_, ?_⟩
  · have hl : (E ++ [y]).length = n + 1 := by simp [hn]
    rw [hl, rowC_append]
    exact owns_grows hown g2 (fun j hj => by
      have : g = j := by simpa [Value.ownBlock] using hj
      omega)
  · show e.wait ++ [(y.q, y.b)] = (E ++ [y]).map entW
    rw [List.map_append, h.ents]; rfl
  · intro x hx
    rcases List.mem_append.1 hx with hx | hx
    · obtain ⟨a, b, c, u, v, z⟩ := h.rows x hx
      refine ⟨(a.grows g1 z).grows g2 u, b, Nat.lt_of_lt_of_le c (Nat.le_trans g1.size g2.size), u, v, ?_⟩
      simp only [Value.ownBlock, ne_eq, Option.some.injEq]
      rcases hat with k | k
      · intro q; subst q; exact z k
      · omega
    · obtain rfl : x = y := by simpa using hx
      refine ⟨(hy1.grows g1 hyw).grows g2 (by show ¬ _ = _; omega), hy2, Nat.lt_of_lt_of_le hy4 (Nat.le_trans g1.size g2.size), by omega, by omega, ?_⟩
      simp only [Value.ownBlock, ne_eq, Option.some.injEq]; exact hgy
  · simp [Value.ownBlock]; exact hgp
  · simp [Value.ownBlock]; exact hgB
  · exact ((Grows.of_below (S := fun _ => False) hb).mono (S' := footF p bB wv E) (fun _ x => x.elim)).trans ((g1.mono (S' := footF p bB wv E) (fun j hj => Or.inr (Or.inr (Or.inl hj)))).trans g2 (fun j hj => .inl (.inl hj))) (fun j hj => .inl hj)
  · rintro j (rfl | rfl | hj | ⟨x, hx, rfl⟩)
    · exact .inl (.inl rfl)
    · exact .inl (.inr (.inl rfl))
    · have : g = j := by simpa [Value.ownBlock] using hj
      subst this
      rcases hat with x | x
      · exact .inl (.inr (.inr (.inl x)))
      · exact .inr (by omega)
    · rcases List.mem_append.1 hx with hx | hx
      · exact .inl (.inr (.inr (.inr ⟨x, hx, rfl⟩)))
      · obtain rfl : x = y := by simpa using hx
        exact .inr hy3
theorem FAt.push_var {w5 w6 : World} {p : Nat} {e : Dev} {bB cap : Nat} {wv : Value} {fy : Nat} {E : List Ent} (h : FAt w5 p e bB cap wv fy E) (o : Obj) (hgr : (w5.alloc o).grownBy w6 wv.ownBlock) : w6.cell? ⟨p, 4, none⟩ = some wv ∧ w6.frozen? ⟨p, 4, none⟩ = false :=
  ⟨((h.var.alloc o).kept hgr h.ne2).cell (j := 4) rfl, ((h.var.alloc o).kept hgr h.ne2).frozen 4⟩
theorem blow_wait (d : Dev) (l : List (Nat × List UInt8)) : ({ d with wait := l } : Dev).blow = (d.blow.1, { d.blow.2 with wait := l }) := by
  unfold Dev.blow
  obtain ⟨a, b, c, e, f, g, h⟩ := d
  rcases g with _ | _ | k <;> rfl
theorem code_nat (d : Dev) : (((if d.blow.1 then 6 else 0 : Nat)) : Int) = d.code := by unfold Dev.code; split <;> rfl
theorem code_wait (d : Dev) (l : List (Nat × List UInt8)) : ({ d with wait := l } : Dev).code = d.code := by unfold Dev.code; rw [blow_wait]
theorem after_mid {S T : Nat → Prop} {w w1 w' : World} (hb : Below w.heap.size w w1) (h : After S w1 w' T) : After S w w' T := After.trans (after_below hb) h
set_option maxRecDepth 100000 in
set_option maxHeartbeats 8000000 in
theorem atProgram_any {w : World} {p : Nat} {d : Dev} {bB cap : Nat} {wv : Value} {fz : Nat} {E : List Ent} (h : FAt w p d bB cap wv fz E) (hd : d.Ok) (q : Int) (b : ByteArray) :
    Calls Try.prog 26 #[ptr p, .int .i64 q, .string b] w fun e w' => e = .returned (.int .i64 ((programD d q b.data.toList).1 : Int)) ∧ ∃ S, FHas w' p (programD d q b.data.toList).2 S ∧ After (footF p bB wv E) w w' S := by
  have HA := Lib.hid h
  have HD := Lib.hid (fun w' (hb : Below w.heap.size w w') => atDown_any (h.below hb))
  have HH := Lib.hid (fun w' (hb : Below w.heap.size w w') q => atHas_any (h.below hb) hd q)
  unfold ptr at HD HH ⊢
  rcases hdn : d.down with _ | _
  · rw [hdn] at HD
    rcases hh : d.has q with _ | _
    · have HHq := Lib.hid (fun w' hb => HH.out w' hb q)
      rw [hh] at HHq
      have HE := Lib.hid (show programD d q b.data.toList = (1, d) from program_arg hdn (.inl hh))
      clear h hd hdn hh HH
      go_enter Try.func26, Try.ntmps26
      go_wp2_with (first
        | (go_at_call 23; (with_reducible refine (HD.out _ (Below.refl _ _)).mono ?_); rintro e w3 ⟨rfl, rfl⟩)
        | (go_at_call 45; (with_reducible refine (HHq.out _ (Below.refl _ _)).mono ?_); rintro e w4 ⟨rfl, hb4⟩))
      go_ret
      rw [HE.out]
      exact ⟨rfl, _, ⟨_, _, _, _, _, HA.out.below hb4, rfl⟩, after_below hb4⟩
    · obtain ⟨i1, i2⟩ := has_lt hh
      obtain ⟨k, rfl⟩ : ∃ k : Nat, q = (k : Int) := ⟨q.toNat, by omega⟩
      rw [Int.toNat_natCast] at i1
      have HHq := Lib.hid (fun w' hb => HH.out w' hb (k : Int))
      rw [hh] at HHq
      have c0 := h.var.cell (j := 0) rfl
      have hpl := h.var.lt
      have HC0 := Lib.hid (fun wx (hb : Below w.heap.size w wx) => hb.cell (p := ⟨p, 0, none⟩) hpl |>.trans c0)
      by_cases hsz : b.size = d.pg
      · have e1 : ((b.size : Int) != (d.pg : Int)) = false := by simp [hsz]
        have e2 : ((b.size : Int) == (d.pg : Int)) = true := by simp [hsz]
        have e3 : (b.size == d.pg) = true := by simp [hsz]
        have hbl : b.data.toList.length = d.pg := by simpa using hsz
        have hn120 := hd.n_le
        have HP := Lib.hid (fun w' (hb : Below w.heap.size w w') => atAnyPending_any (h.below hb) hd k 1 (by omega) (by omega))
        rw [anyOf_one, show ((1 : Nat) : Int) = 1 from rfl] at HP
        unfold ptr at HP
        rcases hwt : d.waits k with _ | _
        · rw [hwt] at HP
          have HS := Lib.hid (fun w' (hb : Below w.heap.size w w') => atStands_any (h.below hb) hd k i1)
          have HB := Lib.hid (fun w' (hb : Below w.heap.size w w') => isBlank_any (h.below hb).row (k * d.pg) d.pg (cap - k * d.pg) (hd.page i1) (by have := hd.img_le; omega))
          rw [← held_off hwt] at HB
          unfold ptr at HS
          rcases hbk : blank (d.held k) with _ | _
          · rw [hbk] at HB
            have HE := Lib.hid (show programD d k b.data.toList = (7, d) from program_state hdn i1 hbl (.inr hbk))
            clear h hdn hh HH hwt hbk i1 i2 hbl hsz c0 hpl hd hn120
            go_enter Try.func26, Try.ntmps26
            go_wp2_with (first
              | (go_at_call 23; (with_reducible refine (HD.out _ (Below.refl _ _)).mono ?_); rintro e w3 ⟨rfl, rfl⟩)
              | (go_at_call 45; (with_reducible refine (HHq.out _ (Below.refl _ _)).mono ?_); rintro e w4 ⟨rfl, hb4⟩; have d0 := HC0.out _ hb4)
              | (go_at_call 46; (with_reducible refine (HP.out _ hb4).mono ?_); rintro e w5 ⟨rfl, hb5⟩)
              | (go_at_call 48; (with_reducible refine (HS.out _ (bel2 hb4 hb5)).mono ?_); rintro e w6 ⟨rfl, k6, rfl⟩)
              | (go_at_call 47; (with_reducible refine (HB.out _ (bel2 (bel2 hb4 hb5) (below_drewN _ _))).mono ?_); rintro e w7 ⟨rfl, rfl⟩))
            go_ret
            rw [HE.out]
            have hbx := bel2 (bel2 hb4 hb5) (below_drewN _ k6)
            exact ⟨rfl, _, ⟨_, _, _, _, _, HA.out.below hbx, rfl⟩, after_below hbx⟩
          · rw [hbk] at HB
            have HE := Lib.hid (program_ok hdn i1 hbl hwt hbk)
            have HEN := Lib.hid (code_nat d)
            have hwl := hd.wait_le
            have hEL := h.wlen
            obtain ⟨a, c, rfl⟩ := h.slice
            obtain ⟨L, hL⟩ : ∃ L, E.length = L := ⟨_, rfl⟩
            rw [hL] at h
            have HA := Lib.hid h
            have HL := Lib.hid hL
            have HBL := Lib.hid hbl
            have hL120 : L ≤ 120 := by omega
            have c4 := h.var.cell (j := 4) rfl
            have HC4 := Lib.hid (fun wx (hb : Below w.heap.size w wx) => hb.cell (p := ⟨p, 4, none⟩) hpl |>.trans c4)
            have HO := Lib.hid (fun wx (hb : Below w.heap.size w wx) => show wx.ownsRow 0 74 2 (.slice a L c) L (rowC E) by have := (h.below hb).wait; rw [hL] at this; exact this)
            have hcv := fun w => Lib.run_convert_string_bytes (P := Try.prog) w 9 61 5 b Try.underlying9 Try.underlying61 Try.underlying5
            have hcap : ∀ w, d.pg ≤ grownCap w d.pg 0 5 := fun w => grownCap_ge w d.pg 0 5
            have HCAP := Lib.hid hcap
            clear h hdn hh HH hwt hbk i1 i2 hbl c0 hpl hd hn120 hL c4 hcap
            go_enter Try.func26, Try.ntmps26
            go_wp2_with (first
              | (go_at_call 23; (with_reducible refine (HD.out _ (Below.refl _ _)).mono ?_); rintro e w3 ⟨rfl, rfl⟩)
              | (go_at_call 45; (with_reducible refine (HHq.out _ (Below.refl _ _)).mono ?_); rintro e w4 ⟨rfl, hb4⟩; have d0 := HC0.out _ hb4)
              | (go_at_call 46; (with_reducible refine (HP.out _ hb4).mono ?_); rintro e w5 ⟨rfl, hb5⟩)
              | (go_at_call 48; (with_reducible refine (HS.out _ (bel2 hb4 hb5)).mono ?_); rintro e w6 ⟨rfl, k6, rfl⟩)
              | (go_at_call 47; (with_reducible refine (HB.out _ (bel2 (bel2 hb4 hb5) (below_drewN _ _))).mono ?_); rintro e w7 ⟨rfl, rfl⟩; have d4 := HC4.out _ (bel2 (bel2 hb4 hb5) (below_drewN _ k6)); have HBX := Lib.hid (bel2 (bel2 (bel2 hb4 hb5) (below_drewN _ k6)) (bytes_below (w5.drewN k6) 5 b)))
              | (go_at_call 49; (with_reducible refine HCT.out.mono ?_); rintro e w8 ⟨rfl, hg8, fy, hF8⟩)
              | (at_builtin; (refine append_tup rfl _ _ 64 rfl 0 74 (.agg #[.int .i64 0, .slice none 0 0]) 2 32 Try.underlying64 infoChange rfl (by decide) _ L (rowC E) rfl (HO.out _ (bel2 HBX.out (Geom.bel_alloc _ _))) _ [.int .i64 (k : Int), .slice (some ⟨w5.heap.size, 0, none⟩) d.pg (grownCap (w5.drewN k6) d.pg 0 5)] rfl rfl ?c0 ?c1 ?c2 ?c3 ?c5 ?_); (case c0 => exact lies_new _ [.int .i64 (k : Int), .slice (some ⟨w5.heap.size, 0, none⟩) d.pg (grownCap (w5.drewN k6) d.pg 0 5)] _); (case c1 => simp [Value.oneCell']); (case c2 => omega); (case c3 => (unfold maxLen; omega)); (case c5 => exact Nat.zero_le _); intro g cap2 w6 hown6 hgrow6 hat6 hlt6; have hpv := (HA.out.below HBX.out).push_var _ hgrow6; have v1 := hpv.1; have v2 := hpv.2; clear hpv; have HK := Lib.hid (HA.out.push HBX.out _ ⟨k, b.data.toList, w5.heap.size, grownCap (w5.drewN k6) d.pg 0 5⟩ ⟨Row8.of_string (w5.drewN k6) 5 b, by rw [HBL.out]; exact HCAP.out _, (bel2 hb4 hb5).size, by rw [Lib.bytesWorld_size]; exact Nat.lt_succ_self _⟩ HL.out.symm (by simp only [rowC, List.flatMap_cons, List.flatMap_nil, List.append_nil, HBL.out]; exact hown6) hgrow6 hat6); have HCT := Lib.hid (atCount_any HK.out.1); unfold ptr at HCT; clear hown6 hgrow6 hat6 hlt6))
            go_ret
            rw [HE.out]
            rw [blow_wait] at hF8
            refine ⟨?_, _, ⟨_, _, _, _, _, hF8, rfl⟩, ?_⟩
            · rw [code_wait, ← HEN.out]; rfl
            · rw [HL.out]; exact After.trans HK.out.2 (After.of_grows hg8 (fun j hj => .inl hj))
        · rw [hwt] at HP
          have HE := Lib.hid (show programD d k b.data.toList = (7, d) from program_state hdn i1 hbl (.inl hwt))
          clear h hdn hh HH hwt i1 i2 hbl hsz c0 hpl hd hn120
          go_enter Try.func26, Try.ntmps26
          go_wp2_with (first
            | (go_at_call 23; (with_reducible refine (HD.out _ (Below.refl _ _)).mono ?_); rintro e w3 ⟨rfl, rfl⟩)
            | (go_at_call 45; (with_reducible refine (HHq.out _ (Below.refl _ _)).mono ?_); rintro e w4 ⟨rfl, hb4⟩; have d0 := HC0.out _ hb4)
            | (go_at_call 46; (with_reducible refine (HP.out _ hb4).mono ?_); rintro e w5 ⟨rfl, hb5⟩))
          go_ret
          rw [HE.out]
          exact ⟨rfl, _, ⟨_, _, _, _, _, HA.out.below (bel2 hb4 hb5), rfl⟩, after_below (bel2 hb4 hb5)⟩
      · have e1 : ((b.size : Int) != (d.pg : Int)) = true := by simp; omega
        have e2 : ((b.size : Int) == (d.pg : Int)) = false := by simp; omega
        have e3 : (b.size == d.pg) = false := by simp; omega
        have HE := Lib.hid (show programD d k b.data.toList = (1, d) from program_arg hdn (.inr (by simpa using hsz)))
        clear h hdn hh HH i1 i2 c0 hpl hd hsz
        go_enter Try.func26, Try.ntmps26
        go_wp2_with (first
          | (go_at_call 23; (with_reducible refine (HD.out _ (Below.refl _ _)).mono ?_); rintro e w3 ⟨rfl, rfl⟩)
          | (go_at_call 45; (with_reducible refine (HHq.out _ (Below.refl _ _)).mono ?_); rintro e w4 ⟨rfl, hb4⟩; have d0 := HC0.out _ hb4))
        go_ret
        rw [HE.out]
        exact ⟨rfl, _, ⟨_, _, _, _, _, HA.out.below hb4, rfl⟩, after_below hb4⟩
  · rw [hdn] at HD
    have HE := Lib.hid (show programD d q b.data.toList = (6, d) by unfold programD; rw [hdn]; rfl)
    clear h hdn HH hd
    go_enter Try.func26, Try.ntmps26
    go_wp2_with (go_at_call 23; (with_reducible refine (HD.out _ (Below.refl _ _)).mono ?_); rintro e w3 ⟨rfl, rfl⟩)
    go_ret
    rw [HE.out]
    exact ⟨rfl, _, ⟨_, _, _, _, _, HA.out, rfl⟩, After.refl _ _⟩
end Go.Proofs.Ytgcbdekdjdlfaaa.Flash
