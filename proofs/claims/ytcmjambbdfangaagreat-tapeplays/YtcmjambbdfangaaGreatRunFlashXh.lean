/-
  Joined texts: FlashXh, FlashX.
-/
import Derived.Test.YtcmjambbdfangaaGreatRunFlashXe
/-
  The landed device: Erase.
-/
set_option linter.unusedVariables false
set_option linter.unusedSimpArgs false
namespace Go.Proofs.YtcmjambbdfangaaGreat.Flash
open Go.RowKit
open Go.Proofs.YtcmjambbdfangaaGreat.Own
open Tup Bytes Foot
open Go.Proofs.YtcmjambbdfangaaGreat.Region (fill Then Deps Each Deps2 Each2 Owes upd put wp_region_each3 slots)

/-- a new row of blank bytes -/
def NewRow (base N : Nat) (w : World) (v : Value) : Prop := ∃ g c, v = .slice (some ⟨g, 0, none⟩) N c ∧ N ≤ c ∧ Row8 w g (List.replicate N 255) ∧ base ≤ g ∧ g < w.heap.size
theorem NewRow.below {base N : Nat} {w w' : World} {v : Value} (h : NewRow base N w v) (hb : Below w.heap.size w w') : NewRow base N w' v := by
  obtain ⟨g, c, h1, h2, h3, h4, h5⟩ := h
  exact ⟨g, c, h1, h2, h3.below hb, h4, Nat.lt_of_lt_of_le h5 hb.size⟩
/-- behind some of the operations of 'f.row = append(f.row, change{page, blanks(n)})' -/
def EX (wr : World) (p : Nat) (tab : List Value) (m : Int) (N : Nat) (AP : World → Value → Prop) (d : Nat → Bool) (ys : Nat → Value) (wx : World) : Prop :=
  (∀ i, i < 17 → i ≠ 11 → i ≠ 12 → i ≠ 13 → i ≠ 14 → d i = true → ys (50 + i) = tab.getD i undef) ∧ (∀ x ∈ pairs, d x.1 = true → d x.2 = true)
  ∧ ((d 14 = false ∧ d 17 = false ∧ Below wr.heap.size wr wx ∧ (d 11 = true → NewRow wr.heap.size N wx (ys 61)) ∧ (d 12 = true → ys 62 = .agg #[.int .i64 m, ys 61]) ∧ (d 13 = true → ∃ g0, ys 63 = .slice (some ⟨g0, 0, none⟩) 1 1 ∧ Lies wx g0 0 [.int .i64 m, ys 61]))
    ∨ ((∀ i, 1 ≤ i → i < 14 → d i = true) ∧ d 14 = true ∧ ∃ w6, AP w6 (ys 64) ∧ w6.cell? ⟨p, 4, none⟩ ≠ none ∧ w6.frozen? ⟨p, 4, none⟩ = false ∧ ((d 17 = false ∧ wx = w6) ∨ (d 17 = true ∧ wx = w6.setCell ⟨p, 4, none⟩ (ys 64)))))
section
variable {wr : World} {p : Nat} {tab : List Value} {m : Int} {N : Nat} {AP : World → Value → Prop} {d : Nat → Bool} {ys : Nat → Value} {wx wy : World}
theorem EX.tabs (h : EX wr p tab m N AP d ys wx) {i : Nat} (hi : i < 17) {v : Value} (hv : i ≠ 11 → i ≠ 12 → i ≠ 13 → i ≠ 14 → v = tab.getD i undef) :
    ∀ j, j < 17 → j ≠ 11 → j ≠ 12 → j ≠ 13 → j ≠ 14 → upd d i j = true → put ys (some (50 + i)) v (50 + j) = tab.getD j undef := by
  intro j hj a1 a2 a b hd
  by_cases e : j = i
  · subst e; rw [put_eq]; exact hv a1 a2 a b
  · rw [put_ne v (by omega)]
    rw [upd_ne e] at hd
    exact h.1 j hj a1 a2 a b hd
theorem EX.early (h : EX wr p tab m N AP d ys wx) {i : Nat} (h1 : 1 ≤ i) (hi : i < 14) (hd : d i = false) :
    d 14 = false ∧ d 17 = false ∧ Below wr.heap.size wr wx ∧ (d 11 = true → NewRow wr.heap.size N wx (ys 61)) ∧ (d 12 = true → ys 62 = .agg #[.int .i64 m, ys 61]) ∧ (d 13 = true → ∃ g0, ys 63 = .slice (some ⟨g0, 0, none⟩) 1 1 ∧ Lies wx g0 0 [.int .i64 m, ys 61]) := by
  rcases h.2.2 with x | ⟨x, _⟩
  · exact x
  · rw [x i h1 hi] at hd; simp at hd
theorem EX.front (h : EX wr p tab m N AP d ys wx) {i : Nat} (h1 : 1 ≤ i) (hi : i < 11) (hd : d i = false) (hc : ∀ x ∈ pairs, x.1 = i → d x.2 = true) {v : Value} (hv : v = tab.getD i undef) :
    EX wr p tab m N AP (upd d i) (put ys (some (50 + i)) v) wx := by
  refine ⟨h.tabs (by omega) (fun _ _ _ _ => hv), closed_upd h.2.1 hc, .inl ?_⟩
  obtain ⟨a, b, c, e1, e2, e⟩ := h.early h1 (by omega) hd
  rw [upd_ne (by omega), upd_ne (by omega), upd_ne (by omega), upd_ne (by omega), upd_ne (by omega), put_ne v (by omega), put_ne v (by omega), put_ne v (by omega)]
  exact ⟨a, b, c, e1, e2, e⟩
theorem EX.idle (h : EX wr p tab m N AP d ys wx) {i : Nat} (hi : i = 0 ∨ i = 15 ∨ i = 16) {v : Value} (hv : v = tab.getD i undef) :
    EX wr p tab m N AP (upd d i) (put ys (some (50 + i)) v) wx := by
  refine ⟨h.tabs (by omega) (fun _ _ _ _ => hv), closed_upd h.2.1 (by rcases hi with rfl | rfl | rfl <;> exact no_pair (by decide)), ?_⟩
  rw [upd_ne (by omega), upd_ne (by omega), upd_ne (by omega), upd_ne (by omega), upd_ne (by omega), put_ne v (by omega), put_ne v (by omega), put_ne v (by omega), put_ne v (by omega)]
  rcases h.2.2 with x | ⟨x, y⟩
  · exact .inl x
  · exact .inr ⟨fun j h1 hj => by rw [upd_ne (by omega)]; exact x j h1 hj, y⟩
theorem EX.row (h : EX wr p tab m N AP d ys wx) (hd : d 11 = false) (h10 : d 10 = true) {v : Value} (hv : NewRow wx.heap.size N wy v) (hb : Below wx.heap.size wx wy) :
    EX wr p tab m N AP (upd d 11) (put ys (some 61) v) wy := by
  refine ⟨h.tabs (i := 11) (by omega) (fun x => absurd rfl x), closed_upd h.2.1 (by intro x hx e; simp only [pairs, List.mem_cons, List.not_mem_nil, or_false] at hx; rcases hx with rfl | rfl | rfl | rfl | rfl | rfl | rfl | rfl | rfl | rfl | rfl <;> first | exact h10 | (simp at e)), .inl ?_⟩
  obtain ⟨a, b, c, e1, e2, e⟩ := h.early (by omega) (by omega) hd
  have h12 : d 12 = false := by
    cases h12 : d 12 with
    | false => rfl
    | true => have := h.2.1 (12, 11) (by decide) h12; simp only at this; rw [hd] at this; simp at this
  have h13 : d 13 = false := by
    cases h13 : d 13 with
    | false => rfl
    | true => have := h.2.1 (13, 12) (by decide) h13; simp only at this; rw [h12] at this; simp at this
  rw [upd_ne (by omega), upd_ne (by omega), upd_ne (i := 11) (j := 12) (by omega), upd_ne (i := 11) (j := 13) (by omega), put_eq, h12, h13]
  refine ⟨a, b, c.trans (hb.mono c.size), fun _ => ?_, by simp, by simp⟩
  obtain ⟨g, cc, x1, x2, x3, x4, x5⟩ := hv
  exact ⟨g, cc, x1, x2, x3, Nat.le_trans c.size x4, x5⟩
theorem EX.pair (h : EX wr p tab m N AP d ys wx) (hd : d 12 = false) (h5 : d 5 = true) (h11 : d 11 = true) {v : Value} (hv : v = .agg #[.int .i64 m, ys 61]) :
    EX wr p tab m N AP (upd d 12) (put ys (some 62) v) wx := by
  refine ⟨h.tabs (i := 12) (by omega) (fun _ x => absurd rfl x), closed_upd h.2.1 (by intro x hx e; simp only [pairs, List.mem_cons, List.not_mem_nil, or_false] at hx; rcases hx with rfl | rfl | rfl | rfl | rfl | rfl | rfl | rfl | rfl | rfl | rfl <;> first | exact h5 | exact h11 | (simp at e)), .inl ?_⟩
  obtain ⟨a, b, c, e1, e2, e⟩ := h.early (by omega) (by omega) hd
  have h13 : d 13 = false := by
    cases h13 : d 13 with
    | false => rfl
    | true => have := h.2.1 (13, 12) (by decide) h13; simp only at this; rw [hd] at this; simp at this
  rw [upd_ne (by omega), upd_ne (by omega), upd_ne (i := 12) (j := 11) (by omega), upd_ne (i := 12) (j := 13) (by omega), put_ne v (show 61 ≠ 62 by omega), put_eq, h13]
  exact ⟨a, b, c, e1, fun _ => hv, by simp⟩
theorem EX.build (h : EX wr p tab m N AP d ys wx) (hd : d 13 = false) (h12 : d 12 = true) {g0 : Nat} (hl : Lies wy g0 0 [.int .i64 m, ys 61]) (hb : Below wx.heap.size wx wy) :
    EX wr p tab m N AP (upd d 13) (put ys (some 63) (.slice (some ⟨g0, 0, none⟩) 1 1)) wy := by
  refine ⟨h.tabs (i := 13) (by omega) (fun _ _ x => absurd rfl x), closed_upd h.2.1 (by intro x hx e; simp only [pairs, List.mem_cons, List.not_mem_nil, or_false] at hx; rcases hx with rfl | rfl | rfl | rfl | rfl | rfl | rfl | rfl | rfl | rfl | rfl <;> first | exact h12 | (simp at e)), .inl ?_⟩
  obtain ⟨a, b, c, e1, e2, e⟩ := h.early (by omega) (by omega) hd
  rw [upd_ne (by omega), upd_ne (by omega), upd_ne (i := 13) (j := 11) (by omega), upd_ne (i := 13) (j := 12) (by omega), put_ne _ (show 61 ≠ 63 by omega), put_ne _ (show 62 ≠ 63 by omega), put_eq]
  exact ⟨a, b, c.trans (hb.mono c.size), fun x => (e1 x).below hb, e2, fun _ => ⟨g0, rfl, hl⟩⟩
theorem EX.append (h : EX wr p tab m N AP d ys wx) (hall : ∀ i, 1 ≤ i → i < 14 → d i = true) (h17 : d 17 = false) {v : Value} (hA : AP wy v) (hc : wy.cell? ⟨p, 4, none⟩ ≠ none) (hf : wy.frozen? ⟨p, 4, none⟩ = false) :
    EX wr p tab m N AP (upd d 14) (put ys (some 64) v) wy := by
  refine ⟨h.tabs (i := 14) (by omega) (fun _ _ _ x => absurd rfl x), closed_upd h.2.1 (no_pair (by decide)), .inr ⟨fun i h1 hi => by rw [upd_ne (by omega)]; exact hall i h1 hi, upd_eq _ _, wy, ?_, hc, hf, .inl ⟨?_, rfl⟩⟩⟩
  · rw [put_eq]; exact hA
  · rw [upd_ne (by omega)]; exact h17
theorem EX.store (h : EX wr p tab m N AP d ys wx) (h14 : d 14 = true) (h17 : d 17 = false) (v : Value) :
    EX wr p tab m N AP (upd d 17) (put ys none v) (wx.setCell ⟨p, 4, none⟩ (ys 64)) := by
  refine ⟨fun j hj a1 a2 a b hdj => ?_, closed_upd h.2.1 (no_pair (by decide)), ?_⟩
  · rw [upd_ne (by omega)] at hdj
    exact h.1 j hj a1 a2 a b hdj
  · rcases h.2.2 with ⟨x, _⟩ | ⟨x, y, w6, hA, hc, hf, ⟨_, e⟩ | ⟨e, _⟩⟩
    · rw [h14] at x; simp at x
    · refine .inr ⟨fun i h1 hi => by rw [upd_ne (by omega)]; exact x i h1 hi, by rw [upd_ne (by omega)]; exact y, w6, hA, hc, hf, .inr ⟨upd_eq _ _, ?_⟩⟩
      rw [e]; rfl
    · rw [h17] at e; simp at e
end
/-- .. from the world at which the append begins -/
theorem FAt.push_at {w0 w5 w6 : World} {p : Nat} {e : Dev} {bB cap : Nat} {wv : Value} {fy : Nat} {E : List Ent} (h0 : FAt w0 p e bB cap wv fy E) (hb : Below w0.heap.size w0 w5) (y : Ent)
    (hy : Row8 w5 y.g y.b ∧ y.b.length ≤ y.c ∧ w0.heap.size ≤ y.g ∧ y.g < w5.heap.size) {g cap2 n : Nat} (hn : n = E.length)
    (hown : w6.ownsRow 0 104 2 (.slice (some ⟨g, 0, none⟩) (n + 1) cap2) (n + 1) (rowC E ++ rowC [y])) (hgr : w5.grownBy w6 wv.ownBlock) (hat : wv.ownBlock = some g ∨ g = w5.heap.size) :
    FAt (w6.setCell ⟨p, 4, none⟩ (.slice (some ⟨g, 0, none⟩) (n + 1) cap2)) p { e with wait := e.wait ++ [(y.q, y.b)] } bB cap (.slice (some ⟨g, 0, none⟩) (n + 1) cap2) fy (E ++ [y])
    ∧ After (footF p bB wv E) w0 (w6.setCell ⟨p, 4, none⟩ (.slice (some ⟨g, 0, none⟩) (n + 1) cap2)) (footF p bB (.slice (some ⟨g, 0, none⟩) (n + 1) cap2) (E ++ [y])) := by
  have h := h0.below hb
  obtain ⟨hy1, hy2, hy3, hy4⟩ := hy
  have hp := h.var.lt
  have hB := h.lt
  have hp0 := h0.var.lt
  have hB0 := h0.lt
  have hw0 : ∀ k, wv.ownBlock = some k → k < w0.heap.size := fun k hk => Flash.owns_lt h0.wait hk
  have hsz := hb.size
  have hgp : g ≠ p := by
    rcases hat with x | x
    · intro z; subst z; exact h.ne2 x
    · omega
  have hgB : g ≠ bB := by
    rcases hat with x | x
    · intro z; subst z; exact h.ne3 x
    · omega
  have hgy : g ≠ y.g := by
    rcases hat with x | x
    · have := hw0 g x; omega
    · omega
  have hyw : wv.ownBlock ≠ some y.g := fun z => by have := hw0 _ z; omega
  have hv6 : Var w6 p _ _ := h.var.kept hgr h.ne2
  have g1 : Grows (fun k => wv.ownBlock = some k) w5 w6 := Grows.grown (S := fun k => wv.ownBlock = some k) hgr (fun k hk => hk)
  have hr6 : Row8 w6 bB e.img := h.row.grows g1 h.ne3
  have g2 : Grows (· = p) w6 (w6.setCell ⟨p, 4, none⟩ (.slice (some ⟨g, 0, none⟩) (n + 1) cap2)) := Grows.set _ _ _ rfl
  refine ⟨⟨hv6.set 4 _, hr6.grows g2 h.ne1, Nat.lt_of_lt_of_le hB (Nat.le_trans g1.size g2.size), ?_, ?_, ?_, h.fuz, h.fuz0, h.capl, h.ne1, ?_, ?_⟩, ?_, ?_⟩
  · have hl : (E ++ [y]).length = n + 1 := by simp [hn]
    rw [hl, rowC_append]
    exact owns_grows hown g2 (fun j hj => by
      have : g = j := by simpa [Value.ownBlock] using hj
      omega)
  · show e.wait ++ [(y.q, y.b)] = (E ++ [y]).map entW
    rw [List.map_append, h.ents]; rfl
  · intro x hx
    rcases List.mem_append.1 hx with hx | hx
    · obtain ⟨a, b, c, u, v, z⟩ := h.rows x hx
      refine ⟨(a.grows g1 z).grows g2 u, b, Nat.lt_of_lt_of_le c (Nat.le_trans g1.size g2.size), u, v, ?_⟩
      simp only [Value.ownBlock, ne_eq, Option.some.injEq]
      rcases hat with k | k
      · intro q; subst q; exact z k
      · omega
    · obtain rfl : x = y := by simpa using hx
      refine ⟨(hy1.grows g1 hyw).grows g2 (by show ¬ _ = _; omega), hy2, Nat.lt_of_lt_of_le hy4 (Nat.le_trans g1.size g2.size), by omega, by omega, ?_⟩
      simp only [Value.ownBlock, ne_eq, Option.some.injEq]; exact hgy
  · simp [Value.ownBlock]; exact hgp
  · simp [Value.ownBlock]; exact hgB
  · exact ((Grows.of_below (S := fun _ => False) hb).mono (S' := footF p bB wv E) (fun _ x => x.elim)).trans ((g1.mono (S' := footF p bB wv E) (fun j hj => Or.inr (Or.inr (Or.inl hj)))).trans g2 (fun j hj => .inl (.inl hj))) (fun j hj => .inl hj)
  · rintro j (rfl | rfl | hj | ⟨x, hx, rfl⟩)
    · exact .inl (.inl rfl)
    · exact .inl (.inr (.inl rfl))
    · have : g = j := by simpa [Value.ownBlock] using hj
      subst this
      rcases hat with x | x
      · exact .inl (.inr (.inr (.inl x)))
      · exact .inr (by omega)
    · rcases List.mem_append.1 hx with hx | hx
      · exact .inl (.inr (.inr (.inr ⟨x, hx, rfl⟩)))
      · obtain rfl : x = y := by simpa using hx
        exact .inr hy3
theorem FAt.push_now {w5 w6 : World} {p : Nat} {e : Dev} {bB cap : Nat} {wv : Value} {fy : Nat} {E : List Ent} (h : FAt w5 p e bB cap wv fy E) (hgr : w5.grownBy w6 wv.ownBlock) : w6.cell? ⟨p, 4, none⟩ = some wv ∧ w6.frozen? ⟨p, 4, none⟩ = false :=
  ⟨(h.var.kept hgr h.ne2).cell (j := 4) rfl, (h.var.kept hgr h.ne2).frozen 4⟩
theorem rightG_ok {d : Dev} (hd : d.Ok) : Geom.rightG ⟨d.pg, d.pgs, d.rgs⟩ = true := Geom.right_small.mpr ⟨by simp only; have := hd.p0; omega, by simp only; have := hd.p1; omega, by simp only; have := hd.s0; omega, by simp only; have := hd.s1; omega, by simp only; have := hd.r0; omega, by simp only; have := hd.r1; omega⟩
theorem pageG_ok {d : Dev} (hd : d.Ok) {k : Nat} (hk : k < d.rgs) : Geom.pageG ⟨d.pg, d.pgs, d.rgs⟩ k 0 = (((k * d.pgs : Nat) : Int), true) := by
  have := hd.s0
  unfold Geom.pageG
  rw [if_pos ⟨rightG_ok hd, by simp only; omega⟩]
  simp only [Int.natCast_mul, Int.add_zero]
theorem pageG_no {d : Dev} {r : Int} (h : ¬ (0 ≤ r ∧ r < (d.rgs : Int))) : Geom.pageG ⟨d.pg, d.pgs, d.rgs⟩ r 0 = (0, false) := by
  unfold Geom.pageG
  rw [if_neg]
  rintro ⟨_, x⟩
  simp only at x
  omega
theorem anyOf_erasing (d : Dev) (F : Nat) : d.anyOf F d.pgs = d.wait.any (erasing d F) := rfl
set_option maxRecDepth 100000 in
set_option maxHeartbeats 16000000 in
theorem atErase_any {w : World} {p : Nat} {d : Dev} {bB cap : Nat} {wv : Value} {fz : Nat} {E : List Ent} (h : FAt w p d bB cap wv fz E) (hd : d.Ok) (r : Int) :
    Calls Tryz.prog 39 #[ptr p, .int .i64 r] w fun e w' => e = .returned (.int .i64 ((eraseD d r).1 : Int)) ∧ ∃ S, FHas w' p (eraseD d r).2 S ∧ After (footF p bB wv E) w w' S := by
  have c0 := h.var.cell (j := 0) rfl
  have c1 := h.var.cell (j := 1) rfl
  have c2 := h.var.cell (j := 2) rfl
  have hpl0 := h.var.lt
  have HA := Lib.hid h
  have HD := Lib.hid (fun w' (hb : Below w.heap.size w w') => atDown_any (h.below hb))
  unfold ptr at HD ⊢
  rcases hdn : d.down with _ | _
  · rw [hdn] at HD
    by_cases hr : 0 ≤ r ∧ r < (d.rgs : Int)
    · obtain ⟨k, rfl⟩ : ∃ k : Nat, r = (k : Int) := ⟨r.toNat, by omega⟩
      have hk : k < d.rgs := by omega
      have HPG := Lib.hid (fun w => Geom.page_any ⟨d.pg, d.pgs, d.rgs⟩ k 0 w)
      rw [pageG_ok hd hk] at HPG
      unfold Geom.gV at HPG
      have HC1 := Lib.hid (fun wx (hb : Below w.heap.size w wx) => hb.cell (p := ⟨p, 1, none⟩) hpl0 |>.trans c1)
      have hs1 := hd.s1
      have hs0 := hd.s0
      have hp1 := hd.p1
      have hn120 := hd.n_le
      have him := hd.img_le
      have hFn : k * d.pgs + d.pgs ≤ d.n := by
        have : k * d.pgs + d.pgs = (k + 1) * d.pgs := by rw [Nat.add_mul]; omega
        rw [this]; unfold Dev.n; rw [Nat.mul_comm d.pgs]
        exact Nat.mul_le_mul_right _ hk
      have HANY := Lib.hid (fun w' (hb : Below w.heap.size w w') => atAnyPending_any (h.below hb) hd (k * d.pgs) d.pgs (by omega) (by omega))
      rw [anyOf_erasing] at HANY
      unfold ptr at HANY
      have HIM := Lib.hid hd.img_n
      rcases hev : d.wait.any (erasing d (k * d.pgs)) with _ | _
      · rw [hev] at HANY
        have HE := Lib.hid (erase_ok hdn hk hev)
        have HCT := Lib.hid (fun w' (hb : Below w.heap.size w w') => atCount_any (h.below hb))
        unfold ptr at HCT
        have hwl := hd.wait_le
        have hEL := h.wlen
        obtain ⟨a, c, rfl⟩ := h.slice
        obtain ⟨L, hL⟩ : ∃ L, E.length = L := ⟨_, rfl⟩
        rw [hL] at h
        have HL := Lib.hid hL
        have HF := Lib.hid (fun w => blanks_any d.pg (by omega) w)
        have HST := Lib.hid (fun (wx : World) fy (im : List UInt8) (himl : im.length = d.img.length) fu dn => fun (hR : FAt wx p (Dev.mk d.pg d.pgs d.rgs im d.wait fu dn) bB cap (.slice a L c) fy E) q (hq : q < d.n) =>
          atStands_any hR ((hd.image himl).like ⟨rfl, rfl, rfl, rfl, rfl⟩) q hq)
        unfold ptr at HST
        obtain ⟨fu, dn, hbl⟩ := blow_mk d
        have HST := Lib.hid (fun (wx : World) fy (im : List UInt8) (himl : im.length = d.img.length) hR q (hq : q < d.n) => HST.out wx fy im himl fu dn hR q hq)
        rw [hL] at HCT
        rw [hbl] at HE HCT
        generalize hF : k * d.pgs = F at *
        have hmf := HIM.out
        rcases hbb : d.blow.1 with _ | _
        · rw [hbb] at HE
          rw [code_ok hbb] at HCT
          replace HE := Lib.hid (HE.out.trans (if_neg (by simp)))
          clear hbb hbl hev h hd hdn hEL hL hF hr hk
          go_enter Tryz.func39, Tryz.ntmps39
          go_wp2_with (first
            | (go_at_call 21; (with_reducible refine (HD.out _ (Below.refl _ _)).mono ?_); rintro e w3 ⟨rfl, rfl⟩)
            | (go_at_call 75; (with_reducible refine (HPG.out _).mono ?_); rintro e w4 ⟨rfl, hb4⟩; have d1 := HC1.out _ hb4)
            | (go_at_call 76; (with_reducible refine (HANY.out _ hb4).mono ?_); rintro e w5 ⟨rfl, hb5⟩; have HBr := Lib.hid (bel2 hb4 hb5); have HC5 := Lib.hid (HCT.out _ (bel2 hb4 hb5)))
            | (go_at_call 70; (with_reducible refine HC5.out.mono ?_); rintro e w1 ⟨rfl, hg1, fy, hR1⟩; have HG1 := Lib.hid hg1; have HR1 := Lib.hid hR1; clear hg1 hR1))
          go_loopw [8] (fun i wr => ∃ m : Nat, i = .int .i64 (m : Int) ∧ F ≤ m ∧ m ≤ F + d.pgs ∧ Grows (· = bB) w1 wr ∧ FAt wr p (Dev.mk d.pg d.pgs d.rgs (over d.img (F * d.pg) (List.replicate ((m - F) * d.pg) 255)) d.wait fu dn) bB cap (.slice a L c) fy E) (fun i _ => F + d.pgs - (intOf i).toNat)
          case atStart =>
            have hz0 : over d.img (F * d.pg) (List.replicate ((F - F) * d.pg) 255) = d.img := by rw [Nat.sub_self, Nat.zero_mul]; exact over_nil _ _
            refine ⟨F, rfl, Nat.le_refl _, by omega, .refl _ _, ?_⟩
            rw [hz0]; exact HR1.out
          case round =>
            obtain ⟨m, rfl, hm0, hm1, hG2, hR2⟩ := hrel
            have HG2 := Lib.hid hG2
            have HA2 := Lib.hid hR2
            have c1' := hR2.var.cell (j := 1) rfl
            clear hG2
            by_cases hmt : m < F + d.pgs
            · have z1 : decide ((m : Int) < (F : Int) + (d.pgs : Int)) = true := by simp; omega
              have z2 : decide (m < F + d.pgs) = true := by simp; omega
              have hmn : m < d.n := by omega
              have hpl : m * d.pg + d.pg ≤ d.img.length := page_le hmn HIM.out
              have hFm : F * d.pg + (m - F) * d.pg = m * d.pg := by rw [← Nat.add_mul]; congr 1; omega
              have him : (over d.img (F * d.pg) (List.replicate ((m - F) * d.pg) 255)).length = d.img.length := over_length (by rw [List.length_replicate]; omega)
              have HS := Lib.hid (HST.out wr fy _ him hR2 m hmn)
              have HWP := Lib.hid (fun k => wipe_any (hR2.below (below_drewN wr k)).row (m * d.pg) d.pg (cap - m * d.pg) (by show _ ≤ (over d.img (F * d.pg) (List.replicate ((m - F) * d.pg) 255)).length; omega) (by show (over d.img (F * d.pg) (List.replicate ((m - F) * d.pg) 255)).length < _; omega))
              have HSS := Lib.hid (show over (over d.img (F * d.pg) (List.replicate ((m - F) * d.pg) 255)) (m * d.pg) (List.replicate d.pg 255) = over d.img (F * d.pg) (List.replicate ((m + 1 - F) * d.pg) 255) by
                rw [← hFm, over_rep 255 (by omega)]
                congr 2
                rw [show m + 1 - F = (m - F) + 1 by omega, Nat.add_mul]; omega)
              have HIMG := Lib.hid him
              clear him hFm hpl hmn hR2
              go_wp2_with (first
                | (go_at_call 65; (with_reducible refine HS.out.mono ?_); rintro e w6 ⟨rfl, k6, rfl⟩)
                | (go_at_call 77; (with_reducible refine (HWP.out _).mono ?_); rintro e w7 ⟨rfl, hr7, hg7⟩; have HT7 := Lib.hid ((HA2.out.below (below_drewN wr k6)).turnB (over_length (by rw [List.length_replicate]; show _ ≤ (over d.img (F * d.pg) (List.replicate ((m - F) * d.pg) 255)).length; rw [HIMG.out]; exact page_le (by omega) HIM.out)) hr7 hg7); have HG7 := Lib.hid (HG2.out.trans ((Grows.of_below (below_drewN wr k6)).trans hg7 (fun _ h => .inl h)) (fun _ h => .inl h)); clear hr7 hg7))
              refine ⟨⟨m + 1, by go_num, by omega, by omega, HG7.out, ?_⟩, by simp [intOf]; omega⟩
              have hK := HT7.out
              rw [HSS.out] at hK
              exact hK
            · have z1 : decide ((m : Int) < (F : Int) + (d.pgs : Int)) = false := by simp; omega
              have z2 : decide (m < F + d.pgs) = false := by simp; omega
              have HZ := Lib.hid (show over d.img (F * d.pg) (List.replicate ((m - F) * d.pg) 255) = over d.img (F * d.pg) (List.replicate (d.pgs * d.pg) 255) by rw [show m - F = d.pgs by omega])
              clear hR2
              go_wp2
              go_ret
              rw [HE.out, HL.out]
              have hK := HA2.out
              rw [HZ.out] at hK
              refine ⟨rfl, _, ⟨_, _, _, _, _, hK, rfl⟩, ?_⟩
              exact After.trans (after_below HBr.out) (After.trans (After.of_grows HG1.out (fun j hj => .inl hj)) (After.of_grows HG2.out (fun j hj => .inr (.inl hj))))
        · rw [hbb] at HE
          rw [code_blown hbb] at HCT
          replace HE := Lib.hid (HE.out.trans (if_pos rfl))
          clear hbb hbl hev h hd hdn hEL hL hF hr hk
          go_enter Tryz.func39, Tryz.ntmps39
          go_wp2_with (first
            | (go_at_call 21; (with_reducible refine (HD.out _ (Below.refl _ _)).mono ?_); rintro e w3 ⟨rfl, rfl⟩)
            | (go_at_call 75; (with_reducible refine (HPG.out _).mono ?_); rintro e w4 ⟨rfl, hb4⟩; have d1 := HC1.out _ hb4)
            | (go_at_call 76; (with_reducible refine (HANY.out _ hb4).mono ?_); rintro e w5 ⟨rfl, hb5⟩; have HBr := Lib.hid (bel2 hb4 hb5); have HC5 := Lib.hid (HCT.out _ (bel2 hb4 hb5)))
            | (go_at_call 70; (with_reducible refine HC5.out.mono ?_); rintro e w1 ⟨rfl, hg1, fy, hR1⟩; have HG1 := Lib.hid hg1; have HR1 := Lib.hid hR1; clear hg1 hR1))
          go_loopw [8] (fun i wr => ∃ m : Nat, i = .int .i64 (m : Int) ∧ F ≤ m ∧ m ≤ F + d.pgs ∧ ∃ a2 c2 E2, FAt wr p (Dev.mk d.pg d.pgs d.rgs d.img (blown d F (m - F)) fu dn) bB cap (.slice a2 E2.length c2) fy E2 ∧ After (footF p bB (.slice a L c) E) w1 wr (footF p bB (.slice a2 E2.length c2) E2)) (fun i _ => F + d.pgs - (intOf i).toNat)
          case atStart =>
            have hb0 : blown d F (F - F) = d.wait := by rw [Nat.sub_self]; simp [blown]
            refine ⟨F, rfl, Nat.le_refl _, by omega, a, c, E, ?_⟩
            rw [hb0, HL.out]
            exact ⟨HR1.out, After.refl _ _⟩
          case round =>
            obtain ⟨m, rfl, hm0, hm1, a2, c2, E2, hR2, hA2⟩ := hrel
            have HF2 := Lib.hid hA2
            obtain ⟨M, hM⟩ : ∃ M, E2.length = M := ⟨_, rfl⟩
            have HBM : Hid (E2.length = M) := hM
            have hMl : M ≤ 200 := by
              have := hR2.wlen
              rw [← hM, this]
              show (blown d F (m - F)).length ≤ 200
              rw [blown_len]; omega
            rw [hM] at hR2 HF2
            have HA2 := Lib.hid hR2
            have c1' := hR2.var.cell (j := 1) rfl
            clear hA2 hR2
            by_cases hmt : m < F + d.pgs
            · have z1 : decide ((m : Int) < (F : Int) + (d.pgs : Int)) = true := by simp; omega
              have z2 : decide (m < F + d.pgs) = true := by simp; omega
              have HNX := Lib.hid (show blown d F (m - F) ++ [(m, List.replicate d.pg 255)] = blown d F (m + 1 - F) by
                rw [show m + 1 - F = (m - F) + 1 by omega, ← blown_succ, show F + (m - F) = m by omega])
              clear hM
              go_wp2
              obtain ⟨AP, hAP⟩ : ∃ AP : World → Value → Prop, AP = fun w6 v => ∃ wx g cap2 g3 c3, v = .slice (some ⟨g, 0, none⟩) (M + 1) cap2 ∧ w6.ownsRow 0 104 2 (.slice (some ⟨g, 0, none⟩) (M + 1) cap2) (M + 1) (rowC E2 ++ [.int .i64 (m : Int), .slice (some ⟨g3, 0, none⟩) d.pg c3]) ∧ wx.grownBy w6 (Value.slice a2 M c2).ownBlock ∧ ((Value.slice a2 M c2).ownBlock = some g ∨ g = wx.heap.size) ∧ Below wr.heap.size wr wx ∧ Row8 wx g3 (List.replicate d.pg 255) ∧ d.pg ≤ c3 ∧ wr.heap.size ≤ g3 ∧ g3 < wx.heap.size := ⟨_, rfl⟩
              have HAP := Lib.hid hAP
              clear hAP
              refine wp_region_each3 [some 50, some 51, some 52, some 53, some 54, some 55, some 56, some 57, some 58, some 59, some 60, some 61, some 62, some 63, some 64, some 65, some 66, none] (EX wr p [.pointer (some ⟨p, 0, none⟩), .pointer (some ⟨p, 0, none⟩), .pointer (some ⟨p, 0, none⟩), .pointer (some ⟨p, 4, none⟩), .slice a2 M c2, .int .i64 (m : Int), .pointer (some ⟨p, 0, none⟩), .pointer (some ⟨p, 0, none⟩), .pointer (some ⟨p, 0, none⟩), .pointer (some ⟨p, 0, none⟩), .int .i64 (d.pg : Int), undef, undef, undef, undef, .pointer (some ⟨p, 0, none⟩), .pointer (some ⟨p, 4, none⟩)] (m : Int) d.pg AP) (by kernel_rfl) (by kernel_rfl) (by simp [slots]) ?start ?each ?done
              case start => exact ⟨by simp, by simp, .inl ⟨rfl, rfl, (Below.refl _ _).drew, by simp, by simp, by simp⟩⟩
              case each =>
                clear c1'
                simp only [Each2]
                refine ⟨?o0, ?o1, ?o2, ?o3, ?o4, ?o5, ?o6, ?o7, ?o8, ?o9, ?o10, ?o11, ?o12, ?o13, ?o14, ?o15, ?o16, ?o17, trivial⟩
                case o0 =>
                  intro d0 ys wx hJ hdi hw hdeps
                  simp only [List.getD_cons_succ, List.getD_cons_zero, fill, slots, List.filterMap_cons, List.filterMap_nil, id, List.foldl_cons, List.foldl_nil, Act.put, List.setIfInBounds_toArray, List.set_cons_succ, List.set_cons_zero]
                  go_wp2_with fail
                  exact ⟨_, rfl, hJ.idle (i := 0) (by decide) rfl⟩
                case o1 =>
                  intro d0 ys wx hJ hdi hw hdeps
                  simp only [List.getD_cons_succ, List.getD_cons_zero, fill, slots, List.filterMap_cons, List.filterMap_nil, id, List.foldl_cons, List.foldl_nil, Act.put, List.setIfInBounds_toArray, List.set_cons_succ, List.set_cons_zero]
                  go_wp2_with fail
                  exact ⟨_, rfl, hJ.front (i := 1) (by decide) (by decide) hdi (no_pair (by decide)) rfl⟩
                case o2 =>
                  intro d0 ys wx hJ hdi hw hdeps
                  have q1 : d0 1 = true := by simp [Region.Deps2, Go.Region.binds] at hdeps; simp [hdeps]
                  have y1 : ys 51 = .pointer (some ⟨p, 0, none⟩) := hJ.1 1 (by decide) (by decide) (by decide) (by decide) (by decide) q1
                  simp only [y1, List.getD_cons_succ, List.getD_cons_zero, fill, slots, List.filterMap_cons, List.filterMap_nil, id, List.foldl_cons, List.foldl_nil, Act.put, List.setIfInBounds_toArray, List.set_cons_succ, List.set_cons_zero]
                  go_wp2_with fail
                  exact ⟨_, rfl, hJ.front (i := 2) (by decide) (by decide) hdi (by intro x hx e; simp only [pairs, List.mem_cons, List.not_mem_nil, or_false] at hx; rcases hx with rfl | rfl | rfl | rfl | rfl | rfl | rfl | rfl | rfl | rfl | rfl <;> first | exact q1 | (simp at e)) rfl⟩
                case o3 =>
                  intro d0 ys wx hJ hdi hw hdeps
                  have q2 : d0 2 = true := by simp [Region.Deps2, Go.Region.binds] at hdeps; simp [hdeps]
                  have y2 : ys 52 = .pointer (some ⟨p, 0, none⟩) := hJ.1 2 (by decide) (by decide) (by decide) (by decide) (by decide) q2
                  simp only [y2, List.getD_cons_succ, List.getD_cons_zero, fill, slots, List.filterMap_cons, List.filterMap_nil, id, List.foldl_cons, List.foldl_nil, Act.put, List.setIfInBounds_toArray, List.set_cons_succ, List.set_cons_zero]
                  go_wp2_with fail
                  exact ⟨_, rfl, hJ.front (i := 3) (by decide) (by decide) hdi (by intro x hx e; simp only [pairs, List.mem_cons, List.not_mem_nil, or_false] at hx; rcases hx with rfl | rfl | rfl | rfl | rfl | rfl | rfl | rfl | rfl | rfl | rfl <;> first | exact q2 | (simp at e)) rfl⟩
                case o4 =>
                  intro d0 ys wx hJ hdi hw hdeps
                  have q3 : d0 3 = true := by simp [Region.Deps2, Go.Region.binds] at hdeps; simp [hdeps]
                  have y3 : ys 53 = .pointer (some ⟨p, 4, none⟩) := hJ.1 3 (by decide) (by decide) (by decide) (by decide) (by decide) q3
                  have hE := (hJ.early (by decide) (by decide) hdi).2.2.1
                  have hRx := HA2.out.below hE
                  have c4 : wx.cell? ⟨p, 4, none⟩ = some (.slice a2 M c2) := hRx.var.cell (j := 4) rfl
                  clear hRx hE
                  simp only [y3, List.getD_cons_succ, List.getD_cons_zero, fill, slots, List.filterMap_cons, List.filterMap_nil, id, List.foldl_cons, List.foldl_nil, Act.put, List.setIfInBounds_toArray, List.set_cons_succ, List.set_cons_zero]
                  go_wp2_with fail
                  exact ⟨_, rfl, hJ.front (i := 4) (by decide) (by decide) hdi (by intro x hx e; simp only [pairs, List.mem_cons, List.not_mem_nil, or_false] at hx; rcases hx with rfl | rfl | rfl | rfl | rfl | rfl | rfl | rfl | rfl | rfl | rfl <;> first | exact q3 | (simp at e)) rfl⟩
                case o5 =>
                  intro d0 ys wx hJ hdi hw hdeps
                  simp only [List.getD_cons_succ, List.getD_cons_zero, fill, slots, List.filterMap_cons, List.filterMap_nil, id, List.foldl_cons, List.foldl_nil, Act.put, List.setIfInBounds_toArray, List.set_cons_succ, List.set_cons_zero]
                  go_wp2_with fail
                  exact ⟨_, rfl, hJ.front (i := 5) (by decide) (by decide) hdi (no_pair (by decide)) rfl⟩
                case o6 =>
                  intro d0 ys wx hJ hdi hw hdeps
                  simp only [List.getD_cons_succ, List.getD_cons_zero, fill, slots, List.filterMap_cons, List.filterMap_nil, id, List.foldl_cons, List.foldl_nil, Act.put, List.setIfInBounds_toArray, List.set_cons_succ, List.set_cons_zero]
                  go_wp2_with fail
                  exact ⟨_, rfl, hJ.front (i := 6) (by decide) (by decide) hdi (no_pair (by decide)) rfl⟩
                case o7 =>
                  intro d0 ys wx hJ hdi hw hdeps
                  have q6 : d0 6 = true := by simp [Region.Deps2, Go.Region.binds] at hdeps; simp [hdeps]
                  have y6 : ys 56 = .pointer (some ⟨p, 0, none⟩) := hJ.1 6 (by decide) (by decide) (by decide) (by decide) (by decide) q6
                  simp only [y6, List.getD_cons_succ, List.getD_cons_zero, fill, slots, List.filterMap_cons, List.filterMap_nil, id, List.foldl_cons, List.foldl_nil, Act.put, List.setIfInBounds_toArray, List.set_cons_succ, List.set_cons_zero]
                  go_wp2_with fail
                  exact ⟨_, rfl, hJ.front (i := 7) (by decide) (by decide) hdi (by intro x hx e; simp only [pairs, List.mem_cons, List.not_mem_nil, or_false] at hx; rcases hx with rfl | rfl | rfl | rfl | rfl | rfl | rfl | rfl | rfl | rfl | rfl <;> first | exact q6 | (simp at e)) rfl⟩
                case o8 =>
                  intro d0 ys wx hJ hdi hw hdeps
                  have q7 : d0 7 = true := by simp [Region.Deps2, Go.Region.binds] at hdeps; simp [hdeps]
                  have y7 : ys 57 = .pointer (some ⟨p, 0, none⟩) := hJ.1 7 (by decide) (by decide) (by decide) (by decide) (by decide) q7
                  simp only [y7, List.getD_cons_succ, List.getD_cons_zero, fill, slots, List.filterMap_cons, List.filterMap_nil, id, List.foldl_cons, List.foldl_nil, Act.put, List.setIfInBounds_toArray, List.set_cons_succ, List.set_cons_zero]
                  go_wp2_with fail
                  exact ⟨_, rfl, hJ.front (i := 8) (by decide) (by decide) hdi (by intro x hx e; simp only [pairs, List.mem_cons, List.not_mem_nil, or_false] at hx; rcases hx with rfl | rfl | rfl | rfl | rfl | rfl | rfl | rfl | rfl | rfl | rfl <;> first | exact q7 | (simp at e)) rfl⟩
                case o9 =>
                  intro d0 ys wx hJ hdi hw hdeps
                  have q8 : d0 8 = true := by simp [Region.Deps2, Go.Region.binds] at hdeps; simp [hdeps]
                  have y8 : ys 58 = .pointer (some ⟨p, 0, none⟩) := hJ.1 8 (by decide) (by decide) (by decide) (by decide) (by decide) q8
                  simp only [y8, List.getD_cons_succ, List.getD_cons_zero, fill, slots, List.filterMap_cons, List.filterMap_nil, id, List.foldl_cons, List.foldl_nil, Act.put, List.setIfInBounds_toArray, List.set_cons_succ, List.set_cons_zero]
                  go_wp2_with fail
                  exact ⟨_, rfl, hJ.front (i := 9) (by decide) (by decide) hdi (by intro x hx e; simp only [pairs, List.mem_cons, List.not_mem_nil, or_false] at hx; rcases hx with rfl | rfl | rfl | rfl | rfl | rfl | rfl | rfl | rfl | rfl | rfl <;> first | exact q8 | (simp at e)) rfl⟩
                case o10 =>
                  intro d0 ys wx hJ hdi hw hdeps
                  have q9 : d0 9 = true := by simp [Region.Deps2, Go.Region.binds] at hdeps; simp [hdeps]
                  have y9 : ys 59 = .pointer (some ⟨p, 0, none⟩) := hJ.1 9 (by decide) (by decide) (by decide) (by decide) (by decide) q9
                  have hE := (hJ.early (by decide) (by decide) hdi).2.2.1
                  have hRx := HA2.out.below hE
                  have c0 : wx.cell? ⟨p, 0, none⟩ = some (.int .i64 (d.pg : Int)) := hRx.var.cell (j := 0) rfl
                  clear hRx hE
                  simp only [y9, List.getD_cons_succ, List.getD_cons_zero, fill, slots, List.filterMap_cons, List.filterMap_nil, id, List.foldl_cons, List.foldl_nil, Act.put, List.setIfInBounds_toArray, List.set_cons_succ, List.set_cons_zero]
                  go_wp2_with fail
                  exact ⟨_, rfl, hJ.front (i := 10) (by decide) (by decide) hdi (by intro x hx e; simp only [pairs, List.mem_cons, List.not_mem_nil, or_false] at hx; rcases hx with rfl | rfl | rfl | rfl | rfl | rfl | rfl | rfl | rfl | rfl | rfl <;> first | exact q9 | (simp at e)) rfl⟩
                case o11 =>
                  intro d0 ys wx hJ hdi hw hdeps
                  have q10 : d0 10 = true := by simp [Region.Deps2, Go.Region.binds] at hdeps; simp [hdeps]
                  have y10 : ys 60 = .int .i64 (d.pg : Int) := hJ.1 10 (by decide) (by decide) (by decide) (by decide) (by decide) q10
                  simp only [y10, List.getD_cons_succ, List.getD_cons_zero, fill, slots, List.filterMap_cons, List.filterMap_nil, id, List.foldl_cons, List.foldl_nil, Act.put, List.setIfInBounds_toArray, List.set_cons_succ, List.set_cons_zero]
                  go_wp2_with (go_at_call 59; (with_reducible refine (HF.out _).mono ?_); rintro e w3 ⟨⟨g3, c3, rfl, hc3, hr3, hg3, hl3⟩, hn3⟩)
                  refine ⟨.slice (some ⟨g3, 0, none⟩) d.pg c3, ?_, hJ.row hdi q10 ⟨g3, c3, rfl, hc3, hr3, hg3, hl3⟩ hn3⟩
                  rfl
                case o12 =>
                  intro d0 ys wx hJ hdi hw hdeps
                  have q5 : d0 5 = true := by simp [Region.Deps2, Go.Region.binds] at hdeps; simp [hdeps]
                  have y5 : ys 55 = .int .i64 (m : Int) := hJ.1 5 (by decide) (by decide) (by decide) (by decide) (by decide) q5
                  have q11 : d0 11 = true := by simp [Region.Deps2, Go.Region.binds] at hdeps; simp [hdeps]
                  obtain ⟨V, hV⟩ : ∃ V, ys 61 = V := ⟨_, rfl⟩
                  obtain ⟨g3, c3, hv3, _⟩ := (hJ.early (by decide) (by decide) hdi).2.2.2.1 q11
                  have HJ := Lib.hid (hJ.pair hdi q5 q11 rfl)
                  rw [hv3] at HJ
                  simp only [y5, hv3, List.getD_cons_succ, List.getD_cons_zero, fill, slots, List.filterMap_cons, List.filterMap_nil, id, List.foldl_cons, List.foldl_nil, Act.put, List.setIfInBounds_toArray, List.set_cons_succ, List.set_cons_zero]
                  clear hJ
                  go_wp2_with fail
                  exact ⟨_, rfl, HJ.out⟩
                case o13 =>
                  intro d0 ys wx hJ hdi hw hdeps
                  have q12 : d0 12 = true := by simp [Region.Deps2, Go.Region.binds] at hdeps; simp [hdeps]
                  have hEa := hJ.early (by decide) (by decide) hdi
                  have y12 := hEa.2.2.2.2.1 q12
                  obtain ⟨g3, c3, hv3, _⟩ := hEa.2.2.2.1 (hJ.2.1 (12, 11) (by decide) q12)
                  have HJ := Lib.hid (fun g0 wy (hl : Lies wy g0 0 [.int .i64 (m : Int), ys 61]) hb => hJ.build hdi q12 hl hb)
                  rw [hv3] at y12 HJ
                  clear hJ hEa hv3
                  simp only [y12, List.getD_cons_succ, List.getD_cons_zero, fill, slots, List.filterMap_cons, List.filterMap_nil, id, List.foldl_cons, List.foldl_nil, Act.put, List.setIfInBounds_toArray, List.set_cons_succ, List.set_cons_zero]
                  go_wp2_with fail
                  exact ⟨_, rfl, HJ.out _ _ (lies_new _ [.int .i64 (m : Int), .slice (some ⟨g3, 0, none⟩) d.pg c3] _) (Geom.bel_alloc _ _)⟩
                case o14 =>
                  intro d0 ys wx hJ hdi hw hdeps
                  have q4 : d0 4 = true := by simp [Region.Deps2, Go.Region.binds] at hdeps; simp [hdeps]
                  have y4 : ys 54 = .slice a2 M c2 := hJ.1 4 (by decide) (by decide) (by decide) (by decide) (by decide) q4
                  have q13 : d0 13 = true := by simp [Region.Deps2, Go.Region.binds] at hdeps; simp [hdeps]
                  obtain ⟨h17, hE, hNR, g0, y13, hLi⟩ : d0 17 = false ∧ Below wr.heap.size wr wx ∧ NewRow wr.heap.size d.pg wx (ys 61) ∧ ∃ g0, ys 63 = .slice (some ⟨g0, 0, none⟩) 1 1 ∧ Lies wx g0 0 [.int .i64 (m : Int), ys 61] := by
                    rcases hJ.2.2 with ⟨_, x2, x3, x5, _, x4⟩ | ⟨_, x, _⟩
                    · obtain ⟨g0, z1, z2⟩ := x4 q13
                      exact ⟨x2, x3, x5 (hJ.2.1 (12, 11) (by decide) (hJ.2.1 (13, 12) (by decide) q13)), g0, z1, z2⟩
                    · rw [x] at hdi; simp at hdi
                  have hall := closed_all hJ.2.1 q4 q13
                  obtain ⟨g3, c3, hv3, hc3, hr3, hg3, hl3⟩ := hNR
                  rw [hv3] at hLi
                  have HJ := Lib.hid hJ
                  have HRx := Lib.hid (HA2.out.below hE)
                  have HO := Lib.hid HRx.out.wait
                  rw [HBM.out] at HO
                  have HRow := Lib.hid hr3
                  clear hJ hv3 hr3
                  simp only [y4, y13, List.getD_cons_succ, List.getD_cons_zero, fill, slots, List.filterMap_cons, List.filterMap_nil, id, List.foldl_cons, List.foldl_nil, Act.put, List.setIfInBounds_toArray, List.set_cons_succ, List.set_cons_zero]
                  refine append_tup rfl _ _ 83 rfl 0 104 (.agg #[.int .i64 0, .slice none 0 0]) 2 32 Tryz.underlying83 infoChange rfl (by decide) _ _ _ rfl (show World.ownsRow _ 0 _ 2 _ M (rowC E2) from HO.out) g0 [.int .i64 (m : Int), .slice (some ⟨g3, 0, none⟩) d.pg c3] rfl rfl hLi ?c1 ?c2 ?c3 ?c5 ?_
                  case c1 => simp [Value.oneCell']
                  case c2 => omega
                  case c3 => (unfold maxLen; omega)
                  case c5 => exact Nat.zero_le _
                  intro g cap2 w6 hown6 hgrow6 hat6 hlt6
                  have hpv := HRx.out.push_now hgrow6
                  go_wp2_with fail
                  exact ⟨_, rfl, HJ.out.append hall h17 (by rw [HAP.out]; exact ⟨wx, g, cap2, g3, c3, rfl, hown6, hgrow6, hat6, hE, HRow.out, hc3, hg3, hl3⟩) (by rw [hpv.1]; simp) hpv.2⟩
                case o15 =>
                  intro d0 ys wx hJ hdi hw hdeps
                  have q0 : d0 0 = true := by simp [Region.Deps2, Go.Region.binds] at hdeps; simp [hdeps]
                  have y0 : ys 50 = .pointer (some ⟨p, 0, none⟩) := hJ.1 0 (by decide) (by decide) (by decide) (by decide) (by decide) q0
                  simp only [y0, List.getD_cons_succ, List.getD_cons_zero, fill, slots, List.filterMap_cons, List.filterMap_nil, id, List.foldl_cons, List.foldl_nil, Act.put, List.setIfInBounds_toArray, List.set_cons_succ, List.set_cons_zero]
                  go_wp2_with fail
                  exact ⟨_, rfl, hJ.idle (i := 15) (by decide) rfl⟩
                case o16 =>
                  intro d0 ys wx hJ hdi hw hdeps
                  have q15 : d0 15 = true := by simp [Region.Deps2, Go.Region.binds] at hdeps; simp [hdeps]
                  have y15 : ys 65 = .pointer (some ⟨p, 0, none⟩) := hJ.1 15 (by decide) (by decide) (by decide) (by decide) (by decide) q15
                  simp only [y15, List.getD_cons_succ, List.getD_cons_zero, fill, slots, List.filterMap_cons, List.filterMap_nil, id, List.foldl_cons, List.foldl_nil, Act.put, List.setIfInBounds_toArray, List.set_cons_succ, List.set_cons_zero]
                  go_wp2_with fail
                  exact ⟨_, rfl, hJ.idle (i := 16) (by decide) rfl⟩
                case o17 =>
                  intro d0 ys wx hJ hdi hw hdeps
                  have q16 : d0 16 = true := by simp [Region.Deps2, Go.Region.binds] at hdeps; simp [hdeps]
                  have y16 : ys 66 = .pointer (some ⟨p, 4, none⟩) := hJ.1 16 (by decide) (by decide) (by decide) (by decide) (by decide) q16
                  have q14 : d0 14 = true := by simp [Region.Deps2, Go.Region.binds] at hdeps; simp [hdeps]
                  obtain ⟨w6, hAP, hc6, hf6, h17, hwx⟩ : ∃ w6, AP w6 (ys 64) ∧ w6.cell? ⟨p, 4, none⟩ ≠ none ∧ w6.frozen? ⟨p, 4, none⟩ = false ∧ d0 17 = false ∧ wx = w6 := by
                    rcases hJ.2.2 with ⟨x, _⟩ | ⟨_, _, w6, x1, x2, x3, ⟨x4, x5⟩ | ⟨x4, _⟩⟩
                    · rw [q14] at x; simp at x
                    · exact ⟨w6, x1, x2, x3, x4, x5⟩
                    · rw [hdi] at x4; simp at x4
                  subst hwx
                  rw [HAP.out] at hAP
                  obtain ⟨_, g64, cap64, _, _, y64, _⟩ := hAP
                  obtain ⟨cv, hcv⟩ := Option.ne_none_iff_exists'.1 hc6
                  have HST := Lib.hid (hJ.store q14 hdi (.tuple #[]))
                  rw [y64] at HST
                  clear hJ hc6
                  simp only [y16, y64, List.getD_cons_succ, List.getD_cons_zero, fill, slots, List.filterMap_cons, List.filterMap_nil, id, List.foldl_cons, List.foldl_nil, Act.put, List.setIfInBounds_toArray, List.set_cons_succ, List.set_cons_zero]
                  go_wp2_with fail
                  first | exact ⟨_, rfl, HST.out⟩ | exact ⟨rfl, _, HST.out⟩ | exact ⟨rfl, HST.out⟩
              case done =>
                intro d0 ys wx hJ hall
                obtain ⟨w6, hA6, hwx⟩ : ∃ w6, AP w6 (ys 64) ∧ wx = w6.setCell ⟨p, 4, none⟩ (ys 64) := by
                  rcases hJ.2.2 with ⟨x, _⟩ | ⟨_, _, w6, x1, x2, x3, ⟨x4, x5⟩ | ⟨_, x5⟩⟩
                  · rw [hall 14 (by decide)] at x; simp at x
                  · rw [hall 17 (by decide)] at x4; simp at x4
                  · exact ⟨w6, x1, x5⟩
                rw [HAP.out] at hA6
                obtain ⟨wz, g, cap2, g3, c3, hv64, hown, hgr, hat, hE, hrow, hc3, hg3, hl3⟩ := hA6
                rw [hv64] at hwx
                have hK := HA2.out.push_at hE ⟨m, List.replicate d.pg 255, g3, c3⟩ ⟨hrow, by rw [List.length_replicate]; exact hc3, hg3, hl3⟩ HBM.out.symm (by simp only [rowC, List.flatMap_cons, List.flatMap_nil, List.append_nil, List.length_replicate]; exact hown) hgr hat
                rw [← hwx] at hK
                have HK := Lib.hid hK
                have HLX := Lib.hid (show (E2 ++ [(⟨m, List.replicate d.pg 255, g3, c3⟩ : Ent)]).length = M + 1 by rw [List.length_append, HBM.out]; rfl)
                clear hJ hall hK hwx hown hgr hat hE hv64 hrow
                simp only [List.getD_cons_succ, List.getD_cons_zero, fill, slots, List.filterMap_cons, List.filterMap_nil, id, List.foldl_cons, List.foldl_nil, Act.put, List.setIfInBounds_toArray, List.set_cons_succ, List.set_cons_zero]
                go_wp2
                refine ⟨⟨m + 1, by go_num, by omega, by omega, some ⟨g, 0, none⟩, cap2, E2 ++ [⟨m, List.replicate d.pg 255, g3, c3⟩], ?_⟩, by simp [intOf]; omega⟩
                rw [HLX.out]
                have hK := HK.out
                simp only at hK
                rw [HNX.out] at hK
                exact ⟨hK.1, HF2.out.trans hK.2⟩
            · have z1 : decide ((m : Int) < (F : Int) + (d.pgs : Int)) = false := by simp; omega
              have z2 : decide (m < F + d.pgs) = false := by simp; omega
              have HZ := Lib.hid (show blown d F (m - F) = d.wait ++ (List.range d.pgs).map fun i => (F + i, List.replicate d.pg 255) by rw [show m - F = d.pgs by omega]; rfl)
              go_wp2
              go_ret
              rw [HE.out, HL.out]
              have hK := HA2.out
              rw [HZ.out] at hK
              refine ⟨rfl, _, ⟨_, _, _, _, _, hK, rfl⟩, ?_⟩
              exact After.trans (after_below HBr.out) (After.trans (After.of_grows HG1.out (fun j hj => .inl hj)) HF2.out)
      · rw [hev] at HANY
        have HE := Lib.hid (erase_state hdn hk hev)
        generalize hF : k * d.pgs = F at *
        clear h hdn hr hd hev hF
        go_enter Tryz.func39, Tryz.ntmps39
        go_wp2_with (first
          | (go_at_call 21; (with_reducible refine (HD.out _ (Below.refl _ _)).mono ?_); rintro e w3 ⟨rfl, rfl⟩)
          | (go_at_call 75; (with_reducible refine (HPG.out _).mono ?_); rintro e w4 ⟨rfl, hb4⟩; have d1 := HC1.out _ hb4)
          | (go_at_call 76; (with_reducible refine (HANY.out _ hb4).mono ?_); rintro e w5 ⟨rfl, hb5⟩))
        go_ret
        rw [HE.out]
        exact ⟨rfl, _, ⟨_, _, _, _, _, HA.out.below (bel2 hb4 hb5), rfl⟩, after_below (bel2 hb4 hb5)⟩
    · have HE := Lib.hid (show eraseD d r = (1, d) by unfold eraseD; rw [hdn, if_neg (by simp), if_pos hr])
      have HPG := Lib.hid (fun w => Geom.page_any ⟨d.pg, d.pgs, d.rgs⟩ r 0 w)
      rw [pageG_no hr] at HPG
      unfold Geom.gV at HPG
      have HC1 := Lib.hid (fun wx (hb : Below w.heap.size w wx) => hb.cell (p := ⟨p, 1, none⟩) hpl0 |>.trans c1)
      clear h hdn hr hd
      go_enter Tryz.func39, Tryz.ntmps39
      go_wp2_with (first
        | (go_at_call 21; (with_reducible refine (HD.out _ (Below.refl _ _)).mono ?_); rintro e w3 ⟨rfl, rfl⟩)
        | (go_at_call 75; (with_reducible refine (HPG.out _).mono ?_); rintro e w4 ⟨rfl, hb4⟩; have d1 := HC1.out _ hb4))
      go_ret
      rw [HE.out]
      exact ⟨rfl, _, ⟨_, _, _, _, _, HA.out.below hb4, rfl⟩, after_below hb4⟩
  · rw [hdn] at HD
    have HE := Lib.hid (show eraseD d r = (6, d) by unfold eraseD; rw [hdn]; rfl)
    clear h hdn
    go_enter Tryz.func39, Tryz.ntmps39
    go_wp2_with (go_at_call 21; (with_reducible refine (HD.out _ (Below.refl _ _)).mono ?_); rintro e w3 ⟨rfl, rfl⟩)
    go_ret
    rw [HE.out]
    exact ⟨rfl, _, ⟨_, _, _, _, _, HA.out, rfl⟩, After.refl _ _⟩
end Go.Proofs.YtcmjambbdfangaaGreat.Flash
/-
  Contracts of package flash.
-/
set_option linter.unusedVariables false
set_option linter.unusedSimpArgs false
namespace Go.Proofs.YtcmjambbdfangaaGreat.Flash
open Go.RowKit
open Go.Proofs.YtcmjambbdfangaaGreat.Own
open Tup Bytes Foot
theorem fRead_any {w : World} {p : Nat} {d : Dev} {S : Nat → Prop} (h : FHas w p d S) (hd : d.Ok) (q : Int) :
    Calls Tryz.prog 31 #[.pointer (some ⟨p, 0, none⟩), .int .i64 q] w fun e w' => e = .returned (.tuple #[.string (bs (readD d q).1), .int .i64 ((readD d q).2 : Int)]) ∧ Below w.heap.size w w' := by
  obtain ⟨bB, cap, wv, fz, E, h, rfl⟩ := h
  exact atRead_any h hd q
theorem fProgram_any {w : World} {p : Nat} {d : Dev} {S : Nat → Prop} (h : FHas w p d S) (hd : d.Ok) (q : Int) (b : ByteArray) :
    Calls Tryz.prog 48 #[.pointer (some ⟨p, 0, none⟩), .int .i64 q, .string b] w fun e w' => e = .returned (.int .i64 ((programD d q b.data.toList).1 : Int)) ∧ ∃ S', FHas w' p (programD d q b.data.toList).2 S' ∧ After S w w' S' := by
  obtain ⟨bB, cap, wv, fz, E, h, rfl⟩ := h
  exact atProgram_any h hd q b
theorem fErase_any {w : World} {p : Nat} {d : Dev} {S : Nat → Prop} (h : FHas w p d S) (hd : d.Ok) (r : Int) :
    Calls Tryz.prog 39 #[.pointer (some ⟨p, 0, none⟩), .int .i64 r] w fun e w' => e = .returned (.int .i64 ((eraseD d r).1 : Int)) ∧ ∃ S', FHas w' p (eraseD d r).2 S' ∧ After S w w' S' := by
  obtain ⟨bB, cap, wv, fz, E, h, rfl⟩ := h
  exact atErase_any h hd r
theorem fFlush_any {w : World} {p : Nat} {d : Dev} {S : Nat → Prop} (h : FHas w p d S) (hd : d.Ok) :
    Calls Tryz.prog 33 #[.pointer (some ⟨p, 0, none⟩)] w fun e w' => e = .returned (.int .i64 ((flushD d).1 : Int)) ∧ ∃ S', FHas w' p (flushD d).2 S' ∧ After S w w' S' := by
  obtain ⟨bB, cap, wv, fz, E, h, rfl⟩ := h
  exact atFlush_any h hd
theorem fFuse_any {w : World} {p : Nat} {d : Dev} {S : Nat → Prop} (h : FHas w p d S) (_hd : d.Ok) (n : Int) (hn : n < 9223372036854775808) :
    Calls Tryz.prog 14 #[.pointer (some ⟨p, 0, none⟩), .int .i64 n] w fun e w' => e = .returned (.tuple #[]) ∧ ∃ S', FHas w' p (fuseD d n) S' ∧ After S w w' S' := by
  obtain ⟨bB, cap, wv, fz, E, h, rfl⟩ := h
  refine (atFuse_any h n hn).mono ?_
  rintro e w' ⟨he, g, fy, hF⟩
  exact ⟨he, _, ⟨_, _, _, _, _, hF, rfl⟩, After.of_grows g (fun j hj => .inl hj)⟩
theorem fDown_any {w : World} {p : Nat} {d : Dev} {S : Nat → Prop} (h : FHas w p d S) (_hd : d.Ok) :
    Calls Tryz.prog 21 #[.pointer (some ⟨p, 0, none⟩)] w fun e w' => e = .returned (.bool d.down) ∧ Below w.heap.size w w' := by
  obtain ⟨bB, cap, wv, fz, E, h, rfl⟩ := h
  refine (atDown_any h).mono ?_
  rintro e w' ⟨he, rfl⟩
  exact ⟨he, Below.refl _ _⟩
theorem fPending_any {w : World} {p : Nat} {d : Dev} {S : Nat → Prop} (h : FHas w p d S) (_hd : d.Ok) :
    Calls Tryz.prog 20 #[.pointer (some ⟨p, 0, none⟩)] w fun e w' => e = .returned (.int .i64 (d.wait.length : Int)) ∧ Below w.heap.size w w' := by
  obtain ⟨bB, cap, wv, fz, E, h, rfl⟩ := h
  refine (atPending_any h).mono ?_
  rintro e w' ⟨he, rfl⟩
  exact ⟨he, Below.refl _ _⟩
theorem fImage_any {w : World} {p : Nat} {d : Dev} {S : Nat → Prop} (h : FHas w p d S) (_hd : d.Ok) :
    Calls Tryz.prog 18 #[.pointer (some ⟨p, 0, none⟩)] w fun e w' => e = .returned (.string (bs d.img)) ∧ Below w.heap.size w w' := by
  obtain ⟨bB, cap, wv, fz, E, h, rfl⟩ := h
  refine (atImage_any h).mono ?_
  rintro e w' ⟨he, rfl⟩
  exact ⟨he, Below.refl _ _⟩
theorem fGeom_any {w : World} {p : Nat} {d : Dev} {S : Nat → Prop} (h : FHas w p d S) (_hd : d.Ok) :
    Calls Tryz.prog 45 #[.pointer (some ⟨p, 0, none⟩)] w fun e w' => e = .returned (Geom.gV ⟨d.pg, d.pgs, d.rgs⟩) ∧ Below w.heap.size w w' := by
  obtain ⟨bB, cap, wv, fz, E, h, rfl⟩ := h
  exact atGeom_any h
end Go.Proofs.YtcmjambbdfangaaGreat.Flash
