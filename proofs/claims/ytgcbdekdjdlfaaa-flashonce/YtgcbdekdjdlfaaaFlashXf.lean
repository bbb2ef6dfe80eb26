/-
  The landed device: Flush, Crash.
-/
import Derived.Test.YtgcbdekdjdlfaaaFlashXe
set_option linter.unusedVariables false
set_option linter.unusedSimpArgs false
namespace Go.Proofs.Ytgcbdekdjdlfaaa.Flash
open Go.RowKit
open Go.Proofs.Ytgcbdekdjdlfaaa.Own
open Tup Bytes Foot
open Go.Proofs.Ytgcbdekdjdlfaaa.Region (fill Then Deps Each wp_region_is wp_region_is_tail)

set_option maxRecDepth 100000 in
theorem kept_any (pg : Nat) (p0 : 32 ≤ pg) (p1 : pg ≤ 128) (m : Int) (hm : m < 9223372036854775808) (w : World) :
    Calls Try.prog 53 #[.int .i64 (pg : Int), .int .i64 m] w fun e w' => e = .returned (.int .i64 (tornN pg m : Int)) ∧ w = w' := by
  by_cases h1 : m < 1
  · have HE := Lib.hid (show tornN pg m = 0 by unfold tornN; rw [if_pos h1])
    have d1 : decide (m < 1) = true := decide_eq_true h1
    clear h1
    go_enter Try.func53, Try.ntmps53
    go_wp2
    go_ret
    rw [HE.out]
    exact ⟨rfl, rfl⟩
  · have d1 : decide (m < 1) = false := decide_eq_false h1
    by_cases h2 : m = 1
    · have HE := Lib.hid (show tornN pg m = pg by unfold tornN; rw [if_neg h1, if_pos h2])
      have d2 : (m == 1) = true := by simp [h2]
      clear h1 h2
      go_enter Try.func53, Try.ntmps53
      go_wp2
      go_ret
      rw [HE.out]
      exact ⟨rfl, rfl⟩
    · have d2 : (m == 1) = false := by simp [h2]
      have hr := Int.emod_lt_of_pos (m - 2) (show (0 : Int) < (pg : Int) - 1 by omega)
      have hr0 := Int.emod_nonneg (m - 2) (show (pg : Int) - 1 ≠ 0 by omega)
      have HE := Lib.hid (show (tornN pg m : Int) = 1 + (m - 2) % ((pg : Int) - 1) by unfold tornN; rw [if_neg h1, if_neg h2]; omega)
      have htm : (m - 1 - 1).tmod ((pg : Int) - 1) = (m - 2) % ((pg : Int) - 1) := by
        rw [show m - 1 - 1 = m - 2 by omega]
        exact Int.tmod_eq_emod_of_nonneg (by omega)
      have hz : ((pg : Int) - 1 == 0) = false := by simp; omega
      generalize (m - 2) % ((pg : Int) - 1) = z at *
      have h3 : 2 ≤ m := by omega
      clear h1 h2
      go_enter Try.func53, Try.ntmps53
      go_wp2
      go_ret
      rw [HE.out]
      exact ⟨rfl, rfl⟩
set_option maxRecDepth 100000 in
theorem flush1_any {w : World} {p x : Nat} {pg : Nat} (hx : w.cell? ⟨x, 0, none⟩ = some (ptr p)) (c0 : w.cell? ⟨p, 0, none⟩ = some (.int .i64 (pg : Int))) (i : Int) :
    Calls Try.prog 51 #[.int .i64 i, ptr x] w fun e w' => e = .returned (.int .i64 (pg : Int)) ∧ Below w.heap.size w w' := by
  unfold ptr at hx ⊢
  go_enter Try.func51, Try.ntmps51
  go_wp2
  go_ret
  exact ⟨rfl, Below.refl _ _⟩
set_option maxRecDepth 100000 in
theorem crash1_any {w : World} {p x y : Nat} {pg : Nat} (p0 : 32 ≤ pg) (p1 : pg ≤ 128) (ma : Option Addr) (mask : List Int) (ml mc : Nat) (hl : ml = mask.length) (hx : w.cell? ⟨x, 0, none⟩ = some (.slice ma ml mc)) (hy : w.cell? ⟨y, 0, none⟩ = some (ptr p)) (c0 : w.cell? ⟨p, 0, none⟩ = some (.int .i64 (pg : Int)))
    (hM : MaskAt w ma mask (fun _ => False)) (hm : ∀ m ∈ mask, m < 9223372036854775808) (hml : mask.length ≤ maxLen) (i : Nat) :
    Calls Try.prog 52 #[.int .i64 (i : Int), ptr x, ptr y] w fun e w' => e = .returned (.int .i64 (tornN pg (mask.getD i 0) : Int)) ∧ Below w.heap.size w w' := by
  subst hl
  unfold ptr at hy ⊢
  by_cases h : i < mask.length
  · obtain ⟨b, off, rfl, he⟩ := hM.get h
    have hmi := hm mask[i] (List.getElem_mem h)
    have hg : mask.getD i 0 = mask[i] := by rw [List.getD_eq_getElem?_getD, List.getElem?_eq_getElem h]; rfl
    rw [hg]
    have HK := Lib.hid (fun w => kept_any pg p0 p1 mask[i] hmi w)
    have d1 : decide ((i : Int) < (mask.length : Int)) = true := by simp; omega
    have d2 : (i : Int) < (mask.length : Int) := by omega
    generalize tornN pg mask[i] = t at *
    generalize mask[i] = m at *
    clear hM hm hg hmi
    go_enter Try.func52, Try.ntmps52
    go_wp2
    refine wp_region_is [9, 10, 11, 12, 13, 14, 15, 16, 17, 18, 4] (fun w' => Below w.heap.size w w')
      [.pointer (some ⟨p, 0, none⟩), .pointer (some ⟨p, 0, none⟩), .pointer (some ⟨p, 0, none⟩), .pointer (some ⟨p, 0, none⟩), .int .i64 (pg : Int), .slice (some ⟨b, off, none⟩) mask.length mc, .int .i64 (i : Int), .pointer (some ⟨b, off + i, none⟩), .int .i64 m, .int .i64 (t : Int), .int .i64 (t : Int)] (by kernel_rfl) (by kernel_rfl) rfl (by decide) (by simp) (Below.refl _ _).drew ?each ?done
    case each =>
      simp only [Each]
      repeat' (first | exact trivial | refine And.intro ?_ ?_)
      all_goals
        intro ys wx hBx hdeps
        simp only [Deps, Region.binds, List.getD_cons_zero, List.getD_cons_succ, forall_const, and_true] at hdeps
        have hx1 := hBx.cell (p := ⟨x, 0, none⟩) (block_lt_of_cell hx) |>.trans hx
        have hy1 := hBx.cell (p := ⟨y, 0, none⟩) (block_lt_of_cell hy) |>.trans hy
        have c1 := hBx.cell (p := ⟨p, 0, none⟩) (block_lt_of_cell c0) |>.trans c0
        have he1 := hBx.cell (p := ⟨b, off + i, none⟩) (block_lt_of_cell he) |>.trans he
        simp only [hdeps, fill, List.foldl_cons, List.foldl_nil, Act.put, List.setIfInBounds_toArray, List.set_cons_succ, List.set_cons_zero]
        first
          | (go_wp2_with fail; exact ⟨_, rfl, rfl, hBx, Below.refl _ _⟩)
          | (go_wp2_with (go_at_call 53; (with_reducible refine (HK.out wx).mono ?_); rintro e w3 ⟨rfl, rfl⟩); exact ⟨_, rfl, rfl, hBx, Below.refl _ _⟩)
    case done =>
      intro ys wx hBx hV
      have h4 : ys 4 = .int .i64 (t : Int) := hV 10 (by decide)
      simp only [h4, fill, List.drop_succ_cons, List.drop_zero, List.foldl_cons, List.foldl_nil, Act.put, List.setIfInBounds_toArray, List.set_cons_succ, List.set_cons_zero]
      go_wp2
      go_ret
      exact ⟨rfl, hBx⟩
  · have d1 : decide ((i : Int) < (mask.length : Int)) = false := by simp; omega
    have HE := Lib.hid (show tornN pg (mask.getD i 0) = 0 by rw [List.getD_eq_getElem?_getD, List.getElem?_eq_none (by omega)]; rfl)
    rw [HE.out]
    clear hM hm
    go_enter Try.func52, Try.ntmps52
    go_wp2
    go_ret
    exact ⟨rfl, Below.refl _ _⟩
theorem FAt.cells0 {w : World} {p : Nat} {d : Dev} {bB cap : Nat} {wv : Value} {fz : Nat} {E : List Ent} (h : FAt w p d bB cap wv fz E) : w.cell? ⟨p, 0, none⟩ = some (.int .i64 (d.pg : Int)) := h.var.cell (j := 0) rfl
theorem flushD_ok {d : Dev} (hd : d.Ok) (h1 : d.down = false) (h2 : d.blow.1 = false) : flushD d = (0, { d.blow.2 with img := settleI d.blow.2 (fun _ => d.blow.2.pg) d.blow.2.wait.length, wait := [] }) := by
  have hl := blow_like d
  unfold flushD
  rw [h1, h2, settle_all (hd.like hl) _ (Nat.le_refl _), List.take_length, hl.wait, hl.pg, hl.img]; rfl
theorem after_inP {S : Nat → Prop} {w w' : World} {p bB : Nat} (g : Grows (fun k => k = p ∨ k = bB) w w') (h1 : S p) (h2 : S bB) : After S w w' (fun k => k = p ∨ k = bB) :=
  ⟨g.mono (fun k hk => by rcases hk with rfl | rfl <;> assumption), fun k hk => .inl (by rcases hk with rfl | rfl <;> assumption)⟩
theorem foot_nil (p bB : Nat) : ∀ k, footF p bB (.slice none 0 0) [] k → k = p ∨ k = bB := by
  rintro k (h | h | h | ⟨x, hx, _⟩)
  · exact .inl h
  · exact .inr h
  · simp [Value.ownBlock] at h
  · simp at hx
theorem after_sub {S T T' : Nat → Prop} {w w' : World} (h : After S w w' T) (hs : ∀ k, T' k → T k) : After S w w' T' := ⟨h.grows, fun k hk => h.foot k (hs k hk)⟩
set_option maxRecDepth 100000 in
set_option maxHeartbeats 4000000 in
theorem atFlush_any {w : World} {p : Nat} {d : Dev} {bB cap : Nat} {wv : Value} {fz : Nat} {E : List Ent} (h : FAt w p d bB cap wv fz E) (hd : d.Ok) :
    Calls Try.prog 27 #[ptr p] w fun e w' => e = .returned (.int .i64 ((flushD d).1 : Int)) ∧ ∃ S, FHas w' p (flushD d).2 S ∧ After (footF p bB wv E) w w' S := by
  have hB1 := Geom.bel_alloc w (.cells #[ptr p] 28)
  have h1 := h.below hB1
  have HA := Lib.hid h
  have HA1 := Lib.hid h1
  have hpl := h.var.lt
  have hbl := h.lt
  have HD := Lib.hid (atDown_any h1)
  have HV := Lib.hid (Var.new w 28 [ptr p])
  have HB1 := Lib.hid hB1
  unfold ptr at HD HV HB1 ⊢
  rcases hdn : d.down with _ | _
  · rw [hdn] at HD
    have HC := Lib.hid (atCount_any h1)
    unfold ptr at HC
    have hcs : (w.alloc (.cells #[ptr p] 28)).cell? ⟨w.heap.size, 0, none⟩ = some (ptr p) := (Var.new w 28 [ptr p]).cell (j := 0) rfl
    rcases hbb : d.blow.1 with _ | _
    · have HE := Lib.hid (flushD_ok hd hdn hbb)
      have hok := hd.like (blow_like d)
      have HS := Lib.hid (fun (w2 : World) (fy : Nat) (hF : FAt w2 p d.blow.2 bB cap wv fy E) (hx : w2.cell? ⟨w.heap.size, 0, none⟩ = some (ptr p)) => settleF_any hF hok (fun _ => d.blow.2.pg) (fun _ => Nat.le_refl _) w.heap.size w.heap.size (fun wx i _ g hi => by
        obtain ⟨im, hF⟩ := hi
        exact flush1_any (g.cell hx (by show ¬ w.heap.size = bB; omega)) hF.cells0 i))
      unfold ptr at HS
      rw [code_ok hbb] at HC
      have hmf : ∀ (fn : Fn) (first cap : Array Value) (w : World), (Instr.makeFunc fn first cap).run Try.prog w = .ok (.func fn first cap) w := fun _ _ _ _ => rfl
      clear h h1 hdn hbb hd hok
      go_enter Try.func27, Try.ntmps27
      go_wp2_with (first
        | (go_at_call 23; (with_reducible refine HD.out.mono ?_); rintro e w3 ⟨rfl, rfl⟩)
        | (go_at_call 49; (with_reducible refine HC.out.mono ?_); rintro e w4 ⟨rfl, hg4, fy, hF4⟩; have hv4 := (hg4.var HV.out (by show ¬ w.heap.size = p; omega)).cell (j := 0) rfl; have HG4 := Lib.hid hg4; have HF4 := Lib.hid hF4; clear hg4 hF4)
        | (go_at_call 50; (with_reducible refine (HS.out w4 fy HF4.out hv4).mono ?_); rintro e w5 ⟨rfl, hF5, hg5⟩))
      go_ret
      rw [HE.out]
      refine ⟨rfl, _, ⟨_, _, _, _, _, hF5, rfl⟩, ?_⟩
      have g := (HG4.out.mono (S' := fun k => k = p ∨ k = bB) (fun _ h => .inl h)).trans hg5 (fun _ h => .inl h)
      exact after_mid HB1.out (after_sub (after_inP (S := footF p bB wv E) g (.inl rfl) (.inr (.inl rfl))) (foot_nil p bB))
    · have HE := Lib.hid (show flushD d = (6, d.blow.2) by unfold flushD; rw [hdn, hbb]; rfl)
      rw [code_blown hbb] at HC
      clear h h1 hdn hbb hd
      go_enter Try.func27, Try.ntmps27
      go_wp2_with (first
        | (go_at_call 23; (with_reducible refine HD.out.mono ?_); rintro e w3 ⟨rfl, rfl⟩)
        | (go_at_call 49; (with_reducible refine HC.out.mono ?_); rintro e w4 ⟨rfl, hg4, fy, hF4⟩; have hv4 := (hg4.var HV.out (by show ¬ w.heap.size = p; omega)).cell (j := 0) rfl; have HG4 := Lib.hid hg4; have HF4 := Lib.hid hF4; clear hg4 hF4))
      go_ret
      rw [HE.out]
      exact ⟨rfl, _, ⟨_, _, _, _, _, HF4.out, rfl⟩, after_mid HB1.out (After.of_grows HG4.out (fun j hj => .inl hj))⟩
  · rw [hdn] at HD
    have HE := Lib.hid (show flushD d = (6, d) by unfold flushD; rw [hdn]; rfl)
    have hcs : (w.alloc (.cells #[ptr p] 28)).cell? ⟨w.heap.size, 0, none⟩ = some (ptr p) := (Var.new w 28 [ptr p]).cell (j := 0) rfl
    clear h h1 hdn hd
    go_enter Try.func27, Try.ntmps27
    go_wp2_with (go_at_call 23; (with_reducible refine HD.out.mono ?_); rintro e w3 ⟨rfl, rfl⟩)
    go_ret
    rw [HE.out]
    exact ⟨rfl, _, ⟨_, _, _, _, _, HA1.out, rfl⟩, after_below HB1.out⟩
theorem crash_fused (d : Dev) (mask : List Int) (im : List UInt8) (h : im = crashI d mask d.wait.length) : fuseD ({ ({ d with img := im, wait := [] } : Dev) with down := false }) (-1) = crashD d mask := by
  rw [crash_is, h]; rfl
set_option maxRecDepth 100000 in
set_option maxHeartbeats 4000000 in
theorem atCrash_any {w : World} {p : Nat} {d : Dev} {bB cap : Nat} {wv : Value} {fz : Nat} {E : List Ent} (h : FAt w p d bB cap wv fz E) (hd : d.Ok) (ma : Option Addr) (mask : List Int) (ml mc : Nat) (hl : ml = mask.length) (hM : MaskAt w ma mask (footF p bB wv E)) (hm : ∀ m ∈ mask, m < 9223372036854775808) (hml : mask.length ≤ maxLen) :
    Calls Try.prog 28 #[ptr p, .slice ma ml mc] w fun e w' => e = .returned (.tuple #[]) ∧ ∃ S, FHas w' p (crashD d mask) S ∧ After (footF p bB wv E) w w' S := by
  subst hl
  have hB1 := (Geom.bel_alloc w (.cells #[ptr p] 28)).trans ((Geom.bel_alloc (w.alloc (.cells #[ptr p] 28)) (.cells #[.slice ma mask.length mc] 37)).mono (Geom.bel_alloc w (.cells #[ptr p] 28)).size)
  have h1 := h.below hB1
  have hpl := h.var.lt
  have hbl := h.lt
  have hp0 := hd.p0
  have hp1 := hd.p1
  have HV := Lib.hid ((Var.new w 28 [ptr p]).alloc (.cells #[.slice ma mask.length mc] 37))
  have HV2 := Lib.hid (Var.new (w.alloc (.cells #[ptr p] 28)) 37 [.slice ma mask.length mc])
  have HB1 := Lib.hid hB1
  have HS := Lib.hid (settleC_any h1 hd (fun i => tornN d.pg (mask.getD i 0)) (fun i => tornN_le d.pg (by omega) _) (w.heap.size + 1) w.heap.size (fun wx i _ g hi => by
    obtain ⟨im, hF⟩ := hi
    have hx := (g.var HV2.out (by simp; omega)).cell (j := 0) rfl
    have hy := (g.var HV.out (by show ¬ w.heap.size = bB; omega)).cell (j := 0) rfl
    rw [show (w.alloc (.cells #[ptr p] 28)).heap.size = w.heap.size + 1 by simp] at hx
    refine crash1_any hp0 hp1 ma mask _ mc rfl hx hy hF.cells0 ?_ hm hml i
    rcases hM with hM | ⟨b, off, ha, hLi, hn⟩
    · exact .inl hM
    · refine .inr ⟨b, off, ha, fun j c hj => ?_, fun x => x⟩
      exact g.cell (p := ⟨b, off + j, none⟩) (by rw [HB1.out.cell (p := ⟨b, off + j, none⟩) (block_lt_of_cell (hLi j c hj))]; exact hLi j c hj) (fun e => hn (by rw [show b = bB from e]; exact .inr (.inl rfl)))))
  rw [settle_crash] at HS
  unfold ptr at HS HV HV2 HB1 ⊢
  have hmf : ∀ (fn : Fn) (first cap : Array Value) (w : World), (Instr.makeFunc fn first cap).run Try.prog w = .ok (.func fn first cap) w := fun _ _ _ _ => rfl
  have v0 := HV.out.cell (j := 0) rfl
  clear h h1 hd hM hm hp0 hp1 hB1
  go_enter Try.func28, Try.ntmps28
  go_wp2_with (first
    | (go_at_call 50; (with_reducible refine HS.out.mono ?_); rintro e w4 ⟨rfl, hF4, hg4⟩; have v4 := (hg4.var HV.out (by omega)).cell (j := 0) rfl; have c5 := hF4.var.cell (j := 5) rfl; have f5 := hF4.var.frozen 5; have HF5 := Lib.hid (hF4.turn (e := { ({ d with img := crashI d mask d.wait.length, wait := [] } : Dev) with down := false }) (Grows.set (S := (· = p)) w4 ⟨p, 5, none⟩ (.bool false) rfl) (hF4.var.set 5 (.bool false)) rfl rfl hF4.fuz hF4.fuz0); have HG5 := Lib.hid (hg4.trans (Grows.set (S := (· = p)) w4 ⟨p, 5, none⟩ (.bool false) rfl) (fun _ h => .inl (.inl h))); have HFU := Lib.hid (atFuse_any HF5.out (-1) (by omega)); unfold ptr at HFU; clear hF4 hg4)
    | (go_at_call 30; (with_reducible refine HFU.out.mono ?_); rintro e w6 ⟨rfl, hg6, fy, hF6⟩))
  refine bodyPost_end (results_none rfl _ _ _) rfl ?_
  rw [crash_fused d mask _ rfl] at hF6
  refine ⟨rfl, _, ⟨_, _, _, _, _, hF6, rfl⟩, ?_⟩
  have g := HG5.out.trans hg6 (fun _ h => .inl (.inl h))
  exact after_mid HB1.out (after_sub (after_inP (S := footF p bB wv E) g (.inl rfl) (.inr (.inl rfl))) (foot_nil p bB))
end Go.Proofs.Ytgcbdekdjdlfaaa.Flash
