/-
  ChartPlays: both accounts tell the same.
-/
import Derived.Test.YtmkdhehdfdkbjaaChartL
set_option linter.unusedVariables false
set_option linter.unusedSimpArgs false
namespace Go.Proofs.Ytmkdhehdfdkbjaa.Chart
open Go.RowKit
open Go.Proofs.Ytmkdhehdfdkbjaa.Own
open Tup Foot
open Go.Proofs.Ytmkdhehdfdkbjaa.Region (fill Then Deps Each wp_region_is wp_region_is_tail)

theorem epoch_nat {c : Ch} {k : Nat} (h : k < c.rgs) : epochC c (k : Int) = c.ep k := by unfold epochC; rw [if_pos (Ch.is_nat h)]; rfl
theorem used_nat {c : Ch} {k : Nat} (h : k < c.rgs) : usedC c (k : Int) = c.us k := by unfold usedC; rw [if_pos (Ch.is_nat h)]; rfl
theorem epoch_out {c : Ch} {i : Int} (h : c.is i = false) : epochC c i = 0 := by unfold epochC; rw [h]; rfl
theorem used_out {c : Ch} {i : Int} (h : c.is i = false) : usedC c i = 0 := by unfold usedC; rw [h]; rfl
theorem self_same (n : Nat) : ((n : Int) == (n : Int)) = true := by simp
theorem self_ne (n : Nat) : ((n : Int) != (n : Int)) = false := by simp
set_option maxRecDepth 100000 in
set_option maxHeartbeats 16000000 in
theorem same_any {w : World} {p r : Nat} {c : Ch} {S R : Nat → Prop} (h : Two w p r c c S R) (hd : c.Ok) (raw : Int) :
    Calls Try.prog 16 #[.pointer (some ⟨p, 0, none⟩), .pointer (some ⟨r, 0, none⟩), .int .i64 raw] w fun e w' => e = .returned (.bool true) ∧ Below w.heap.size w w' := by
  have H0 := Lib.hid h
  have HD := Lib.hid hd
  have hr1 := hd.r1
  obtain ⟨bE, cE, bU, cU, hrows⟩ := h.r.rows hd
  have HEp := Lib.hid (fun w' (hb : Below w.heap.size w w') k (hk : k < c.rgs) => cEpoch_any (h.f.below hb) hd (k : Int))
  have HUs := Lib.hid (fun w' (hb : Below w.heap.size w w') k (hk : k < c.rgs) => cUsed_any (h.f.below hb) hd (k : Int))
  have HEr := Lib.hid (fun w' (hb : Below w.heap.size w w') => cEpoch_any (h.f.below hb) hd raw)
  have HUr := Lib.hid (fun w' (hb : Below w.heap.size w w') => cUsed_any (h.f.below hb) hd raw)
  have HO := Lib.hid (fun w' (hb : Below w.heap.size w w') => cOldest_any (h.f.below hb) hd)
  have HDO := Lib.hid (fun w' (hb : Below w.heap.size w w') => dOldest_any (h.r.below hb) hd)
  have HF := Lib.hid (fun w' (hb : Below w.heap.size w w') => cFree_any (h.f.below hb) hd)
  have HDF := Lib.hid (fun w' (hb : Below w.heap.size w w') => dFree_any (h.r.below hb) hd)
  have HL := Lib.hid (fun w' (hb : Below w.heap.size w w') => cLeft_any (h.f.below hb) hd)
  have HDL := Lib.hid (fun w' (hb : Below w.heap.size w w') => dLeft_any (h.r.below hb) hd)
  have HA := Lib.hid (fun w' (hb : Below w.heap.size w w') => cAvail_any (h.f.below hb) hd)
  have HDA := Lib.hid (fun w' (hb : Below w.heap.size w w') => dAvail_any (h.r.below hb) hd)
  have hraw : (decide (raw < 0) = true ∧ c.is raw = false) ∨ (decide (raw < 0) = false ∧ decide ((c.rgs : Int) ≤ raw) = true ∧ c.is raw = false) ∨ (decide (raw < 0) = false ∧ decide ((c.rgs : Int) ≤ raw) = false) := by
    by_cases h1 : raw < 0
    · exact .inl ⟨decide_eq_true h1, by unfold Ch.is; simp; omega⟩
    · by_cases h2 : (c.rgs : Int) ≤ raw
      · exact .inr (.inl ⟨decide_eq_false h1, decide_eq_true h2, by unfold Ch.is; simp; omega⟩)
      · exact .inr (.inr ⟨decide_eq_false h1, decide_eq_false h2⟩)
  have HRAW := Lib.hid hraw
  have HROWS := Lib.hid hrows
  have HGEO := Lib.hid (fun w' (hb : Below w.heap.size w w') => (h.r.below hb).geo)
  unfold ptr at HEp HUs HEr HUr HO HDO HF HDF HL HDL HA HDA
  obtain ⟨n, hn⟩ : ∃ n, c.rgs = n := ⟨_, rfl⟩
  have HN := Lib.hid hn
  rw [hn] at HEp HUs HROWS hr1 HRAW HGEO
  clear h hd hrows hn hraw
  go_enter Try.func16, Try.ntmps16
  go_wp2
  go_loopw [7] (fun i wr => ∃ k : Nat, i = .int .i64 (k : Int) ∧ k ≤ n ∧ Below w.heap.size w wr) (fun i _ => n - (intOf i).toNat)
  case atStart => exact ⟨0, rfl, Nat.zero_le _, Below.refl _ _⟩
  case round =>
    obtain ⟨k, rfl, hk, hB⟩ := hrel
    have HB := Lib.hid hB
    have g2 := (HGEO.out _ hB).2.2
    by_cases hlt : k < n
    · have d1 : decide ((k : Int) < (n : Int)) = true := by simp; omega
      have d2 : decide (k < n) = true := decide_eq_true hlt
      have HE := Lib.hid (fun w' hb => HEp.out w' hb k hlt)
      have HU := Lib.hid (fun w' hb => HUs.out w' hb k hlt)
      rw [epoch_nat (by rw [HN.out]; exact hlt)] at HE
      rw [used_nat (by rw [HN.out]; exact hlt)] at HU
      have HCE := Lib.hid (fun wx (hb : Below wr.heap.size wr wx) => (show wx.cell? ⟨bE, k, none⟩ = some (.int .u32 (c.ep k : Int)) ∧ wx.cell? ⟨bU, k, none⟩ = some (.int .i64 (c.us k : Int)) ∧ wx.cell? ⟨r, 3, none⟩ = some (.slice (some ⟨bE, 0, none⟩) n cE) ∧ wx.cell? ⟨r, 4, none⟩ = some (.slice (some ⟨bU, 0, none⟩) n cU) from by
        have h1 := HROWS.out wx (bel2 HB.out hb)
        exact ⟨(h1.2.2 k hlt).1, (h1.2.2 k hlt).2, h1.1, h1.2.1⟩))
      have HEx := Lib.hid (fun wx (hb : Below wr.heap.size wr wx) => HE.out wx (bel2 HB.out hb))
      have HUx := Lib.hid (fun wx (hb : Below wr.heap.size wr wx) => HU.out wx (bel2 HB.out hb))
      clear hB HE HU
      generalize c.ep k = x at *
      generalize c.us k = u at *
      have q1 := self_ne x
      have q2 := self_ne u
      have q3 := self_same x
      have q4 := self_same u
      go_wp2
      refine wp_region_is [21, 22, 23, 24, 25, 26, 27, 28, 29, 30, 31, 32, 33, 34, 35, 36, 37, 38, 39, 40, 41, 42, 43, 44] (fun w' => Below wr.heap.size wr w')
        [.pointer (some ⟨p, 0, none⟩), .int .i64 (k : Int), .int .u32 (x : Int), .pointer (some ⟨r, 0, none⟩), .pointer (some ⟨r, 0, none⟩), .pointer (some ⟨r, 3, none⟩), .slice (some ⟨bE, 0, none⟩) n cE, .int .i64 (k : Int), .pointer (some ⟨bE, k, none⟩), .int .u32 (x : Int), .bool false, .bool false, .pointer (some ⟨p, 0, none⟩), .int .i64 (k : Int), .int .i64 (u : Int), .pointer (some ⟨r, 0, none⟩), .pointer (some ⟨r, 0, none⟩), .pointer (some ⟨r, 4, none⟩), .slice (some ⟨bU, 0, none⟩) n cU, .int .i64 (k : Int), .pointer (some ⟨bU, k, none⟩), .int .i64 (u : Int), .bool false, .bool false] (by kernel_rfl) (by kernel_rfl) rfl (by decide) (by simp) (Below.refl _ _).drew ?each ?done
      case each =>
        clear g2
        simp only [Each]
        repeat' (first | exact trivial | refine And.intro ?_ ?_)
        all_goals
          intro ys wx hBx hdeps
          simp only [Deps, Region.binds, List.getD_cons_zero, List.getD_cons_succ, forall_const, and_true] at hdeps
          have hc := HCE.out wx hBx
          have f0 := hc.1
          have f1 := hc.2.1
          have f2 := hc.2.2.1
          have f3 := hc.2.2.2
          clear hc
          simp only [hdeps, fill, List.foldl_cons, List.foldl_nil, Act.put, List.setIfInBounds_toArray, List.set_cons_succ, List.set_cons_zero]
          first
            | (go_wp2_with fail; exact ⟨_, rfl, rfl, hBx, Below.refl _ _⟩)
            | (go_wp2_with (go_at_call 30; (with_reducible refine (HEx.out _ hBx).mono ?_); rintro e w3 ⟨rfl, rfl⟩); exact ⟨_, rfl, rfl, hBx, Below.refl _ _⟩)
            | (go_wp2_with (go_at_call 31; (with_reducible refine (HUx.out _ hBx).mono ?_); rintro e w3 ⟨rfl, rfl⟩); exact ⟨_, rfl, rfl, hBx, Below.refl _ _⟩)
      case done =>
        intro ys wx hBx hV
        have h44 : ys 44 = .bool false := hV 23 (by decide)
        have HB2 := Lib.hid (bel2 HB.out hBx)
        clear hBx hV g2
        simp only [h44, fill, List.drop_succ_cons, List.drop_zero, List.foldl_cons, List.foldl_nil, Act.put, List.setIfInBounds_toArray, List.set_cons_succ, List.set_cons_zero]
        go_wp2
        refine ⟨⟨k + 1, by go_num, by omega, HB2.out⟩, by simp [intOf]; omega⟩
    · obtain rfl : k = n := by omega
      have d1 : decide ((k : Int) < (k : Int)) = false := by simp
      clear hB HEp HUs HROWS
      have HR := HRAW.out
      have HE0 := Lib.hid (fun (h : c.is raw = false) => epoch_out h)
      have HU0 := Lib.hid (fun (h : c.is raw = false) => used_out h)
      obtain ⟨v1, v2⟩ := oldestC c
      generalize c.free = f at *
      generalize c.left = l at *
      generalize c.avail = a at *
      have q1 := self_same v1
      have q2 : (v2 == v2) = true := by simp
      have q3 := self_same f
      have q4 := self_same l
      have q5 := self_same a
      clear HRAW
      rcases HR with ⟨e1, e3⟩ | ⟨e1, e2, e3⟩ | ⟨e1, e2⟩
      all_goals
        first
          | (have z1 := HE0.out e3; have z2 := HU0.out e3; rw [z1] at HEr; rw [z2] at HUr; clear z1 z2 e3)
          | skip
        clear HE0 HU0
        go_wp2_with (first
          | (go_at_call 18; (with_reducible refine (HO.out _ HB.out).mono ?_); rintro e w4 ⟨rfl, h4⟩; have b4 := Lib.hid (bel2 HB.out h4); clear h4 g2)
          | (go_at_call 38; (with_reducible refine (HDO.out _ b4.out).mono ?_); rintro e w5 ⟨rfl, h5⟩; have b5 := Lib.hid (bel2 b4.out h5); clear h5; have g2 := (HGEO.out _ b5.out).2.2)
          | (go_at_call 30; (with_reducible refine (HEr.out _ b5.out).mono ?_); rintro e w6 ⟨rfl, rfl⟩)
          | (go_at_call 31; (with_reducible refine (HUr.out _ b5.out).mono ?_); rintro e w7 ⟨rfl, rfl⟩)
          | (go_at_call 20; (with_reducible refine (HF.out _ b5.out).mono ?_); rintro e w8 ⟨rfl, h8⟩; have b8 := Lib.hid (bel2 b5.out h8); clear h8 g2)
          | (go_at_call 39; (with_reducible refine (HDF.out _ b8.out).mono ?_); rintro e w9 ⟨rfl, rfl⟩)
          | (go_at_call 21; (with_reducible refine (HL.out _ b8.out).mono ?_); rintro e w10 ⟨rfl, h10⟩; have b10 := Lib.hid (bel2 b8.out h10); clear h10)
          | (go_at_call 40; (with_reducible refine (HDL.out _ b10.out).mono ?_); rintro e w11 ⟨rfl, h11⟩; have b11 := Lib.hid (bel2 b10.out h11); clear h11)
          | (go_at_call 22; (with_reducible refine (HA.out _ b11.out).mono ?_); rintro e w12 ⟨rfl, h12⟩; have b12 := Lib.hid (bel2 b11.out h12); clear h12)
          | (go_at_call 41; (with_reducible refine (HDA.out _ b12.out).mono ?_); rintro e w13 ⟨rfl, h13⟩; have b13 := Lib.hid (bel2 b12.out h13); clear h13))
        go_ret
        exact ⟨rfl, b13.out⟩
end Go.Proofs.Ytmkdhehdfdkbjaa.Chart
