/-
  The document's own account: what is told of it.
-/
import Derived.Test.YtmkdhehdfdkbjaaChartXe
set_option linter.unusedVariables false
set_option linter.unusedSimpArgs false
namespace Go.Proofs.Ytmkdhehdfdkbjaa.Chart
open Go.RowKit
open Go.Proofs.Ytmkdhehdfdkbjaa.Own
open Tup Foot
open Go.Proofs.Ytmkdhehdfdkbjaa.Region (fill Then Deps Each wp_region_is wp_region_is_tail)

set_option maxRecDepth 100000 in
theorem refIs_any {w : World} {r : Nat} {c : Ch} {bE capE bU capU : Nat} (h : DAt w r c bE capE bU capU) (i : Int) :
    Calls Try.prog 51 #[ptr r, .int .i64 i] w fun e w' => e = .returned (.bool (c.is i)) ∧ w = w' := by
  have c3 := h.var.cell (j := 3) rfl
  clear h
  unfold ptr
  have hd : decide (0 ≤ i) = false ∨ decide (0 ≤ i) = true := by cases decide (0 ≤ i) <;> simp
  rcases hd with d1 | d1
  all_goals
    go_enter Try.func51, Try.ntmps51
    go_wp2
    go_ret
    exact ⟨ret_bool (by unfold Ch.is; rw [d1]; simp), rfl⟩
set_option maxRecDepth 100000 in
set_option maxHeartbeats 4000000 in
theorem refFree_any {w : World} {r : Nat} {c : Ch} {bE capE bU capU : Nat} (h : DAt w r c bE capE bU capU) (hd : c.Ok) :
    Calls Try.prog 39 #[ptr r] w fun e w' => e = .returned (.int .i64 (c.free : Int)) ∧ w = w' := by
  have c3 := h.var.cell (j := 3) rfl
  have HC := Lib.hid h
  have HD := Lib.hid hd
  have r1 := hd.r1
  obtain ⟨n, hn⟩ : ∃ n, c.rgs = n := ⟨_, rfl⟩
  have HN := Lib.hid hn
  rw [hn] at r1 c3
  unfold Ch.free
  rw [hn]
  unfold ptr
  clear h hd hn
  go_enter Try.func39, Try.ntmps39
  go_wp2
  go_loop [3, 4] (fun a i => ∃ k : Nat, i = .int .i64 (k : Int) ∧ k ≤ n ∧ a = .int .i64 (c.cntTo k : Int)) (fun _ i => n - (intOf i).toNat)
  case atStart => exact ⟨0, rfl, Nat.zero_le _, rfl⟩
  case round =>
    obtain ⟨k, rfl, hk, rfl⟩ := hrel
    by_cases hlt : k < n
    · obtain ⟨e0, -⟩ := HC.out.getE HD.out (k := k) (by rw [HN.out]; exact hlt)
      have d1 : decide ((k : Int) < (n : Int)) = true := by simp; omega
      have d2 : decide (k < n) = true := by simp; omega
      have hcl := cntTo_le c k
      have HT := Lib.hid (show c.cntTo (k + 1) = if c.ep k = 0 then c.cntTo k + 1 else c.cntTo k from rfl)
      generalize c.ep k = x at *
      generalize c.cntTo k = m at *
      by_cases hx : x = 0
      · rw [if_pos hx] at HT
        have d3 : (((x : Nat) : Int) == 0) = true := by simp; omega
        have d4 : (x == 0) = true := by simp; omega
        clear hx
        go_wp2
        go_round
        case rel => exact ⟨k + 1, by go_num, by omega, by rw [HT.out]; go_num⟩
        case measure => simp [intOf]; omega
      · rw [if_neg hx] at HT
        have d3 : (((x : Nat) : Int) == 0) = false := by simp; omega
        have d4 : (x == 0) = false := by simp; omega
        clear hx
        go_wp2
        go_round
        case rel => exact ⟨k + 1, by go_num, by omega, by rw [HT.out]⟩
        case measure => simp [intOf]; omega
    · obtain rfl : k = n := by omega
      have d1 : decide ((k : Int) < (k : Int)) = false := by simp
      go_wp2
      go_ret
      exact ⟨rfl, rfl⟩
set_option maxRecDepth 100000 in
set_option maxHeartbeats 4000000 in
theorem refLeft_any {w : World} {r : Nat} {c : Ch} {bE capE bU capU : Nat} (h : DAt w r c bE capE bU capU) (hd : c.Ok) :
    Calls Try.prog 40 #[ptr r] w fun e w' => e = .returned (.int .i64 (c.left : Int)) ∧ Below w.heap.size w w' := by
  have c5 := h.var.cell (j := 5) rfl
  unfold ptr Ch.left
  cases hn : c.now with
  | none =>
    rw [hn] at c5
    have c5' : w.cell? ⟨r, 5, none⟩ = some (.int .i64 (-1)) := c5
    clear h hn c5 hd
    go_enter Try.func40, Try.ntmps40
    go_wp2
    go_ret
    exact ⟨rfl, Below.refl _ _⟩
  | some k =>
    dsimp only
    rw [hn] at c5
    have c5' : w.cell? ⟨r, 5, none⟩ = some (.int .i64 (k : Int)) := c5
    have HC := Lib.hid h
    have HNW := Lib.hid (fun wx (hb : Below w.heap.size w wx) => (show wx.cell? ⟨r, 5, none⟩ = some (.int .i64 (k : Int)) by have := (h.below hb).var.cell (j := 5) rfl; rw [hn] at this; exact this))
    have hkr := (hd.now k hn).1
    have hus := hd.us k
    have r1 := hd.r1
    have hs1 := hd.s1
    have hsl : c.slots ≤ 9 := by unfold Ch.slots; omega
    have HU := Lib.hid (fun wx (hb : Below w.heap.size w wx) => ((h.below hb).getU hd hkr).1)
    have HS := Lib.hid (fun w => Geom.refSlots_any ⟨c.pg, c.pgs, c.rgs⟩ (Geom.right_small.mp (geo_right hd)) w)
    rw [geo_slots hd] at HS
    unfold Geom.gV at HS
    have d2 : decide (k < c.rgs) = true := decide_eq_true hkr
    have d3 : decide ((k : Int) < 0) = false := decide_eq_false (by omega)
    have HV := Lib.hid (show ((c.slots : Int) - (c.us k : Int)) = ((c.slots - c.us k : Nat) : Int) by omega)
    clear h hn c5 hd hs1
    generalize c.slots = sl at *
    generalize c.us k = us at *
    go_enter Try.func40, Try.ntmps40
    go_wp2
    refine wp_region_is [8, 9, 10, 11, 12, 13, 14, 15, 16, 17, 18, 19, 20, 21, 22, 23, 2] (fun w' => Below w.heap.size w w')
      [.pointer (some ⟨r, 0, none⟩), .pointer (some ⟨r, 0, none⟩), .pointer (some ⟨r, 0, none⟩), .agg #[.int .i64 (c.pg : Int), .int .i64 (c.pgs : Int), .int .i64 (c.rgs : Int)], .int .i64 (sl : Int), .pointer (some ⟨r, 0, none⟩), .pointer (some ⟨r, 0, none⟩), .pointer (some ⟨r, 4, none⟩), .slice (some ⟨bU, 0, none⟩) c.rgs capU, .pointer (some ⟨r, 0, none⟩), .pointer (some ⟨r, 0, none⟩), .pointer (some ⟨r, 5, none⟩), .int .i64 (k : Int), .pointer (some ⟨bU, k, none⟩), .int .i64 (us : Int), .int .i64 ((sl : Int) - (us : Int)), .int .i64 ((sl : Int) - (us : Int))] (by kernel_rfl) (by kernel_rfl) rfl (by decide) (by simp) (Below.refl _ _).drew ?each ?done
    case each =>
      simp only [Each]
      repeat' (first | exact trivial | refine And.intro ?_ ?_)
      all_goals
        intro ys wx hBx hdeps
        simp only [Deps, Region.binds, List.getD_cons_zero, List.getD_cons_succ, forall_const, and_true] at hdeps
        have q0 : wx.cell? ⟨r, 0, none⟩ = some (.int .i64 (c.pg : Int)) := (HC.out.below hBx).var.cell (j := 0) rfl
        have q1 : wx.cell? ⟨r, 1, none⟩ = some (.int .i64 (c.pgs : Int)) := (HC.out.below hBx).var.cell (j := 1) rfl
        have q2 : wx.cell? ⟨r, 2, none⟩ = some (.int .i64 (c.rgs : Int)) := (HC.out.below hBx).var.cell (j := 2) rfl
        have q4 : wx.cell? ⟨r, 4, none⟩ = some (.slice (some ⟨bU, 0, none⟩) c.rgs capU) := (HC.out.below hBx).var.cell (j := 4) rfl
        have q5 := HNW.out wx hBx
        have q6 := HU.out wx hBx
        simp only [hdeps, fill, List.foldl_cons, List.foldl_nil, Act.put, List.setIfInBounds_toArray, List.set_cons_succ, List.set_cons_zero]
        first
          | (go_wp2_with fail; exact ⟨_, rfl, rfl, hBx, Below.refl _ _⟩)
          | (go_wp2_with (go_at_call 28; (with_reducible refine (HS.out _).mono ?_); rintro e w3 ⟨rfl, hn⟩); exact ⟨_, rfl, rfl, bel2 hBx hn, hn⟩)
    case done =>
      intro ys wx hBx hV
      have h2 : ys 2 = .int .i64 ((sl : Int) - (us : Int)) := hV 16 (by decide)
      have HB5 := Lib.hid hBx
      clear hBx hV
      simp only [h2, fill, List.drop_succ_cons, List.drop_zero, List.foldl_cons, List.foldl_nil, Act.put, List.setIfInBounds_toArray, List.set_cons_succ, List.set_cons_zero]
      go_wp2
      go_ret
      exact ⟨ret_int HV.out, HB5.out⟩
set_option maxRecDepth 100000 in
set_option maxHeartbeats 4000000 in
theorem refAvail_any {w : World} {r : Nat} {c : Ch} {bE capE bU capU : Nat} (h : DAt w r c bE capE bU capU) (hd : c.Ok) :
    Calls Try.prog 41 #[ptr r] w fun e w' => e = .returned (.int .i64 (c.avail : Int)) ∧ Below w.heap.size w w' := by
  have HC := Lib.hid h
  have HL := Lib.hid (fun w' (hb : Below w.heap.size w w') => refLeft_any (h.below hb) hd)
  have HF := Lib.hid (fun w' (hb : Below w.heap.size w w') => refFree_any (h.below hb) hd)
  have HS := Lib.hid (fun w => Geom.refSlots_any ⟨c.pg, c.pgs, c.rgs⟩ (Geom.right_small.mp (geo_right hd)) w)
  rw [geo_slots hd] at HS
  unfold Geom.gV at HS
  have hs1 := hd.s1
  have hr1 := hd.r1
  have hsl : c.slots ≤ 9 := by unfold Ch.slots; omega
  have hl : c.left ≤ c.slots := left_le
  have hf : c.free ≤ c.rgs := cntTo_le c c.rgs
  have HV := Lib.hid (show (c.left : Int) + ((c.free - 2 : Nat) : Int) * (c.slots : Int) = (c.avail : Int) by unfold Ch.avail; rw [Int.natCast_add, Int.natCast_mul])
  unfold ptr at HL HF ⊢
  obtain ⟨a, ha⟩ : ∃ a, c.avail = a := ⟨_, rfl⟩
  rw [ha] at HV ⊢
  clear h hd ha
  generalize c.slots = sl at *
  generalize c.left = l at *
  generalize c.free = f at *
  have hmx := fun w ts t => max2 (P := Try.prog) w ts t ((f : Int) - 2) 0 ((f - 2 : Nat) : Int) (by omega)
  obtain ⟨g, hg⟩ : ∃ g, g = f - 2 := ⟨_, rfl⟩
  rw [← hg] at hmx HV
  have hg10 : g ≤ 10 := by omega
  clear hg
  have hm := Geom.mul_le (show (0 : Int) ≤ (g : Int) by omega) (show (g : Int) ≤ 10 by omega) (show (0 : Int) ≤ (sl : Int) by omega) (show (sl : Int) ≤ 9 by omega)
  go_enter Try.func41, Try.ntmps41
  go_wp2
  refine wp_region_is [3, 4, 5, 6, 7, 8, 9, 10, 11, 12, 13, 14, 15, 2] (fun w' => Below w.heap.size w w')
    [.pointer (some ⟨r, 0, none⟩), .int .i64 (l : Int), .pointer (some ⟨r, 0, none⟩), .int .i64 (f : Int), .int .i64 ((f : Int) - 2), .int .i64 (g : Int), .pointer (some ⟨r, 0, none⟩), .pointer (some ⟨r, 0, none⟩), .pointer (some ⟨r, 0, none⟩), .agg #[.int .i64 (c.pg : Int), .int .i64 (c.pgs : Int), .int .i64 (c.rgs : Int)], .int .i64 (sl : Int), .int .i64 ((g : Int) * (sl : Int)), .int .i64 ((l : Int) + (g : Int) * (sl : Int)), .int .i64 ((l : Int) + (g : Int) * (sl : Int))] (by kernel_rfl) (by kernel_rfl) rfl (by decide) (by simp) (Below.refl _ _).drew ?each ?done
  case each =>
    simp only [Each]
    repeat' (first | exact trivial | refine And.intro ?_ ?_)
    all_goals
      intro ys wx hBx hdeps
      simp only [Deps, Region.binds, List.getD_cons_zero, List.getD_cons_succ, forall_const, and_true] at hdeps
      have q0 : wx.cell? ⟨r, 0, none⟩ = some (.int .i64 (c.pg : Int)) := (HC.out.below hBx).var.cell (j := 0) rfl
      have q1 : wx.cell? ⟨r, 1, none⟩ = some (.int .i64 (c.pgs : Int)) := (HC.out.below hBx).var.cell (j := 1) rfl
      have q2 : wx.cell? ⟨r, 2, none⟩ = some (.int .i64 (c.rgs : Int)) := (HC.out.below hBx).var.cell (j := 2) rfl
      simp only [hdeps, fill, List.foldl_cons, List.foldl_nil, Act.put, List.setIfInBounds_toArray, List.set_cons_succ, List.set_cons_zero]
      first
        | (go_wp2_with fail; exact ⟨_, rfl, rfl, hBx, Below.refl _ _⟩)
        | (go_wp2_with (go_at_call 40; (with_reducible refine (HL.out _ hBx).mono ?_); rintro e w3 ⟨rfl, hn⟩); exact ⟨_, rfl, rfl, bel2 hBx hn, hn⟩)
        | (go_wp2_with (go_at_call 39; (with_reducible refine (HF.out _ hBx).mono ?_); rintro e w3 ⟨rfl, rfl⟩); exact ⟨_, rfl, rfl, hBx, Below.refl _ _⟩)
        | (go_wp2_with (go_at_call 28; (with_reducible refine (HS.out _).mono ?_); rintro e w3 ⟨rfl, hn⟩); exact ⟨_, rfl, rfl, bel2 hBx hn, hn⟩)
  case done =>
    intro ys wx hBx hV
    have h2 : ys 2 = .int .i64 ((l : Int) + (g : Int) * (sl : Int)) := hV 13 (by decide)
    have HB5 := Lib.hid hBx
    clear hBx hV
    simp only [h2, fill, List.drop_succ_cons, List.drop_zero, List.foldl_cons, List.foldl_nil, Act.put, List.setIfInBounds_toArray, List.set_cons_succ, List.set_cons_zero]
    go_wp2
    go_ret
    exact ⟨ret_int HV.out, HB5.out⟩
end Go.Proofs.Ytmkdhehdfdkbjaa.Chart
