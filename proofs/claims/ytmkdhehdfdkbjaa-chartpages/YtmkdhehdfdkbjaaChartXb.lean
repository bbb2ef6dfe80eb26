/-
  The landed account: the next free region, the oldest one, what is left.
-/
import Derived.Test.YtmkdhehdfdkbjaaChartXa
set_option linter.unusedVariables false
set_option linter.unusedSimpArgs false
namespace Go.Proofs.Ytmkdhehdfdkbjaa.Chart
open Go.RowKit
open Go.Proofs.Ytmkdhehdfdkbjaa.Own
open Tup Foot
open Go.Proofs.Ytmkdhehdfdkbjaa.Region (fill Then Deps Each wp_region_is wp_region_is_tail)

theorem rem_nat (a b n : Nat) : ((a : Int) + (b : Int)).tmod (n : Int) = (((a + b) % n : Nat) : Int) := by
  rw [← Int.natCast_add]; rfl
theorem scan_hit {c : Ch} {first i n : Nat} (h : c.ep ((first + i) % c.rgs) = 0) : c.scan first i (n + 1) = some ((first + i) % c.rgs) := by
  rw [Ch.scan, if_pos h]
theorem scan_miss {c : Ch} {first i n : Nat} (h : c.ep ((first + i) % c.rgs) ≠ 0) : c.scan first i (n + 1) = c.scan first (i + 1) n := by
  rw [Ch.scan, if_neg h]
theorem max2 {P : Program} (w : World) (ts : Array TypeId) (t : TypeId) (x k m : Int) (hm : m = max x k) : (Builtin.max_ ts t #[.int .i64 x, .int .i64 k]).run P w = .ok (.int .i64 m) w := by
  have e : (Builtin.max_ ts t #[.int .i64 x, .int .i64 k]).run P w = .ok (.int .i64 (if x < k then k else x)) w := by
    simp [Builtin.max_, Builtin.max2]
  rw [e, hm]; congr 2; split <;> omega
def orZero (o : Option Nat) : Nat := o.getD 0
set_option maxRecDepth 100000 in
set_option maxHeartbeats 4000000 in
theorem freeFrom_any {w : World} {p : Nat} {c : Ch} {bS cap on : Nat} (h : CAt w p c bS cap on) (hd : c.Ok) (f : Nat) (hf : f < 1000) :
    Calls Try.prog 49 #[ptr p, .int .i64 (f : Int)] w fun e w' => e = .returned (.tuple #[.int .i64 (orZero (c.scan f 0 c.rgs) : Int), .bool (c.scan f 0 c.rgs).isSome]) ∧ Below w.heap.size w w' := by
  have HA := Lib.hid (all_any h)
  have HF := Lib.hid (fun x u w => isFree_any x u w)
  have HC := Lib.hid h
  have HD := Lib.hid hd
  have r1 := hd.r1
  have r0 := hd.r0
  obtain ⟨n, hn⟩ : ∃ n, c.rgs = n := ⟨_, rfl⟩
  have HN := Lib.hid hn
  rw [hn] at HA r1 r0
  rw [hn]
  unfold ptr at HA ⊢
  clear h hd hn
  have dn : ((n : Int) == 0) = false := by simp; omega
  go_enter Try.func49, Try.ntmps49
  go_wp2_with (go_at_call 42; (with_reducible refine HA.out.mono ?_); rintro e w3 ⟨rfl, rfl⟩)
  go_loopw [12] (fun i wr => ∃ k : Nat, i = .int .i64 (k : Int) ∧ k ≤ n ∧ c.scan f 0 n = c.scan f k (n - k) ∧ Below w.heap.size w wr) (fun i _ => n - (intOf i).toNat)
  case atStart => exact ⟨0, rfl, Nat.zero_le _, rfl, Below.refl _ _⟩
  case round =>
    obtain ⟨k, rfl, hk, hs, hB⟩ := hrel
    have HB := Lib.hid hB
    have HS := Lib.hid hs
    by_cases hlt : k < n
    · obtain ⟨r, hr⟩ : ∃ r, r = (f + k) % n := ⟨_, rfl⟩
      have hrn : r < n := by rw [hr]; exact Nat.mod_lt _ (by omega)
      obtain ⟨e0, e1, -, -⟩ := (HC.out.below hB).get HD.out (k := r) (by rw [HN.out]; exact hrn)
      have d1 : decide ((k : Int) < (n : Int)) = true := by simp; omega
      have d2 : decide (r < n) = true := by simp; omega
      have hm := rem_nat f k n
      rw [← hr] at hm
      have HM1 := Lib.hid (scan_hit (c := c) (first := f) (i := k) (n := n - (k + 1)))
      have HM2 := Lib.hid (scan_miss (c := c) (first := f) (i := k) (n := n - (k + 1)))
      rw [HN.out, ← hr, show n - (k + 1) + 1 = n - k by omega] at HM1 HM2
      clear hB hs hr
      generalize c.ep r = x at *
      generalize c.us r = u at *
      by_cases hx : x = 0
      · have HX := Lib.hid (show (((x : Nat) : Int) == 0) = true by simp; omega)
        have HE := Lib.hid (HS.out.trans (HM1.out hx))
        clear hx HM1 HM2 HS
        go_wp2_with (go_at_call 43; (with_reducible refine (HF.out _ _ _).mono ?_); rintro e w4 ⟨rfl, h4⟩; rw [HX.out])
        go_ret2
        rw [HE.out]
        exact ⟨rfl, bel2 HB.out h4⟩
      · have HX := Lib.hid (show (((x : Nat) : Int) == 0) = false by simp; omega)
        have HE := Lib.hid (HS.out.trans (HM2.out hx))
        clear hx HM1 HM2 HS
        go_wp2_with (go_at_call 43; (with_reducible refine (HF.out _ _ _).mono ?_); rintro e w4 ⟨rfl, h4⟩; rw [HX.out])
        refine ⟨⟨k + 1, by go_num, by omega, by rw [HE.out], bel2 HB.out h4⟩, by simp [intOf]; omega⟩
    · obtain rfl : k = n := by omega
      have d1 : decide ((k : Int) < (k : Int)) = false := by simp
      have HE := Lib.hid (show c.scan f 0 k = none by rw [hs, Nat.sub_self]; rfl)
      clear hB hs
      go_wp2
      go_ret2
      rw [HE.out]
      exact ⟨rfl, HB.out⟩
/-- the least epoch among what was told as the oldest -/
def Ch.oldE (c : Ch) (k : Nat) : Nat := match c.oldTo k with
  | none => 0
  | some j => c.ep j
theorem old_skip {c : Ch} {k : Nat} (h : c.ep k = 0 ∨ c.now = some k) : c.oldTo (k + 1) = c.oldTo k := by rw [Ch.oldTo, if_pos h]
theorem old_first {c : Ch} {k : Nat} (h : ¬ (c.ep k = 0 ∨ c.now = some k)) (hn : c.oldTo k = none) : c.oldTo (k + 1) = some k := by rw [Ch.oldTo, if_neg h, hn]
theorem old_less {c : Ch} {k j : Nat} (h : ¬ (c.ep k = 0 ∨ c.now = some k)) (hn : c.oldTo k = some j) (hl : c.ep k < c.ep j) : c.oldTo (k + 1) = some k := by rw [Ch.oldTo, if_neg h, hn]; simp only [if_pos hl]
theorem old_more {c : Ch} {k j : Nat} (h : ¬ (c.ep k = 0 ∨ c.now = some k)) (hn : c.oldTo k = some j) (hl : ¬ c.ep k < c.ep j) : c.oldTo (k + 1) = some j := by rw [Ch.oldTo, if_neg h, hn]; simp only [if_neg hl]
theorem oldE_some {c : Ch} {k j : Nat} (h : c.oldTo k = some j) : c.oldE k = c.ep j := by unfold Ch.oldE; rw [h]
theorem oldE_none {c : Ch} {k : Nat} (h : c.oldTo k = none) : c.oldE k = 0 := by unfold Ch.oldE; rw [h]
theorem oldest_eq (c : Ch) : oldestC c = (orZero (c.oldTo c.rgs), (c.oldTo c.rgs).isSome) := by
  unfold oldestC orZero
  cases c.oldTo c.rgs <;> rfl
set_option maxRecDepth 100000 in
set_option maxHeartbeats 8000000 in
theorem atOldest_any {w : World} {p : Nat} {c : Ch} {bS cap on : Nat} (h : CAt w p c bS cap on) (hd : c.Ok) :
    Calls Try.prog 18 #[ptr p] w fun e w' => e = .returned (.tuple #[.int .i64 ((oldestC c).1 : Int), .bool (oldestC c).2]) ∧ Below w.heap.size w w' := by
  rw [oldest_eq]
  have HA := Lib.hid (all_any h)
  have HF := Lib.hid (fun x u w => isFree_any x u w)
  have HO := Lib.hid (fun w' (hb : Below w.heap.size w w') k => isOpen_any (h.below hb) k)
  have HC := Lib.hid h
  have HD := Lib.hid hd
  have r1 := hd.r1
  obtain ⟨n, hn⟩ : ∃ n, c.rgs = n := ⟨_, rfl⟩
  have HN := Lib.hid hn
  rw [hn] at HA r1
  rw [hn]
  unfold ptr at HA HO ⊢
  clear h hd hn
  go_enter Try.func18, Try.ntmps18
  go_wp2_with (go_at_call 42; (with_reducible refine HA.out.mono ?_); rintro e w3 ⟨rfl, rfl⟩)
  go_loopw [2, 3, 4, 10] (fun a o b i wr => ∃ k : Nat, i = .int .i64 (k : Int) ∧ k ≤ n ∧ a = .int .i64 (orZero (c.oldTo k) : Int) ∧ o = .bool (c.oldTo k).isSome ∧ b = .int .u32 (c.oldE k : Int) ∧ Below w.heap.size w wr) (fun _ _ _ i _ => n - (intOf i).toNat)
  case atStart => exact ⟨0, rfl, Nat.zero_le _, rfl, rfl, rfl, Below.refl _ _⟩
  case round =>
    obtain ⟨k, rfl, hk, rfl, rfl, rfl, hB⟩ := hrel
    have HB := Lib.hid hB
    by_cases hlt : k < n
    · obtain ⟨e0, e1, -, -⟩ := (HC.out.below hB).get HD.out (k := k) (by rw [HN.out]; exact hlt)
      have d1 : decide ((k : Int) < (n : Int)) = true := by simp; omega
      have d2 : decide (k < n) = true := by simp; omega
      have HOk := Lib.hid (fun w' hb => HO.out w' hb k)
      have HS := Lib.hid (old_skip (c := c) (k := k))
      have H1 := Lib.hid (old_first (c := c) (k := k))
      have H2 := Lib.hid (fun j => old_less (c := c) (k := k) (j := j))
      have H3 := Lib.hid (fun j => old_more (c := c) (k := k) (j := j))
      clear hB HO
      by_cases hx : c.ep k = 0
      · have HE := Lib.hid (HS.out (.inl hx))
        have HX := Lib.hid (show (((c.ep k : Nat) : Int) == 0) = true by rw [hx]; rfl)
        have HEE := Lib.hid (show c.oldE (k + 1) = c.oldE k by unfold Ch.oldE; rw [HE.out])
        clear hx HS H1 H2 H3
        generalize c.ep k = x at *
        generalize c.us k = u at *
        go_wp2_with (first
          | (go_at_call 43; (with_reducible refine (HF.out _ _ _).mono ?_); rintro e w4 ⟨rfl, h4⟩; rw [HX.out]))
        refine ⟨⟨k + 1, by go_num, by omega, by rw [HE.out], by rw [HE.out], by rw [HEE.out], bel2 (bel2 HB.out (Geom.bel_alloc _ _)) h4⟩, by simp [intOf]; omega⟩
      · have HX := Lib.hid (show (((c.ep k : Nat) : Int) == 0) = false by simp; omega)
        by_cases hno : c.now = some k
        · have HE := Lib.hid (HS.out (.inr hno))
          have HEE := Lib.hid (show c.oldE (k + 1) = c.oldE k by unfold Ch.oldE; rw [HE.out])
          rw [hno, show decide (some k = some k) = true by simp] at HOk
          clear hx HS H1 H2 H3 hno
          generalize c.ep k = x at *
          generalize c.us k = u at *
          go_wp2_with (first
            | (go_at_call 43; (with_reducible refine (HF.out _ _ _).mono ?_); rintro e w4 ⟨rfl, h4⟩; rw [HX.out]; have b4 := Lib.hid (bel2 (bel2 HB.out (Geom.bel_alloc _ _)) h4); clear h4)
            | (go_at_call 44; (with_reducible refine (HOk.out _ b4.out).mono ?_); rintro e w5 ⟨rfl, rfl⟩))
          refine ⟨⟨k + 1, by go_num, by omega, by rw [HE.out], by rw [HE.out], by rw [HEE.out], b4.out⟩, by simp [intOf]; omega⟩
        · rw [show decide (c.now = some k) = false by simp [hno]] at HOk
          have hnot : ¬ (c.ep k = 0 ∨ c.now = some k) := by simp [hx, hno]
          have hhv : (w.heap.size ≤ w.heap.size) := Nat.le_refl _
          cases hol : c.oldTo k with
          | none =>
            have HE := Lib.hid (H1.out hnot hol)
            have HEE := Lib.hid (oldE_some HE.out)
            clear HS H1 H2 H3 hno hnot hx hol
            generalize c.oldE k = y at *
            generalize c.ep k = x at *
            generalize c.us k = u at *
            go_wp2_with (first
              | (go_at_call 43; (with_reducible refine (HF.out _ _ _).mono ?_); rintro e w4 ⟨rfl, h4⟩; rw [HX.out]; have b4 := Lib.hid (bel2 (bel2 HB.out (Geom.bel_alloc _ _)) h4); have c0 := (Var.new wr 64 [.int .u32 (x : Int), .int .i64 (u : Int)]).below h4 (by simp) |>.cell (j := 0) rfl; clear h4)
              | (go_at_call 44; (with_reducible refine (HOk.out _ b4.out).mono ?_); rintro e w5 ⟨rfl, rfl⟩))
            go_quiet (fail)
            go_wp2
            refine ⟨⟨k + 1, by go_num, by omega, by rw [HE.out]; rfl, by rw [HE.out]; rfl, by rw [HEE.out], below_drewN b4.out _⟩, by simp [intOf]; omega⟩
          | some j =>
            have HEo := Lib.hid (oldE_some hol)
            rw [HEo.out]
            by_cases hl : c.ep k < c.ep j
            · have d3 : decide ((c.ep k : Int) < (c.ep j : Int)) = true := by simp; omega
              have d4 : decide (c.ep k < c.ep j) = true := by simp; omega
              have HE := Lib.hid (H2.out j hnot hol hl)
              have HEE := Lib.hid (oldE_some HE.out)
              clear HS H1 H2 H3 hno hnot hx hol HEo hl
              generalize c.ep k = x at *
              generalize c.ep j = y at *
              generalize c.us k = u at *
              go_wp2_with (first
                | (go_at_call 43; (with_reducible refine (HF.out _ _ _).mono ?_); rintro e w4 ⟨rfl, h4⟩; rw [HX.out]; have b4 := Lib.hid (bel2 (bel2 HB.out (Geom.bel_alloc _ _)) h4); have c0 := (Var.new wr 64 [.int .u32 (x : Int), .int .i64 (u : Int)]).below h4 (by simp) |>.cell (j := 0) rfl; clear h4)
                | (go_at_call 44; (with_reducible refine (HOk.out _ b4.out).mono ?_); rintro e w5 ⟨rfl, rfl⟩))
              go_quiet (fail)
              go_wp2
              refine ⟨⟨k + 1, by go_num, by omega, by rw [HE.out]; rfl, by rw [HE.out]; rfl, by rw [HEE.out], below_drewN b4.out _⟩, by simp [intOf]; omega⟩
            · have d3 : decide ((c.ep k : Int) < (c.ep j : Int)) = false := by simp; omega
              have d4 : decide (c.ep k < c.ep j) = false := by simp; omega
              have HE := Lib.hid (H3.out j hnot hol hl)
              have HEE := Lib.hid (oldE_some HE.out)
              clear HS H1 H2 H3 hno hnot hx hol HEo hl
              generalize c.ep k = x at *
              generalize c.ep j = y at *
              generalize c.us k = u at *
              go_wp2_with (first
                | (go_at_call 43; (with_reducible refine (HF.out _ _ _).mono ?_); rintro e w4 ⟨rfl, h4⟩; rw [HX.out]; have b4 := Lib.hid (bel2 (bel2 HB.out (Geom.bel_alloc _ _)) h4); have c0 := (Var.new wr 64 [.int .u32 (x : Int), .int .i64 (u : Int)]).below h4 (by simp) |>.cell (j := 0) rfl; clear h4)
                | (go_at_call 44; (with_reducible refine (HOk.out _ b4.out).mono ?_); rintro e w5 ⟨rfl, rfl⟩))
              refine ⟨⟨k + 1, by go_num, by omega, by rw [HE.out], by rw [HE.out]; rfl, by rw [HEE.out], b4.out⟩, by simp [intOf]; omega⟩
    · obtain rfl : k = n := by omega
      have d1 : decide ((k : Int) < (k : Int)) = false := by simp
      clear hB
      go_wp2
      go_ret2
      exact ⟨rfl, HB.out⟩
set_option maxRecDepth 100000 in
set_option maxHeartbeats 4000000 in
theorem atLeft_any {w : World} {p : Nat} {c : Ch} {bS cap on : Nat} (h : CAt w p c bS cap on) (hd : c.Ok) :
    Calls Try.prog 21 #[ptr p] w fun e w' => e = .returned (.int .i64 (c.left : Int)) ∧ Below w.heap.size w w' := by
  have HSL : Hid (∀ w' : World, Below w.heap.size w w' → Calls Try.prog 47 #[.pointer (some ⟨p, 0, none⟩)] w' fun e w'' => e = .returned (.int .i64 (c.slots : Int)) ∧ Below w'.heap.size w' w'') := fun w' hb => slots_any (h.below hb) hd
  have HC := Lib.hid h
  have c4 := h.var.cell (j := 4) rfl
  have c5 := h.var.cell (j := 5) rfl
  have hs0 := hd.s0
  have hs1 := hd.s1
  have hsl : c.slots ≤ 9 := by unfold Ch.slots; omega
  unfold ptr
  unfold Ch.left
  cases hn : c.now with
  | none =>
    rw [hn] at c5
    have c5' : w.cell? ⟨p, 5, none⟩ = some (.bool false) := c5
    clear h hn c5 hd
    go_enter Try.func21, Try.ntmps21
    go_wp2
    go_ret
    exact ⟨rfl, Below.refl _ _⟩
  | some k =>
    have hkr := (hd.now k hn).1
    obtain rfl := h.onk k hn
    dsimp only
    rw [hn] at c5
    have c5' : w.cell? ⟨p, 5, none⟩ = some (.bool true) := c5
    have HU : Hid (∀ w' : World, Below w.heap.size w w' → Calls Try.prog 31 #[.pointer (some ⟨p, 0, none⟩), .int .i64 (on : Int)] w' fun e w'' => e = .returned (.int .i64 (c.us on : Int)) ∧ w' = w'') := fun w' hb => by
      have := atUsed_any (h.below hb) hd (on : Int)
      unfold usedC at this
      rw [Ch.is_nat hkr] at this
      exact this
    have hus := hd.us on
    have HV := Lib.hid (show ((c.slots : Int) - (c.us on : Int)) = ((c.slots - c.us on : Nat) : Int) by omega)
    clear h hn c5 hd hs0 hs1
    generalize c.slots = sl at *
    generalize c.us on = us at *
    go_enter Try.func21, Try.ntmps21
    go_wp2
    refine wp_region_is [12, 13, 14, 15, 16, 17, 18, 19, 20, 2] (fun w' => Below w.heap.size w w')
      [.pointer (some ⟨p, 0, none⟩), .int .i64 (sl : Int), .pointer (some ⟨p, 0, none⟩), .pointer (some ⟨p, 0, none⟩), .pointer (some ⟨p, 0, none⟩), .pointer (some ⟨p, 4, none⟩), .int .i64 (on : Int), .int .i64 (us : Int), .int .i64 ((sl : Int) - (us : Int)), .int .i64 ((sl : Int) - (us : Int))] (by kernel_rfl) (by kernel_rfl) rfl (by decide) (by simp) (Below.refl _ _).drew ?each ?done
    case each =>
      simp only [Each]
      repeat' (first | exact trivial | refine And.intro ?_ ?_)
      all_goals
        intro ys wx hBx hdeps
        simp only [Deps, Region.binds, List.getD_cons_zero, List.getD_cons_succ, forall_const, and_true] at hdeps
        have q4 : wx.cell? ⟨p, 4, none⟩ = some (.int .i64 (on : Int)) := (HC.out.below hBx).var.cell (j := 4) rfl
        simp only [hdeps, fill, List.foldl_cons, List.foldl_nil, Act.put, List.setIfInBounds_toArray, List.set_cons_succ, List.set_cons_zero]
        first
          | (go_wp2_with fail; exact ⟨_, rfl, rfl, hBx, Below.refl _ _⟩)
          | (go_wp2_with (go_at_call 47; (with_reducible refine (HSL.out _ hBx).mono ?_); rintro e w3 ⟨rfl, hn⟩); exact ⟨_, rfl, rfl, bel2 hBx hn, hn⟩)
          | (go_wp2_with (go_at_call 31; (with_reducible refine (HU.out _ hBx).mono ?_); rintro e w3 ⟨rfl, rfl⟩); exact ⟨_, rfl, rfl, hBx, Below.refl _ _⟩)
    case done =>
      intro ys wx hBx hV
      have h2 : ys 2 = .int .i64 ((sl : Int) - (us : Int)) := hV 9 (by decide)
      have HB5 := Lib.hid hBx
      clear hBx hV
      simp only [h2, fill, List.drop_succ_cons, List.drop_zero, List.foldl_cons, List.foldl_nil, Act.put, List.setIfInBounds_toArray, List.set_cons_succ, List.set_cons_zero]
      go_wp2
      go_ret
      exact ⟨ret_int HV.out, HB5.out⟩
set_option maxRecDepth 100000 in
set_option maxHeartbeats 4000000 in
theorem atAvail_any {w : World} {p : Nat} {c : Ch} {bS cap on : Nat} (h : CAt w p c bS cap on) (hd : c.Ok) :
    Calls Try.prog 22 #[ptr p] w fun e w' => e = .returned (.int .i64 (c.avail : Int)) ∧ Below w.heap.size w w' := by
  have HSL := Lib.hid (fun w' (hb : Below w.heap.size w w') => slots_any (h.below hb) hd)
  have HL := Lib.hid (fun w' (hb : Below w.heap.size w w') => atLeft_any (h.below hb) hd)
  have HF := Lib.hid (fun w' (hb : Below w.heap.size w w') => atFree_any (h.below hb) hd)
  have hs1 := hd.s1
  have hr1 := hd.r1
  have hsl : c.slots ≤ 9 := by unfold Ch.slots; omega
  have hl : c.left ≤ c.slots := left_le
  have hf : c.free ≤ c.rgs := cntTo_le c c.rgs
  have HV := Lib.hid (show (c.left : Int) + ((c.free - 2 : Nat) : Int) * (c.slots : Int) = (c.avail : Int) by unfold Ch.avail; rw [Int.natCast_add, Int.natCast_mul])
  unfold ptr at HSL HL HF ⊢
  obtain ⟨a, ha⟩ : ∃ a, c.avail = a := ⟨_, rfl⟩
  rw [ha] at HV ⊢
  clear h hd ha
  generalize c.slots = sl at *
  generalize c.left = l at *
  generalize c.free = f at *
  have hmx := fun w ts t => max2 (P := Try.prog) w ts t ((f : Int) - 2) 0 ((f - 2 : Nat) : Int) (by omega)
  obtain ⟨g, hg⟩ : ∃ g, g = f - 2 := ⟨_, rfl⟩
  rw [← hg] at hmx HV
  have hg10 : g ≤ 10 := by omega
  clear hg
  have hm := Geom.mul_le (show (0 : Int) ≤ (g : Int) by omega) (show (g : Int) ≤ 10 by omega) (show (0 : Int) ≤ (sl : Int) by omega) (show (sl : Int) ≤ 9 by omega)
  go_enter Try.func22, Try.ntmps22
  go_wp2_with (first
    | (go_at_call 21; (with_reducible refine (HL.out _ (Below.refl _ _)).mono ?_); rintro e w3 ⟨rfl, h3⟩)
    | (go_at_call 20; (with_reducible refine (HF.out _ h3).mono ?_); rintro e w4 ⟨rfl, h4⟩; have b4 := Lib.hid (bel2 h3 h4))
    | (go_at_call 47; (with_reducible refine (HSL.out _ b4.out).mono ?_); rintro e w5 ⟨rfl, h5⟩))
  go_ret
  exact ⟨ret_int HV.out, bel2 b4.out h5⟩
end Go.Proofs.Ytmkdhehdfdkbjaa.Chart
