/-
  ChartPages' walk: as many pages are taken as there are slots.
-/
import Derived.Test.YtmkdhehdfdkbjaaChartLf
import Derived.Test.YtmkdhehdfdkbjaaRegion3
set_option linter.unusedVariables false
set_option linter.unusedSimpArgs false
namespace Go.Proofs.Ytmkdhehdfdkbjaa.Chart
open Go.RowKit
open Go.Proofs.Ytmkdhehdfdkbjaa.Own
open Tup Foot
open Go.Proofs.Ytmkdhehdfdkbjaa.Region (fill Then Deps Each wp_region_is wp_region_is_tail Deps2 Each2 Owes upd put wp_region_each3 slots)

/-- m regions are taken, all but the last full, of the last one u slots are used -/
def pgC (pg pgs rgs m u : Nat) : Ch := ⟨pg, pgs, rgs, (List.range rgs).map (fun j => if j + 1 < m then (j + 1, pgs - 1) else if j + 1 = m then (m, u) else (0, 0)), if m = 0 then none else some (m - 1)⟩
theorem pg_get {pg pgs rgs m u j : Nat} (h : j < rgs) : (pgC pg pgs rgs m u).st.getD j (0, 0) = if j + 1 < m then (j + 1, pgs - 1) else if j + 1 = m then (m, u) else (0, 0) := by
  unfold pgC
  simp only [List.getD_eq_getElem?_getD, List.getElem?_map, List.getElem?_range h]
  rfl
theorem pg_len (pg pgs rgs m u : Nat) : (pgC pg pgs rgs m u).st.length = rgs := by simp [pgC]
theorem pg_ep {pg pgs rgs m u : Nat} (hm : m ≤ rgs) (j : Nat) : (pgC pg pgs rgs m u).ep j = if j + 1 ≤ m then j + 1 else 0 := by
  by_cases h : j < rgs
  · unfold Ch.ep
    rw [pg_get h]
    by_cases e1 : j + 1 < m
    · rw [if_pos e1, if_pos (by omega)]
    · rw [if_neg e1]
      by_cases e2 : j + 1 = m
      · rw [if_pos e2, if_pos (by omega)]; exact e2.symm
      · rw [if_neg e2, if_neg (by omega)]
  · rw [ep_out (pg_len _ _ _ _ _) (show (pgC pg pgs rgs m u).rgs ≤ j by show rgs ≤ j; omega), if_neg (by omega)]
theorem pg_us_last {pg pgs rgs m u : Nat} (hm : m + 1 ≤ rgs) : (pgC pg pgs rgs (m + 1) u).us m = u := by
  unfold Ch.us
  rw [pg_get (by omega), if_neg (by omega), if_pos rfl]
theorem pg_maxTo {pg pgs rgs m u : Nat} (hm : m ≤ rgs) (j : Nat) : (pgC pg pgs rgs m u).maxTo j = min j m := by
  induction j with
  | zero => simp [Ch.maxTo]
  | succ j ih => rw [Ch.maxTo, ih, pg_ep hm]; split <;> (try split) <;> omega
theorem pg_topTo {pg pgs rgs m u : Nat} (hm : m ≤ rgs) (j : Nat) : (pgC pg pgs rgs m u).topTo j = min j m - 1 := by
  induction j with
  | zero => simp [Ch.topTo]
  | succ j ih => rw [Ch.topTo, pg_maxTo hm, pg_ep hm, ih]; split <;> (try split) <;> (try split at *) <;> omega
theorem pg_cntTo {pg pgs rgs m u : Nat} (hm : m ≤ rgs) (j : Nat) : (pgC pg pgs rgs m u).cntTo j = j - min j m := by
  induction j with
  | zero => simp [Ch.cntTo]
  | succ j ih => rw [Ch.cntTo, ih, pg_ep hm]; split <;> (try split at *) <;> omega
theorem pg_max {pg pgs rgs m u : Nat} (hm : m ≤ rgs) : (pgC pg pgs rgs m u).max = m := by
  unfold Ch.max; rw [pg_maxTo hm]; show min rgs m = m; omega
theorem pg_top {pg pgs rgs m u : Nat} (hm : m ≤ rgs) : (pgC pg pgs rgs m u).top = m - 1 := by
  unfold Ch.top; rw [pg_topTo hm]; show min rgs m - 1 = m - 1; omega
theorem pg_free {pg pgs rgs m u : Nat} (hm : m ≤ rgs) : (pgC pg pgs rgs m u).free = rgs - m := by
  unfold Ch.free; rw [pg_cntTo hm]; show rgs - min rgs m = rgs - m; omega
theorem pg_next {pg pgs rgs m u : Nat} (hm : m < rgs) : (pgC pg pgs rgs m u).next = some m := by
  unfold Ch.next
  rw [pg_top (by omega)]
  show (pgC pg pgs rgs m u).scan (m - 1) 0 rgs = _
  cases m with
  | zero =>
    obtain ⟨n, rfl⟩ : ∃ n, rgs = n + 1 := ⟨rgs - 1, by omega⟩
    have := scan_hit (c := pgC pg pgs (n + 1) 0 u) (first := 0) (i := 0) (n := n) (by show (pgC pg pgs (n + 1) 0 u).ep (0 % (n + 1)) = 0; rw [pg_ep (by omega), if_neg (by omega)])
    exact this.trans (by show some (0 % (n + 1)) = some 0; simp)
  | succ m =>
    obtain ⟨n, rfl⟩ : ∃ n, rgs = n + 2 := ⟨rgs - 2, by omega⟩
    have h1 := scan_miss (c := pgC pg pgs (n + 2) (m + 1) u) (first := m) (i := 0) (n := n + 1) (by
      show (pgC pg pgs (n + 2) (m + 1) u).ep (m % (n + 2)) ≠ 0
      rw [Nat.mod_eq_of_lt (by omega), pg_ep (by omega), if_pos (by omega)]; omega)
    have h2 := scan_hit (c := pgC pg pgs (n + 2) (m + 1) u) (first := m) (i := 1) (n := n) (by
      show (pgC pg pgs (n + 2) (m + 1) u).ep ((m + 1) % (n + 2)) = 0
      rw [Nat.mod_eq_of_lt (by omega), pg_ep (by omega), if_neg (by omega)])
    exact (h1.trans h2).trans (by show some ((m + 1) % (n + 2)) = some (m + 1); rw [Nat.mod_eq_of_lt (by omega)])
theorem ch_ext {a b : Ch} (h1 : a.pg = b.pg) (h2 : a.pgs = b.pgs) (h3 : a.rgs = b.rgs) (h4 : a.st = b.st) (h5 : a.now = b.now) : a = b := by
  obtain ⟨a1, a2, a3, a4, a5⟩ := a
  obtain ⟨b1, b2, b3, b4, b5⟩ := b
  simp only at h1 h2 h3 h4 h5
  subst h1 h2 h3 h4 h5
  rfl
theorem pg_set {pg pgs rgs m u k : Nat} {x : Nat × Nat} {n v : Nat} (h : ∀ j, j < rgs → (if k = j then x else if j + 1 < m then (j + 1, pgs - 1) else if j + 1 = m then (m, u) else (0, 0)) = (if j + 1 < n then (j + 1, pgs - 1) else if j + 1 = n then (n, v) else (0, 0))) : (pgC pg pgs rgs m u).st.set k x = (pgC pg pgs rgs n v).st := by
  apply List.ext_getElem?
  intro j
  rw [List.getElem?_set]
  by_cases hj : j < rgs
  · have e1 : (pgC pg pgs rgs m u).st[j]? = some (if j + 1 < m then (j + 1, pgs - 1) else if j + 1 = m then (m, u) else (0, 0)) := by
      unfold pgC; simp only [List.getElem?_map, List.getElem?_range hj]; rfl
    have e2 : (pgC pg pgs rgs n v).st[j]? = some (if j + 1 < n then (j + 1, pgs - 1) else if j + 1 = n then (n, v) else (0, 0)) := by
      unfold pgC; simp only [List.getElem?_map, List.getElem?_range hj]; rfl
    rw [e1, e2, ← h j hj, pg_len]
    by_cases e : k = j
    · subst e; simp [hj]
    · simp [e]
  · rw [List.getElem?_eq_none (by rw [pg_len]; omega), List.getElem?_eq_none (by rw [pg_len]; omega), pg_len]
    by_cases e : k = j
    · subst e; simp [hj]
    · simp [e]
theorem pg_open {pg pgs rgs m u : Nat} (hm : m < rgs) (hr : rgs ≤ 12) (hu : m = 0 ∨ u = pgs - 1) : openC (pgC pg pgs rgs m u) = ((m, m + 1, true), pgC pg pgs rgs (m + 1) 0) := by
  have := open_at (c := pgC pg pgs rgs m u) (by rw [pg_max (by omega)]; omega) (pg_next hm)
  rw [this, pg_max (by omega)]
  congr 1
  unfold Ch.openAt
  rw [pg_max (by omega)]
  refine ch_ext rfl rfl rfl ?_ ?_
  · refine pg_set (fun j hj => ?_)
    by_cases e : m = j
    · subst e; rw [if_pos rfl, if_neg (by omega), if_pos rfl]
    · rw [if_neg e]
      by_cases e1 : j + 1 < m
      · rw [if_pos e1, if_pos (by omega)]
      · rw [if_neg e1]
        by_cases e2 : j + 1 = m
        · rw [if_pos e2, if_pos (by omega)]
          rcases hu with h0 | h0
          · omega
          · rw [h0, e2]
        · rw [if_neg e2, if_neg (by omega), if_neg (by omega)]
  · show some m = if m + 1 = 0 then none else some (m + 1 - 1)
    rw [if_neg (by omega)]; rfl
theorem pg_open_none {pg pgs rgs u : Nat} (hr : 0 < rgs) : openC (pgC pg pgs rgs rgs u) = ((0, 0, false), pgC pg pgs rgs rgs u) := by
  refine open_full ?_
  unfold Ch.next
  exact (scan_free (c := pgC pg pgs rgs rgs u) hr).2 (by rw [pg_free (Nat.le_refl _)]; omega)
theorem pg_take {pg pgs rgs m u : Nat} (hm : m + 1 ≤ rgs) (hu : u < pgs - 1) : takeC (pgC pg pgs rgs (m + 1) u) = ((m * pgs + (u + 1), true), pgC pg pgs rgs (m + 1) (u + 1)) := by
  have hn : (pgC pg pgs rgs (m + 1) u).now = some m := rfl
  have hus := pg_us_last (pg := pg) (pgs := pgs) (u := u) hm
  have := take_open hn (by rw [hus]; exact hu)
  rw [this, hus]
  congr 1
  unfold Ch.takeAt
  rw [hus, pg_ep hm, if_pos (Nat.le_refl _)]
  refine ch_ext rfl rfl rfl ?_ rfl
  refine pg_set (fun j hj => ?_)
  by_cases e : m = j
  · subst e; rw [if_pos rfl, if_neg (by omega), if_pos rfl]
  · rw [if_neg e]
    by_cases e1 : j + 1 < m + 1
    · rw [if_pos e1, if_pos e1]
    · rw [if_neg e1, if_neg e1, if_neg (by omega), if_neg (by omega)]
theorem pg_take_none {pg pgs rgs m u : Nat} (hm : m ≤ rgs) (hu : m = 0 ∨ u = pgs - 1) : takeC (pgC pg pgs rgs m u) = ((0, false), pgC pg pgs rgs m u) := by
  refine take_full ?_
  unfold Ch.left
  cases m with
  | zero => rfl
  | succ m =>
    show (pgC pg pgs rgs (m + 1) u).slots - (pgC pg pgs rgs (m + 1) u).us m = 0
    rw [pg_us_last hm]
    show pgs - 1 - u = 0
    omega
theorem pg_zero (pg pgs rgs u : Nat) : pgC pg pgs rgs 0 u = newC pg pgs rgs := by
  refine ch_ext rfl rfl rfl ?_ rfl
  apply List.ext_getElem?
  intro j
  unfold pgC newC
  simp only [List.getElem?_map, List.getElem?_replicate]
  by_cases hj : j < rgs
  · rw [List.getElem?_range hj, if_pos hj]; simp
  · rw [List.getElem?_eq_none (by simp; omega), if_neg hj]; rfl
theorem pg_ok {pg pgs rgs m u : Nat} (h : (newC pg pgs rgs).Ok) (hm : m ≤ rgs) (hu : u ≤ pgs - 1) (h0 : m = 0 → u = 0) : (pgC pg pgs rgs m u).Ok := by
  have hr1 : rgs ≤ 12 := h.r1
  refine ⟨h.p0, h.p1, h.s0, h.s1, h.r0, h.r1, pg_len _ _ _ _ _, fun i => ?_, fun i => ?_, fun i hi => ?_, fun k hk => ?_⟩
  · rw [pg_ep hm]; split <;> omega
  · by_cases hi : i < rgs
    · unfold Ch.us; rw [pg_get hi]
      show (if i + 1 < m then (i + 1, pgs - 1) else if i + 1 = m then (m, u) else (0, 0)).2 ≤ pgs - 1
      split
      · exact Nat.le_refl _
      · split
        · exact hu
        · exact Nat.zero_le _
    · rw [us_out (pg_len _ _ _ _ _) (show (pgC pg pgs rgs m u).rgs ≤ i by show rgs ≤ i; omega)]; omega
  · rw [pg_ep hm] at hi
    have hi2 : ¬ i + 1 ≤ m := by intro e; rw [if_pos e] at hi; omega
    by_cases hi3 : i < rgs
    · unfold Ch.us; rw [pg_get hi3, if_neg (by omega), if_neg (by omega)]
    · exact us_out (pg_len _ _ _ _ _) (show (pgC pg pgs rgs m u).rgs ≤ i by show rgs ≤ i; omega)
  · have hk2 : (if m = 0 then none else some (m - 1)) = some k := hk
    split at hk2
    · simp at hk2
    · simp only [Option.some.injEq] at hk2
      subst hk2
      exact ⟨by show m - 1 < rgs; omega, by rw [pg_ep hm, if_pos (by omega)]; omega⟩
theorem pg_oldTo {pg pgs rgs u : Nat} (hr : 2 ≤ rgs) {j : Nat} (hj : 0 < j) (hjr : j ≤ rgs) : (pgC pg pgs rgs rgs u).oldTo j = some 0 := by
  induction j with
  | zero => omega
  | succ j ih =>
    rw [Ch.oldTo]
    have hn : (pgC pg pgs rgs rgs u).now = some (rgs - 1) := by show (if rgs = 0 then none else some (rgs - 1)) = _; rw [if_neg (by omega)]
    have he : (pgC pg pgs rgs rgs u).ep j = j + 1 := by rw [pg_ep (Nat.le_refl _), if_pos (by omega)]
    cases j with
    | zero =>
      rw [if_neg (by rw [he, hn]; simp; omega)]; rfl
    | succ j =>
      have h1 := ih (by omega) (by omega)
      rw [h1]
      by_cases hl : j + 1 = rgs - 1
      · rw [if_pos (by rw [hn, hl]; exact .inr rfl)]
      · rw [if_neg (by rw [he, hn]; simp; omega)]
        simp only
        rw [if_neg (by rw [he, pg_ep (Nat.le_refl _), if_pos (by omega)]; omega)]
theorem pg_oldest {pg pgs rgs u : Nat} (hr : 2 ≤ rgs) : oldestC (pgC pg pgs rgs rgs u) = (0, true) := by
  unfold oldestC
  rw [pg_oldTo hr (show 0 < (pgC pg pgs rgs rgs u).rgs by show 0 < rgs; omega) (Nat.le_refl rgs)]
theorem pg_full_left {pg pgs rgs : Nat} (hr : 1 ≤ rgs) : (pgC pg pgs rgs rgs (pgs - 1)).left = 0 := by
  obtain ⟨n, rfl⟩ : ∃ n, rgs = n + 1 := ⟨rgs - 1, by omega⟩
  show (pgC pg pgs (n + 1) (n + 1) (pgs - 1)).slots - (pgC pg pgs (n + 1) (n + 1) (pgs - 1)).us n = 0
  rw [pg_us_last (Nat.le_refl _)]
  show pgs - 1 - (pgs - 1) = 0
  omega
theorem pg_full_avail {pg pgs rgs : Nat} (hr : 1 ≤ rgs) : (pgC pg pgs rgs rgs (pgs - 1)).avail = 0 := by
  unfold Ch.avail; rw [pg_full_left hr, pg_free (Nat.le_refl _)]; simp
theorem pg_erase_last {pg pgs rgs u : Nat} (hr : 1 ≤ rgs) : eraseC (pgC pg pgs rgs rgs u) ((rgs - 1 : Nat) : Int) = (7, pgC pg pgs rgs rgs u) := by
  unfold eraseC
  rw [if_neg (by rw [Ch.is_nat (show rgs - 1 < (pgC pg pgs rgs rgs u).rgs by show rgs - 1 < rgs; omega)]; simp), if_pos]
  right
  show (if rgs = 0 then none else some (rgs - 1)) = some (((rgs - 1 : Nat) : Int).toNat)
  rw [if_neg (by omega), Int.toNat_natCast]
theorem pg_erase_first {pg pgs rgs u : Nat} (hr : 2 ≤ rgs) : eraseC (pgC pg pgs rgs rgs u) 0 = (0, (pgC pg pgs rgs rgs u).put 0 0 0) := by
  unfold eraseC
  rw [if_neg (by rw [show (0 : Int) = ((0 : Nat) : Int) from rfl, Ch.is_nat (show 0 < (pgC pg pgs rgs rgs u).rgs by show 0 < rgs; omega)]; simp), if_neg]
  · rfl
  · rintro (h | h)
    · rw [show (0 : Int).toNat = 0 from rfl, pg_ep (Nat.le_refl _), if_pos (by omega)] at h; omega
    · have h2 : (if rgs = 0 then none else some (rgs - 1)) = some 0 := h
      rw [if_neg (by omega)] at h2
      simp at h2; omega
theorem pg_put_cnt {pg pgs rgs u : Nat} (hr : 2 ≤ rgs) {j : Nat} (hj : 0 < j) (hjr : j ≤ rgs) : ((pgC pg pgs rgs rgs u).put 0 0 0).cntTo j = 1 := by
  induction j with
  | zero => omega
  | succ j ih =>
    rw [Ch.cntTo, put_ep (pg_len _ _ _ _ _) (show 0 < (pgC pg pgs rgs rgs u).rgs by show 0 < rgs; omega)]
    cases j with
    | zero => simp [Ch.cntTo]
    | succ j =>
      rw [ih (by omega) (by omega), if_neg]
      show ¬ ((if j + 1 = 0 then 0 else (pgC pg pgs rgs rgs u).ep (j + 1)) = 0)
      rw [if_neg (by omega), pg_ep (Nat.le_refl _), if_pos (by omega)]; omega
theorem pg_put_free {pg pgs rgs u : Nat} (hr : 2 ≤ rgs) : ((pgC pg pgs rgs rgs u).put 0 0 0).free = 1 := pg_put_cnt hr (show 0 < rgs by omega) (Nat.le_refl rgs)
end Go.Proofs.Ytmkdhehdfdkbjaa.Chart
