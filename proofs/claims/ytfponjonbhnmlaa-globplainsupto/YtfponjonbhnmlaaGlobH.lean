/-
  What package glob says of a text, rune by rune: sayNothing, sayMore.
-/
import Derived.Test.YtfponjonbhnmlaaGlobG
namespace Go.Proofs.Ytfponjonbhnmlaa.Glob
open Go.RowKit
open RuneM RefRune Own RefKeys GlobM Keys RefGlob

/-- do the first j items say k? -/
def sayB (its : List It) (k : List Nat) (j : Nat) : Bool := rowB k (its.take j) k.length
theorem sayB_iff (its : List It) (k : List Nat) (j : Nat) : sayB its k j = true ↔ M (its.take j) k := by
  have := rowB_says k _ (its.take j) rfl k.length (Nat.le_refl _)
  rw [List.take_length] at this
  exact this
theorem sayB_nil0 (its : List It) : sayB its [] 0 = true := (sayB_iff its [] 0).2 rfl
theorem sayB_nil {its : List It} {j : Nat} (h : j < its.length) : sayB its [] (j + 1) = (sayB its [] j && starOf its[j]) := by
  rw [Bool.eq_iff_iff, Bool.and_eq_true, sayB_iff, sayB_iff, List.take_succ_eq_append_getElem h]
  by_cases hx : its[j].kind = 1
  · rw [M_star_nil _ _ hx]; simp [starOf, hx]
  · have := M_has_nil (its.take j) its[j] hx
    exact ⟨fun h => absurd h this, fun h => absurd h.2 (by simp [starOf, hx])⟩
theorem sayB_snoc0 (its : List It) (k : List Nat) (r : Nat) : sayB its (k ++ [r]) 0 = false := by
  cases h : sayB its (k ++ [r]) 0 with
  | false => rfl
  | true =>
    have h1 := (sayB_iff its (k ++ [r]) 0).1 h
    simp [M] at h1
theorem sayB_star {its : List It} {k : List Nat} {r j : Nat} (h : j < its.length) (hx : starOf its[j] = true) : sayB its (k ++ [r]) (j + 1) = (sayB its (k ++ [r]) j || sayB its k (j + 1)) := by
  rw [Bool.eq_iff_iff, Bool.or_eq_true, sayB_iff, sayB_iff, sayB_iff, List.take_succ_eq_append_getElem h]
  exact M_star _ _ (by simpa [starOf] using hx) _ _
theorem sayB_has {its : List It} {k : List Nat} {r j : Nat} (h : j < its.length) (hx : starOf its[j] = false) : sayB its (k ++ [r]) (j + 1) = (sayB its k j && hasI its[j] r) := by
  rw [Bool.eq_iff_iff, Bool.and_eq_true, sayB_iff, sayB_iff, List.take_succ_eq_append_getElem h]
  exact M_has _ _ (by simpa [starOf] using hx) _ _
theorem Bits.put {w : World} {g n : Nat} {f : Nat → Bool} (h : Bits w g n f n) {j : Nat} (hj : j < n) (b : Bool) : Bits (w.setCell ⟨g, j, none⟩ (.bool b)) g n (fun i => if i = j then b else f i) n := by
  have key : ∀ i, i < n → (w.setCell ⟨g, j, none⟩ (.bool b)).cell? ⟨g, i, none⟩ = some (.bool (if i = j then b else f i)) := fun i hi => by
    by_cases e : i = j
    · subst e; rw [World.cell?_setCell_same _ _ _ (h.2 i hi), if_pos rfl]
    · rw [World.cell?_setCell_other _ _ _ _ (fun hh => e (congrArg Addr.off hh).symm), h.2 i hi, if_neg e]
  exact ⟨fun i hi => ⟨⟨_, key i hi⟩, by rw [World.frozen?_setCell]; exact (h.1 i hi).2⟩, key⟩
theorem Bits.congr {w : World} {g n : Nat} {f f' : Nat → Bool} (h : Bits w g n f n) (e : ∀ j, j < n → f j = f' j) : Bits w g n f' n := ⟨h.1, fun j hj => by rw [← e j hj]; exact h.2 j hj⟩
theorem Bits.zero {w2 : World} {base B n cap : Nat} {e : TypeId} (h : w2.ownsRow base e 1 (.slice (some ⟨B, 0, none⟩) n cap) n (madeCells (Value.bool false).cells (n * 1)).toList) : Bits w2 B n (fun _ => false) n := by
  have hc : ∀ j, j < n → w2.cell? ⟨B, j, none⟩ = some (.bool false) := fun j hj => by
    rw [h.cellAt j (by omega)]
    have : (madeCells (Value.bool false).cells (n * 1)).toList = List.replicate n (.bool false) := by
      rw [Nat.mul_one]; exact toList_madeCells_one (.bool false) n
    rw [this]
    simp [hj]
  exact ⟨fun j hj => ⟨⟨_, hc j hj⟩, h.frozenAt j⟩, hc⟩
theorem below_grown {w w' : World} (h : Below w.heap.size w w') (row : Option Nat) : w.grownBy w' row := ⟨h.os, h.tape, h.output, h.size, fun k hk _ => h.block k hk⟩
theorem Bits.far {w w' : World} {g n : Nat} {f : Nat → Bool} (h : Bits w g n f n) (hb : Below w.heap.size w w') : Bits w' g n f n := h.below (Nat.le_refl _) hb
theorem parts_at {w : World} {base : Nat} {v : Value} {ps : List (It × Value)} (h : PartsM w base v ps) {i : Nat} (hi : i < ps.length) : ∃ g cap, v = .slice (some ⟨g, 0, none⟩) ps.length cap ∧ g < w.heap.size ∧ w.cell? ⟨g, i * 3, none⟩ = some (.bool (starOf ps[i].1)) ∧ w.cell? ⟨g, i * 3 + 1, none⟩ = some (.bool (notOf ps[i].1)) ∧ w.cell? ⟨g, i * 3 + 2, none⟩ = some ps[i].2 := by
  have h1 := flatP_at ps i ps[i] (by simp [hi])
  rw [Nat.mul_comm] at h1
  obtain ⟨g, cap, e, _, hg, _, c1⟩ := owns_cell h.row h1.1
  obtain ⟨g2, cap2, e2, _, _, _, c2⟩ := owns_cell h.row h1.2.1
  obtain ⟨g3, cap3, e3, _, _, _, c3⟩ := owns_cell h.row h1.2.2
  rw [e] at e2 e3
  cases e2; cases e3
  exact ⟨g, cap, e, hg, c1, c2, c3⟩
theorem set_size (w : World) (a : Addr) (x : Value) : (w.setCell a x).heap.size = w.heap.size := by simp [World.setCell]
/-- what sayNothing answers -/
def NothingSays (ps : List (It × Value)) (w : World) (e : Ending) (w' : World) : Prop :=
  ∃ g, e = .returned (.slice (some ⟨g, 0, none⟩) (ps.length + 1) (ps.length + 1)) ∧ w.heap.size ≤ g ∧ g < w'.heap.size ∧ Bits w' g (ps.length + 1) (sayB (ps.map (·.1)) []) (ps.length + 1) ∧ Below w.heap.size w w'
set_option maxRecDepth 100000 in
set_option maxHeartbeats 4000000 in
theorem nothing_any (base : Nat) (v : Value) (ps : List (It × Value)) (hl : ps.length ≤ 1000) (w : World) (hP : PartsM w base v ps) : Calls Try.prog 22 #[v] w (NothingSays ps w) := by
  obtain ⟨i0, hi0, hz0, hz1, hz2⟩ := info_parts infoBool
  have HP := Lib.hid hP
  obtain ⟨pv, rfl⟩ := owns_slice hP.row
  clear hP
  go_enter Try.func22, Try.ntmps22
  go_wp2_with (at_make; refine wpList_make_full _ rfl _ _ 39 rfl w.heap.size 4 i0 (.bool false) 1 Try.underlying39 hi0 hz0 hz1 .i64 .i64 _ _ (ps.length + 1) rfl rfl (by omega) (by omega) (by rw [hz2]; omega) (by simp [maxLen]; omega) (Nat.le_refl _) ?_; intro w3 hown hgrow; have c0 := Bits.zero hown; have c0c := c0.2 0 (by omega); have c0f := (c0.1 0 (by omega)).2)
  have HC0 := Lib.hid (Bits.congr (Bits.put c0 (j := 0) (by omega) true) (f' := fun j => if j ≤ 0 then sayB (ps.map (·.1)) [] j else false) (fun j _ => by
    by_cases e : j = 0
    · subst e; simp [sayB_nil0]
    · simp [e]))
  have HB0 := Lib.hid (((Below.refl w.heap.size w).grown hgrow (Nat.le_refl _) (fun k hk => by cases hk)).setCell (p := ⟨w.heap.size, 0, none⟩) (Nat.le_refl _) (.bool true))
  clear c0 c0c c0f hgrow
  go_loopw [14] (fun x wr => ∃ i : Nat, i ≤ ps.length ∧ x = .int .i64 (i : Int) ∧ Bits wr w.heap.size (ps.length + 1) (fun j => if j ≤ i then sayB (ps.map (·.1)) [] j else false) (ps.length + 1) ∧ Below w.heap.size w wr) (fun x _ => ps.length - (intOf x).toNat)
  case atStart => exact ⟨0, Nat.zero_le _, rfl, HC0.out, HB0.out⟩
  case round =>
    obtain ⟨i, hi, rfl, hBits, hbl⟩ := hrel
    have HBI := Lib.hid hBits
    have HBL := Lib.hid hbl
    have hg0 := hBits.lt (by omega)
    clear hBits hbl HC0 HB0
    by_cases hlt : i < ps.length
    · obtain ⟨gp, cap, e, hgp, k0, k1, k2⟩ := parts_at (HP.out.below HBL.out) hlt
      obtain ⟨qa, qc⟩ := pv
      simp only [Value.slice.injEq, true_and] at e
      obtain ⟨rfl, rfl⟩ := e
      have HSY := Lib.hid (sayB_nil (its := ps.map (·.1)) (j := i) (by simpa using hlt))
      rw [List.getElem_map] at HSY
      obtain ⟨qs, hqs⟩ := owns_slice (HP.out.sp _ (List.getElem_mem hlt)).1
      rw [hqs] at k2
      clear hqs
      generalize ps[i].1.sp.length = nq at k2
      have HK := Lib.hid (Bits.far HBI.out (bel_alloc wr (Obj.cells #[.bool (starOf ps[i].1), .bool (notOf ps[i].1), .slice qs.1 nq qs.2] 65)))
      generalize starOf ps[i].1 = b1 at k0 HSY HK
      generalize notOf ps[i].1 = b2 at k1 HK
      have l1 : (i : Int) < (ps.length : Int) := by omega
      have l2 : (i : Int) < (ps.length : Int) + 1 := by omega
      have l3 : (i : Int) + 1 < (ps.length : Int) + 1 := by omega
      have ci := HK.out.2 i (by omega)
      simp only [Nat.le_refl, if_true] at ci
      have co := HK.out.2 (i + 1) (by omega)
      simp only [show ¬ i + 1 ≤ i by omega, if_false] at co
      have fo := (HK.out.1 (i + 1) (by omega)).2
      have HBN := Lib.hid (fun b => (HBL.out.setCell (p := ⟨w.heap.size, i + 1, none⟩) (Nat.le_refl _) (.bool b)).alloc (by rw [set_size]; exact Nat.le_of_lt hg0) (Obj.cells #[.bool b1, .bool b2, .slice qs.1 nq qs.2] 65))
      have HN := Lib.hid (fun b (hb : b = (sayB (ps.map (·.1)) [] i && b1)) => Bits.congr (Bits.far (Bits.put HBI.out (j := i + 1) (by omega) b) (bel_alloc _ (Obj.cells #[.bool b1, .bool b2, .slice qs.1 nq qs.2] 65))) (f' := fun j => if j ≤ i + 1 then sayB (ps.map (·.1)) [] j else false) (fun j _ => by
        by_cases e : j = i + 1
        · subst e; rw [if_pos rfl, if_pos (Nat.le_refl _), hb, ← HSY.out]
        · rw [if_neg e]
          by_cases e2 : j ≤ i
          · rw [if_pos e2, if_pos (by omega)]
          · rw [if_neg e2, if_neg (by omega)]))
      generalize sayB (ps.map (·.1)) [] i = bi at ci HN
      clear HK HSY
      cases bi with
      | true =>
        go_wp2
        go_roundw
        case rel => exact ⟨i + 1, by omega, by go_num, HN.out _ (by simp), HBN.out _⟩
        case measure => simp [intOf]; omega
      | false =>
        go_wp2
        go_roundw
        case rel => exact ⟨i + 1, by omega, by go_num, HN.out _ rfl, HBN.out _⟩
        case measure => simp [intOf]; omega
    · have l1 : ¬ (i : Int) < (ps.length : Int) := by omega
      go_wp2
      go_ret
      exact ⟨_, rfl, Nat.le_refl _, hg0, Bits.congr HBI.out (fun j hj => if_pos (by omega)), HBL.out⟩
/-- what sayMore does -/
def MoreSays (its : List It) (k : List Nat) (r g n : Nat) (w : World) (e : Ending) (w' : World) : Prop :=
  e = .returned (.tuple #[]) ∧ Bits w' g n (sayB its (k ++ [r])) n ∧ w.grownBy w' (some g)
set_option maxRecDepth 100000 in
set_option maxHeartbeats 4000000 in
theorem more_any (base : Nat) (v : Value) (ps : List (It × Value)) (hl : ps.length ≤ 1000) (hsl : ∀ x ∈ ps, x.1.sp.length ≤ 1000) (k : List Nat) (r g : Nat) (w : World) (hP : PartsM w base v ps) (hv : v.ownBlock ≠ some g) (hsp : ∀ x ∈ ps, x.2.ownBlock ≠ some g) (hB : Bits w g (ps.length + 1) (sayB (ps.map (·.1)) k) (ps.length + 1)) :
    Calls Try.prog 23 #[v, .slice (some ⟨g, 0, none⟩) (ps.length + 1) (ps.length + 1), .int .i32 (r : Int)] w (MoreSays (ps.map (·.1)) k r g (ps.length + 1) w) := by
  have HP := Lib.hid hP
  have HV := Lib.hid hv
  have HSP := Lib.hid hsp
  have HB := Lib.hid hB
  obtain ⟨pv, rfl⟩ := owns_slice hP.row
  have c0 := hB.2 0 (by omega)
  have f0 := (hB.1 0 (by omega)).2
  have l0 : (0 : Int) < (ps.length : Int) + 1 := by omega
  have HC0 := Lib.hid (Bits.congr (Bits.put hB (j := 0) (by omega) false) (f' := fun j => if j ≤ 0 then sayB (ps.map (·.1)) (k ++ [r]) j else sayB (ps.map (·.1)) k j) (fun j _ => by
    by_cases e : j = 0
    · subst e; simp [sayB_snoc0]
    · simp [e]))
  have HG0 := Lib.hid (grown_set w ⟨g, 0, none⟩ (.bool false))
  clear hP hv hsp hB
  obtain ⟨bk, hbk⟩ : ∃ b, b = sayB (ps.map (·.1)) k 0 := ⟨_, rfl⟩
  have HBK := Lib.hid hbk
  rw [← hbk] at c0
  clear hbk
  go_enter Try.func23, Try.ntmps23
  go_wp2
  go_loopw [6, 17] (fun x6 x wr => ∃ i : Nat, i ≤ ps.length ∧ x = .int .i64 (i : Int) ∧ x6 = .bool (sayB (ps.map (·.1)) k i) ∧ Bits wr g (ps.length + 1) (fun j => if j ≤ i then sayB (ps.map (·.1)) (k ++ [r]) j else sayB (ps.map (·.1)) k j) (ps.length + 1) ∧ w.grownBy wr (some g)) (fun _ x _ => ps.length - (intOf x).toNat)
  case atStart => exact ⟨0, Nat.zero_le _, rfl, by rw [HBK.out], HC0.out, HG0.out⟩
  case round =>
    obtain ⟨i, hi, rfl, rfl, hBits, hgr⟩ := hrel
    have HBI := Lib.hid hBits
    have HGR := Lib.hid hgr
    have hg0 := hBits.lt (by omega)
    clear hBits hgr HC0 HG0 HBK c0 f0 l0
    by_cases hlt : i < ps.length
    · have HPR := Lib.hid (HP.out.kept HSP.out HV.out HGR.out)
      obtain ⟨gp, cap, e, hgp, k0, k1, k2⟩ := parts_at HPR.out hlt
      obtain ⟨qa, qc⟩ := pv
      simp only [Value.slice.injEq, true_and] at e
      obtain ⟨rfl, rfl⟩ := e
      have hmem := List.getElem_mem hlt
      have hsl1 := hsl _ hmem
      have HSN := Lib.hid (HPR.out.sp _ hmem)
      have HSTAR := Lib.hid (fun h => sayB_star (its := ps.map (·.1)) (k := k) (r := r) (j := i) (by simpa using hlt) (by rw [List.getElem_map]; exact h))
      have HHAS := Lib.hid (fun h => sayB_has (its := ps.map (·.1)) (k := k) (r := r) (j := i) (by simpa using hlt) (by rw [List.getElem_map]; exact h))
      rw [List.getElem_map] at HHAS
      have l1 : (i : Int) < (ps.length : Int) := by omega
      have l2 : (i : Int) < (ps.length : Int) + 1 := by omega
      have l3 : (i : Int) + 1 < (ps.length : Int) + 1 := by omega
      clear hmem hsl
      generalize ps[i] = pi at k0 k1 k2 HSN HSTAR HHAS hsl1
      obtain ⟨it, spv⟩ := pi
      simp only at k0 k1 k2 HSN HSTAR HHAS hsl1
      have hsn := HSN.out
      obtain ⟨qs, rfl⟩ := owns_slice hsn.1
      have HHC := Lib.hid (fun w h1 => has_any it (.slice qs.1 it.sp.length qs.2) r w h1 hsn.2 (by omega))
      have HSW : Hid (SpansM (wr.alloc (Obj.cells #[.bool (starOf it), .bool (notOf it), .slice qs.1 it.sp.length qs.2] 65)) 0 (.slice qs.1 it.sp.length qs.2) it.sp) := owns_below hsn.1 (bel_alloc _ _)
      have HK := Lib.hid (Bits.far HBI.out (bel_alloc wr (Obj.cells #[.bool (starOf it), .bool (notOf it), .slice qs.1 it.sp.length qs.2] 65)))
      have ci := HK.out.2 i (by omega)
      simp only [Nat.le_refl, if_true] at ci
      have co := HK.out.2 (i + 1) (by omega)
      simp only [show ¬ i + 1 ≤ i by omega, if_false] at co
      have fo := (HK.out.1 (i + 1) (by omega)).2
      have HMIX := Lib.hid (fun (wz : World) b (hb : b = sayB (ps.map (·.1)) (k ++ [r]) (i + 1)) (hz : Bits wz g (ps.length + 1) (fun j => if j ≤ i then sayB (ps.map (·.1)) (k ++ [r]) j else sayB (ps.map (·.1)) k j) (ps.length + 1)) => Bits.congr (Bits.put hz (j := i + 1) (by omega) b) (f' := fun j => if j ≤ i + 1 then sayB (ps.map (·.1)) (k ++ [r]) j else sayB (ps.map (·.1)) k j) (fun j _ => by
        by_cases e : j = i + 1
        · subst e; rw [if_pos rfl, if_pos (Nat.le_refl _), hb]
        · rw [if_neg e]
          by_cases e2 : j ≤ i
          · rw [if_pos e2, if_pos (by omega)]
          · rw [if_neg e2, if_neg (by omega)]))
      clear hsn HSN
      cases hst : starOf it with
      | true =>
        have HQ := Lib.hid (HSTAR.out hst)
        rw [hst] at k0 ci co fo
        generalize notOf it = b2 at k1 ci co fo
        generalize it.sp.length = nq at k2 ci co fo
        have HN := Lib.hid (fun b hb => Bits.far (HMIX.out wr b hb HBI.out) (bel_alloc _ (Obj.cells #[.bool true, .bool b2, .slice qs.1 nq qs.2] 65)))
        have HGN := Lib.hid (fun b => (HGR.out.trans (grown_set wr ⟨g, i + 1, none⟩ (.bool b))).trans (World.grownBy_alloc _ (Obj.cells #[.bool true, .bool b2, .slice qs.1 nq qs.2] 65) (some g)))
        obtain ⟨bo, hbo⟩ : ∃ b, b = sayB (ps.map (·.1)) k (i + 1) := ⟨_, rfl⟩
        rw [← hbo] at co HQ
        have HBO := Lib.hid hbo
        obtain ⟨bi, hbi⟩ : ∃ b, b = sayB (ps.map (·.1)) (k ++ [r]) i := ⟨_, rfl⟩
        rw [← hbi] at ci HQ
        clear hbo hbi hst HSTAR HHAS HHC HSW HK HMIX
        generalize sayB (ps.map (·.1)) k i = bb
        cases bi with
        | true =>
          go_wp2
          go_roundw
          case rel => exact ⟨i + 1, by omega, by go_num, by rw [HBO.out], HN.out _ (by rw [HQ.out]; rfl), HGN.out _⟩
          case measure => simp [intOf]; omega
        | false =>
          go_wp2
          go_roundw
          case rel => exact ⟨i + 1, by omega, by go_num, by rw [HBO.out], HN.out _ (by rw [HQ.out]; rfl), HGN.out _⟩
          case measure => simp [intOf]; omega
      | false =>
        have HQ := Lib.hid (HHAS.out hst)
        rw [hst] at k0 ci co fo HHC HSW HK
        obtain ⟨bo, hbo⟩ : ∃ b, b = sayB (ps.map (·.1)) k (i + 1) := ⟨_, rfl⟩
        rw [← hbo] at co
        have HBO := Lib.hid hbo
        obtain ⟨bb, hbb⟩ : ∃ b, b = sayB (ps.map (·.1)) k i := ⟨_, rfl⟩
        rw [← hbb] at HQ
        rw [← hbb]
        obtain ⟨b2, hb2⟩ : ∃ b, b = notOf it := ⟨_, rfl⟩
        rw [← hb2] at k1 ci co fo HHC HSW HK
        clear hbo hbb hst HSTAR HHAS hb2
        cases bb with
        | true =>
          have hlz : wr.heap.size < (wr.alloc (Obj.cells #[.bool false, .bool b2, .slice qs.1 it.sp.length qs.2] 65)).heap.size := by rw [size_alloc]; omega
          go_wp2_with fail
          go_at_call 35
          with_reducible refine (HHC.out _ HSW.out).mono ?_
          rintro e w5 ⟨rfl, hb5⟩
          have HK5 := Lib.hid (Bits.far HK.out hb5)
          have co5 := HK5.out.2 (i + 1) (by omega)
          simp only [show ¬ i + 1 ≤ i by omega, if_false] at co5
          have fo5 := (HK5.out.1 (i + 1) (by omega)).2
          have HN := Lib.hid (fun b hb => HMIX.out w5 b hb HK5.out)
          have HGN := Lib.hid (fun b => ((HGR.out.trans (World.grownBy_alloc wr (Obj.cells #[.bool false, .bool b2, .slice qs.1 it.sp.length qs.2] 65) (some g))).trans (below_grown hb5 (some g))).trans (grown_set w5 ⟨g, i + 1, none⟩ (.bool b)))
          generalize hasI it r = hh at HQ
          clear hb5 HK HK5 HHC HSW HMIX ci co fo k0 k1 k2
          go_wp2
          go_roundw
          case rel => exact ⟨i + 1, by omega, by go_num, by rw [HBO.out], HN.out _ (by rw [HQ.out]; rfl), HGN.out _⟩
          case measure => simp [intOf]; omega
        | false =>
          generalize it.sp.length = nq at k2 ci co fo
          have HN := Lib.hid (fun b hb => Bits.far (HMIX.out wr b hb HBI.out) (bel_alloc _ (Obj.cells #[.bool false, .bool b2, .slice qs.1 nq qs.2] 65)))
          have HGN := Lib.hid (fun b => (HGR.out.trans (grown_set wr ⟨g, i + 1, none⟩ (.bool b))).trans (World.grownBy_alloc _ (Obj.cells #[.bool false, .bool b2, .slice qs.1 nq qs.2] 65) (some g)))
          clear HK HHC HSW HMIX
          go_wp2
          go_roundw
          case rel => exact ⟨i + 1, by omega, by go_num, by rw [HBO.out], HN.out _ (by rw [HQ.out]; rfl), HGN.out _⟩
          case measure => simp [intOf]; omega
    · have l1 : ¬ (i : Int) < (ps.length : Int) := by omega
      have HF := Lib.hid (Bits.congr HBI.out (f' := sayB (ps.map (·.1)) (k ++ [r])) (fun j hj => if_pos (by omega)))
      generalize sayB (ps.map (·.1)) k i = bb
      go_wp2
      go_end0
      exact ⟨rfl, HF.out, HGR.out⟩
end Go.Proofs.Ytfponjonbhnmlaa.Glob
