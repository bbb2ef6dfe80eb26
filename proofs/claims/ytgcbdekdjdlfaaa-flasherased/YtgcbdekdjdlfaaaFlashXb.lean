/-
  The landed device: is a page pending, is it blank; bytes that are made blank.
-/
import Derived.Test.YtgcbdekdjdlfaaaFlashXa
set_option linter.unusedVariables false
set_option linter.unusedSimpArgs false
namespace Go.Proofs.Ytgcbdekdjdlfaaa.Flash
open Go.RowKit
open Go.Proofs.Ytgcbdekdjdlfaaa.Own
open Tup Bytes Foot
open Go.Proofs.Ytgcbdekdjdlfaaa.Region (fill Then Deps Each wp_region_is wp_region_is_tail)

theorem FAt.ent {w : World} {p : Nat} {d : Dev} {bB cap : Nat} {wv : Value} {fz k : Nat} {E : List Ent} (h : FAt w p d bB cap wv fz E) (hk : k < E.length) : ∃ hl : k < d.wait.length, d.wait[k] = entW E[k] := by
  have hl : k < d.wait.length := by rw [← h.wlen]; exact hk
  refine ⟨hl, ?_⟩
  have e := h.ents
  have : d.wait[k]? = (E.map entW)[k]? := by rw [e]
  rw [List.getElem?_eq_getElem hl, List.getElem?_map, List.getElem?_eq_getElem hk] at this
  simpa using this
set_option maxRecDepth 100000 in
set_option maxHeartbeats 4000000 in
theorem atPendingAt_any {w : World} {p : Nat} {d : Dev} {bB cap : Nat} {wv : Value} {fz : Nat} {E : List Ent} (h : FAt w p d bB cap wv fz E) (hd : d.Ok) (q : Nat) :
    Calls Try.prog 54 #[ptr p, .int .i64 (q : Int)] w fun e w' => (∃ i : Nat, e = .returned (.tuple #[.int .i64 (i : Int), .bool (d.waits q)]) ∧ (d.waits q = true → ∃ hl : i < d.wait.length, (d.wait[i]).1 = q)) ∧ Below w.heap.size w w' := by
  obtain ⟨a, c, rfl⟩ := h.slice
  have c4 := h.var.cell (j := 4) rfl
  have hn := hd.wait_le
  have hw := h.wlen
  have HA := Lib.hid h
  unfold ptr
  clear h hd
  obtain ⟨L, hL⟩ : ∃ L, E.length = L := ⟨_, rfl⟩
  rw [hL] at c4 hw
  have HL := Lib.hid hL
  have HW := Lib.hid hw
  rw [← hw] at hn
  clear hL hw
  go_enter Try.func54, Try.ntmps54
  go_wp2
  go_loopw [13] (fun i wr => ∃ k : Nat, i = .int .i64 (k : Int) ∧ k ≤ L ∧ (d.wait.take k).any (fun x => decide (x.1 = q)) = false ∧ Below w.heap.size w wr) (fun i _ => L - (intOf i).toNat)
  case atStart => exact ⟨0, rfl, Nat.zero_le _, rfl, Below.refl _ _⟩
  case round =>
    obtain ⟨k, rfl, hk, hv, hB⟩ := hrel
    have HN := Lib.hid hv
    have HB := Lib.hid hB
    by_cases hlt : k < L
    · have hkE : k < E.length := by rw [HL.out]; exact hlt
      obtain ⟨hkl, hke⟩ := HA.out.ent hkE
      have hR := HA.out.below hB
      rw [HL.out] at hR
      obtain ⟨g, ha, e0, e1⟩ := hR.pend hkE
      subst ha
      have HT := Lib.hid (any_take (f := fun x => decide (x.1 = q)) hkl)
      have HH := Lib.hid (fun hf => any_hit (f := fun x => decide (x.1 = q)) hkl hf)
      have HKE := Lib.hid hke
      have HQ := Lib.hid (show ∃ hl : k < d.wait.length, (d.wait[k]'hl).1 = E[k].q from ⟨hkl, by rw [hke]; rfl⟩)
      have hb0 : g < wr.heap.size := block_lt_of_cell e0
      have d1 : decide ((k : Int) < (L : Int)) = true := by simp; omega
      have d2 : decide (k < L) = true := by simp; omega
      clear hv hB hke hR
      generalize hy : E[k] = y at *
      obtain ⟨yq, yb, yg, yc⟩ := y
      simp only at e0 e1
      clear hy
      by_cases he : yq = q
      · subst he
        have HE := Lib.hid (show d.waits yq = true from HH.out (by rw [HKE.out]; simp [entW]))
        clear HT HH HKE
        go_wp2
        go_ret2
        rw [HE.out]
        exact ⟨⟨k, rfl, fun _ => HQ.out⟩, HB.out.trans ((Geom.bel_alloc _ _).mono HB.out.size)⟩
      · have dq : ((yq : Int) == (q : Int)) = false := by simp; omega
        have dq2 : (yq == q) = false := by simp; omega
        have HK := Lib.hid (show (d.wait.take (k + 1)).any (fun x => decide (x.1 = q)) = false by rw [HT.out, HN.out, HKE.out, Bool.false_or]; exact decide_eq_false he)
        clear HT HH HKE HQ
        go_wp2
        refine ⟨⟨k + 1, by go_num, by omega, HK.out, HB.out.trans ((Geom.bel_alloc _ _).mono HB.out.size)⟩, by simp [intOf]; omega⟩
    · obtain rfl : k = L := by omega
      have d1 : decide ((k : Int) < (k : Int)) = false := by simp
      have HE := Lib.hid (show d.waits q = false by
        have := HN.out
        rw [List.take_of_length_le (by rw [HW.out]; exact Nat.le_refl _)] at this
        exact this)
      clear hv hB
      go_wp2
      go_ret2
      rw [HE.out]
      exact ⟨⟨0, rfl, fun e => Bool.noConfusion e⟩, HB.out⟩
/-- is one of these pages pending? -/
def Dev.anyOf (d : Dev) (F n : Nat) : Bool := d.wait.any fun x => decide (F ≤ x.1) && decide (x.1 < F + n)
theorem anyOf_zero (d : Dev) (F : Nat) : d.anyOf F 0 = false := by
  unfold Dev.anyOf
  rw [List.any_eq_false]
  intro x _; simp
theorem anyOf_succ (d : Dev) (F n : Nat) : d.anyOf F (n + 1) = (d.anyOf F n || d.waits (F + n)) := by
  unfold Dev.anyOf Dev.waits
  rw [Bool.eq_iff_iff]
  simp only [Bool.or_eq_true, List.any_eq_true, Bool.and_eq_true, decide_eq_true_eq]
  constructor
  · rintro ⟨x, hx, h1, h2⟩
    by_cases h : x.1 = F + n
    · exact .inr ⟨x, hx, h⟩
    · exact .inl ⟨x, hx, h1, by omega⟩
  · rintro (⟨x, hx, h1, h2⟩ | ⟨x, hx, h⟩)
    · exact ⟨x, hx, h1, by omega⟩
    · exact ⟨x, hx, by omega, by omega⟩
theorem anyOf_one (d : Dev) (q : Nat) : d.anyOf q 1 = d.waits q := by
  rw [anyOf_succ, anyOf_zero, Bool.false_or, Nat.add_zero]
theorem anyOf_mono {d : Dev} {F k n : Nat} (h : d.anyOf F k = true) (hk : k ≤ n) : d.anyOf F n = true := by
  unfold Dev.anyOf at h ⊢
  simp only [List.any_eq_true, Bool.and_eq_true, decide_eq_true_eq] at h ⊢
  obtain ⟨x, hx, h1, h2⟩ := h
  exact ⟨x, hx, h1, by omega⟩
set_option maxRecDepth 100000 in
set_option maxHeartbeats 4000000 in
theorem atAnyPending_any {w : World} {p : Nat} {d : Dev} {bB cap : Nat} {wv : Value} {fz : Nat} {E : List Ent} (h : FAt w p d bB cap wv fz E) (hd : d.Ok) (F n : Nat) (hF : F < 1000) (hn : n < 1000) :
    Calls Try.prog 46 #[ptr p, .int .i64 (F : Int), .int .i64 (n : Int)] w fun e w' => e = .returned (.bool (d.anyOf F n)) ∧ Below w.heap.size w w' := by
  have HP := Lib.hid (fun w' (hb : Below w.heap.size w w') q => atPendingAt_any (h.below hb) hd q)
  unfold ptr at HP ⊢
  clear h hd
  go_enter Try.func46, Try.ntmps46
  go_wp2
  go_loopw [11] (fun i wr => ∃ k : Nat, i = .int .i64 (k : Int) ∧ k ≤ n ∧ d.anyOf F k = false ∧ Below w.heap.size w wr) (fun i _ => n - (intOf i).toNat)
  case atStart => exact ⟨0, rfl, Nat.zero_le _, anyOf_zero _ _, Below.refl _ _⟩
  case round =>
    obtain ⟨k, rfl, hk, hv, hB⟩ := hrel
    have HB := Lib.hid hB
    have HS := Lib.hid (anyOf_succ d F k)
    rw [hv, Bool.false_or] at HS
    have HM := Lib.hid (fun h => anyOf_mono (d := d) (F := F) (k := k + 1) (n := n) h)
    have HQ := Lib.hid (HP.out wr hB (F + k))
    rw [show ((F + k : Nat) : Int) = (F : Int) + (k : Int) by omega] at HQ
    clear hB
    by_cases hlt : k < n
    · have d1 : decide ((k : Int) < (n : Int)) = true := by simp; omega
      have d2 : decide (k < n) = true := by simp; omega
      rcases hwt : d.waits (F + k) with _ | _
      · rw [hwt] at HS HQ
        clear hv hwt
        go_wp2_with (go_at_call 54; (with_reducible refine HQ.out.mono ?_); rintro e w3 ⟨⟨i, rfl, -⟩, hb3⟩)
        refine ⟨⟨k + 1, by go_num, by omega, HS.out, bel2 HB.out hb3⟩, by simp [intOf]; omega⟩
      · rw [hwt] at HS HQ
        have HE := Lib.hid (HM.out HS.out (by omega))
        clear hv hwt
        go_wp2_with (go_at_call 54; (with_reducible refine HQ.out.mono ?_); rintro e w3 ⟨⟨i, rfl, -⟩, hb3⟩)
        go_ret
        rw [HE.out]
        exact ⟨rfl, bel2 HB.out hb3⟩
    · obtain rfl : k = n := by omega
      have d1 : decide ((k : Int) < (k : Int)) = false := by simp
      have HE := Lib.hid hv
      clear hv
      go_wp2
      go_ret
      exact ⟨ret_bool HE.out.symm, HB.out⟩
theorem blankl_snoc (l : List UInt8) (k : Nat) (h : k < l.length) : blank (l.take (k + 1)) = (blank (l.take k) && (l[k] == 255)) := by
  rw [List.take_succ_eq_append_getElem h]
  simp only [blank, List.all_append, List.all_cons, List.all_nil, Bool.and_true]
theorem blankl_drop (l : List UInt8) (k : Nat) (h : k < l.length) (h2 : (l[k] == 255) = false) : blank l = false := by
  unfold blank
  rw [List.all_eq_false]
  exact ⟨l[k], List.getElem_mem h, by simpa using h2⟩
theorem cut_getElem {img : List UInt8} {P n k : Nat} (hk : k < n) (h : P + n ≤ img.length) : (cut img P n)[k]'(by rw [cut_length h]; exact hk) = img.getD (P + k) 0 := by
  unfold cut
  rw [List.getElem_take, List.getElem_drop, List.getD_eq_getElem?_getD, List.getElem?_eq_getElem (by omega)]; rfl
set_option maxRecDepth 100000 in
set_option maxHeartbeats 4000000 in
theorem isBlank_any {w : World} {B : Nat} {img : List UInt8} (h : Row8 w B img) (P n cap : Nat) (hl : P + n ≤ img.length) (hn : img.length < 100000) :
    Calls Try.prog 47 #[.slice (some ⟨B, P, none⟩) n cap] w fun e w' => e = .returned (.bool (blank (cut img P n))) ∧ w = w' := by
  have HR := Lib.hid h
  have HC := Lib.hid (cut_length hl)
  clear h
  go_enter Try.func47, Try.ntmps47
  go_wp2
  go_loop [7] (fun i => ∃ k : Nat, k ≤ n ∧ i = .int .i64 (k : Int) ∧ blank ((cut img P n).take k) = true) (fun i => n - (intOf i).toNat)
  case atStart => exact ⟨0, Nat.zero_le _, rfl, rfl⟩
  case round =>
    obtain ⟨k, hk, rfl, hbl⟩ := hrel
    by_cases hlt : k < n
    · have d1 : decide ((k : Int) < (n : Int)) = true := by simp; omega
      have d2 : decide (k < n) = true := by simp; omega
      have hkl : k < (cut img P n).length := by rw [HC.out]; exact hlt
      have e0 := (HR.out (P + k) (by omega)).1
      rw [← cut_getElem hlt hl] at e0
      have HS := Lib.hid (blankl_snoc (cut img P n) k hkl)
      have HD := Lib.hid (blankl_drop (cut img P n) k hkl)
      rw [hbl] at HS
      clear hbl
      generalize (cut img P n)[k] = c at *
      cases hc : (c == 255) with
      | true =>
        have q : ((c.toNat : Int) != 255) = false := by simp only [beq_iff_eq] at hc; rw [hc]; rfl
        have q2 : ((c.toNat : Int) == 255) = true := by simp only [beq_iff_eq] at hc; rw [hc]; rfl
        rw [hc] at HS
        clear hc HD
        go_wp2
        go_round
        case rel => exact ⟨k + 1, by omega, by go_num, by rw [HS.out]; rfl⟩
        case measure => simp [intOf]; omega
      | false =>
        have q2 : ((c.toNat : Int) == 255) = false := by
          simp only [beq_eq_false_iff_ne, ne_eq] at hc ⊢
          intro h
          have : c.toNat = 255 := by omega
          exact hc (UInt8.toNat_inj.1 this)
        have q : ((c.toNat : Int) != 255) = true := by simp only [bne, q2]; rfl
        have HE := Lib.hid (HD.out hc)
        clear hc HS HD
        go_wp2
        go_ret
        exact ⟨by rw [HE.out]; rfl, rfl⟩
    · obtain rfl : k = n := by omega
      have d1 : decide ((k : Int) < (k : Int)) = false := by simp
      have HE := Lib.hid (show blank (cut img P k) = true by rw [List.take_of_length_le (by rw [HC.out]; exact Nat.le_refl _)] at hbl; exact hbl)
      clear hbl
      go_wp2
      go_ret
      exact ⟨by rw [HE.out]; rfl, rfl⟩
theorem over_rep_snoc {img : List UInt8} {P k : Nat} (c : UInt8) (hP : P + k < img.length) : (over img P (List.replicate k c)).set (P + k) c = over img P (List.replicate (k + 1) c) := by
  have := over_snoc (img := img) (b := List.replicate (k + 1) c) (P := P) (k := k) (by simp) hP
  simp only [List.getElem_replicate, List.take_replicate] at this
  rwa [Nat.min_eq_left (by omega), Nat.min_eq_left (by omega)] at this
set_option maxRecDepth 100000 in
set_option maxHeartbeats 4000000 in
theorem wipe_any {w : World} {B : Nat} {img : List UInt8} (h : Row8 w B img) (P n cap : Nat) (hl : P + n ≤ img.length) (hn : img.length < 100000) :
    Calls Try.prog 56 #[.slice (some ⟨B, P, none⟩) n cap] w fun e w' => e = .returned (.tuple #[]) ∧ Row8 w' B (over img P (List.replicate n 255)) ∧ Grows (· = B) w w' := by
  have HR := Lib.hid (show Row8 w B (over img P (List.replicate 0 255)) by rw [List.replicate_zero, over_nil]; exact h)
  clear h
  go_enter Try.func56, Try.ntmps56
  go_wp2
  go_loopw [5] (fun i wr => ∃ k : Nat, k ≤ n ∧ i = .int .i64 (k : Int) ∧ Row8 wr B (over img P (List.replicate k 255)) ∧ Grows (· = B) w wr) (fun i _ => n - (intOf i).toNat)
  case atStart => exact ⟨0, Nat.zero_le _, rfl, HR.out, Grows.refl _ _⟩
  case round =>
    obtain ⟨k, hk, rfl, hR, hG⟩ := hrel
    have HGr := Lib.hid hG
    clear HR hG
    by_cases hlt : k < n
    · have hL : (over img P (List.replicate k (255 : UInt8))).length = img.length := over_length (by rw [List.length_replicate]; omega)
      have hPk : P + k < (over img P (List.replicate k (255 : UInt8))).length := by rw [hL]; omega
      obtain ⟨e0, e1⟩ := hR (P + k) hPk
      have HS := Lib.hid (hR.set (P + k) 255 hPk)
      rw [over_rep_snoc 255 (by omega)] at HS
      have HG := Lib.hid (HGr.out.trans (Grows.set (S := (· = B)) wr ⟨B, P + k, none⟩ (.int .u8 ((255 : UInt8).toNat : Int)) rfl) (fun _ h => .inl h))
      have d1 : decide ((k : Int) < (n : Int)) = true := by simp; omega
      have d2 : decide (k < n) = true := by simp; omega
      rw [show (((255 : UInt8).toNat : Int)) = 255 from rfl] at HS HG
      generalize (over img P (List.replicate k (255 : UInt8))).getD (P + k) 0 = u at *
      clear hR hL hPk
      go_wp2
      exact ⟨⟨k + 1, by omega, by go_num, HS.out, HG.out⟩, by simp [intOf]; omega⟩
    · obtain rfl : k = n := by omega
      have d1 : decide ((k : Int) < (k : Int)) = false := by simp
      have HE := Lib.hid hR
      clear hR
      go_wp2
      refine bodyPost_end (results_none rfl _ _ _) rfl ?_
      exact ⟨rfl, HE.out, HGr.out⟩
set_option maxRecDepth 100000 in
set_option maxHeartbeats 4000000 in
theorem blanks_any (n : Nat) (hn : n < 100000) (w : World) :
    Calls Try.prog 36 #[.int .i64 (n : Int)] w fun e w' => (∃ g c, e = .returned (.slice (some ⟨g, 0, none⟩) n c) ∧ n ≤ c ∧ Row8 w' g (List.replicate n 255) ∧ w.heap.size ≤ g ∧ g < w'.heap.size) ∧ Below w.heap.size w w' := by
  obtain ⟨i0, hi, hz0, hz1, hz2⟩ := info_parts info8
  obtain ⟨w1, hmk, hown, hgr⟩ := run_makeSlice_full (P := Try.prog) w w.heap.size 61 5 i0 _ 1 Try.underlying61 hi hz0 hz1 .i64 .i64 n (by omega) (by rw [hz2]; omega) (by simp only [maxLen]; omega) (Nat.le_refl _)
  have HW := Lib.hid (wipe_any (Row8.of_make hown) 0 n n (by simp) (by simp; omega))
  have HB1 := Lib.hid (below_make hgr)
  have HO := Lib.hid (show over (List.replicate n (0 : UInt8)) 0 (List.replicate n 255) = List.replicate n 255 by simp [over])
  have HLT := Lib.hid (show w.heap.size < w1.heap.size from Flash.owns_lt hown rfl)
  clear hown hgr hi hz0 hz1 hz2
  go_enter Try.func36, Try.ntmps36
  go_wp2_with (go_at_call 56; (with_reducible refine HW.out.mono ?_); rintro e w3 ⟨rfl, hr3, hg3⟩)
  go_ret
  rw [HO.out] at hr3
  refine ⟨⟨_, _, rfl, Nat.le_refl _, hr3, Nat.le_refl _, Nat.lt_of_lt_of_le HLT.out hg3.size⟩, ?_⟩
  exact HB1.out.trans (hg3.below HB1.out.size (by rintro k rfl; exact Nat.le_refl _))
end Go.Proofs.Ytgcbdekdjdlfaaa.Flash
