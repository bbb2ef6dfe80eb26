/-
  The landed device: Read, Program, Rot.
-/
import Derived.Test.YtgcbdekdjdlfaaaFlashXb
set_option linter.unusedVariables false
set_option linter.unusedSimpArgs false
namespace Go.Proofs.Ytgcbdekdjdlfaaa.Flash
open Go.RowKit
open Go.Proofs.Ytgcbdekdjdlfaaa.Own
open Tup Bytes Foot
open Go.Proofs.Ytgcbdekdjdlfaaa.Region (fill Then Deps Each wp_region_is wp_region_is_tail)

theorem waits_at {d : Dev} {q : Nat} (h : d.waits q = true) : ∃ i, ∃ hl : i < d.wait.length, (d.wait[i]'hl).1 = q := by
  unfold Dev.waits at h
  obtain ⟨x, hx, hq⟩ := List.any_eq_true.1 h
  obtain ⟨i, hl, rfl⟩ := List.getElem_of_mem hx
  exact ⟨i, hl, by simpa using hq⟩
theorem at_one {d : Dev} (hd : d.Ok) {i j : Nat} (hi : i < d.wait.length) (hj : j < d.wait.length) (e : (d.wait[i]).1 = (d.wait[j]).1) : i = j := by
  have hn := hd.once
  have hi' : i < (d.wait.map (·.1)).length := by simpa using hi
  have hj' : j < (d.wait.map (·.1)).length := by simpa using hj
  exact (List.getElem_inj (h₀ := hi') (h₁ := hj') hn).1 (by simpa using e)
theorem foldl_miss (q : Nat) : ∀ (l : List (Nat × List UInt8)) (s : List UInt8), (∀ x ∈ l, x.1 ≠ q) → l.foldl (fun s x => if x.1 = q then x.2 else s) s = s
  | [], _, _ => rfl
  | x :: r, s, h => by rw [List.foldl_cons, if_neg (h x (List.mem_cons_self ..))]; exact foldl_miss q r s (fun y hy => h y (List.mem_cons_of_mem _ hy))
theorem foldl_hit (q : Nat) (b : List UInt8) : ∀ (l : List (Nat × List UInt8)) (s : List UInt8), (l.map (·.1)).Nodup → (q, b) ∈ l → l.foldl (fun s x => if x.1 = q then x.2 else s) s = b
  | [], _, _, h => by simp at h
  | x :: r, s, hn, h => by
    rw [List.map_cons, List.nodup_cons] at hn
    rw [List.foldl_cons]
    rcases List.mem_cons.1 h with rfl | hr
    · rw [if_pos rfl]
      exact foldl_miss q r b (fun y hy e => hn.1 (List.mem_map.2 ⟨y, hy, e⟩))
    · exact foldl_hit q b r _ hn.2 hr
theorem held_at {d : Dev} (hd : d.Ok) {i : Nat} (hl : i < d.wait.length) : d.held (d.wait[i]).1 = (d.wait[i]).2 := by
  unfold Dev.held
  exact foldl_hit _ _ _ _ hd.once (List.getElem_mem hl)
theorem held_off {d : Dev} {q : Nat} (h : d.waits q = false) : d.held q = cut d.img (q * d.pg) d.pg := by
  unfold Dev.held
  refine foldl_miss q _ _ (fun x hx e => ?_)
  exact waits_not h (List.mem_map.2 ⟨x, hx, e⟩)
theorem atPending_hit {w : World} {p : Nat} {d : Dev} {bB cap : Nat} {wv : Value} {fz : Nat} {E : List Ent} (h : FAt w p d bB cap wv fz E) (hd : d.Ok) (q i : Nat) (hl : i < d.wait.length) (hq : (d.wait[i]).1 = q) :
    Calls Try.prog 54 #[ptr p, .int .i64 (q : Int)] w fun e w' => e = .returned (.tuple #[.int .i64 (i : Int), .bool true]) ∧ Below w.heap.size w w' := by
  refine (atPendingAt_any h hd q).mono ?_
  rintro e w' ⟨⟨j, rfl, hj⟩, hb⟩
  have ht : d.waits q = true := any_hit (f := fun x : Nat × List UInt8 => decide (x.1 = q)) hl (by simpa using hq)
  obtain ⟨hl', hq'⟩ := hj ht
  have : j = i := at_one hd hl' hl (by rw [hq', hq])
  subst this
  rw [ht]
  exact ⟨rfl, hb⟩
set_option maxRecDepth 100000 in
set_option maxHeartbeats 4000000 in
theorem atRead_any {w : World} {p : Nat} {d : Dev} {bB cap : Nat} {wv : Value} {fz : Nat} {E : List Ent} (h : FAt w p d bB cap wv fz E) (hd : d.Ok) (q : Int) :
    Calls Try.prog 29 #[ptr p, .int .i64 q] w fun e w' => e = .returned (.tuple #[.string (bs (readD d q).1), .int .i64 ((readD d q).2 : Int)]) ∧ Below w.heap.size w w' := by
  have HD := Lib.hid (fun w' (hb : Below w.heap.size w w') => atDown_any (h.below hb))
  have HH := Lib.hid (fun w' (hb : Below w.heap.size w w') q => atHas_any (h.below hb) hd q)
  unfold ptr at HD HH ⊢
  rcases hdn : d.down with _ | _
  · rw [hdn] at HD
    rcases hh : d.has q with _ | _
    · have HHq := Lib.hid (fun w' hb => HH.out w' hb q)
      rw [hh] at HHq
      have HE := Lib.hid (show readD d q = ([], 1) by unfold readD; rw [hdn, hh]; rfl)
      clear h hd hdn hh HH
      go_enter Try.func29, Try.ntmps29
      go_wp2_with (first
        | (go_at_call 23; (with_reducible refine (HD.out _ (Below.refl _ _)).mono ?_); rintro e w3 ⟨rfl, rfl⟩)
        | (go_at_call 45; (with_reducible refine (HHq.out _ (Below.refl _ _)).mono ?_); rintro e w4 ⟨rfl, hb4⟩))
      go_ret2
      rw [HE.out]
      exact ⟨rfl, hb4⟩
    · obtain ⟨i1, i2⟩ := has_lt hh
      obtain ⟨k, rfl⟩ : ∃ k : Nat, q = (k : Int) := ⟨q.toNat, by omega⟩
      rw [Int.toNat_natCast] at i1
      have HHq := Lib.hid (fun w' hb => HH.out w' hb (k : Int))
      rw [hh] at HHq
      have HE := Lib.hid (show readD d k = (d.held k, 0) by unfold readD; rw [hdn, hh, Int.toNat_natCast]; rfl)
      rcases hw : d.waits k with _ | _
      · have HP := Lib.hid (fun w' (hb : Below w.heap.size w w') => atPendingAt_any (h.below hb) hd k)
        rw [hw] at HP
        have HS := Lib.hid (fun w' (hb : Below w.heap.size w w') => atStands_any (h.below hb) hd k i1)
        unfold ptr at HP HS
        have HTX := Lib.hid (fun wx (hb : Below w.heap.size w wx) => text8 (h.below hb).row (k * d.pg) d.pg (cap - k * d.pg) (hd.page i1))
        rw [held_off hw] at HE
        clear h hd hdn hh HH i1 i2 hw
        go_enter Try.func29, Try.ntmps29
        go_wp2_with (first
          | (go_at_call 23; (with_reducible refine (HD.out _ (Below.refl _ _)).mono ?_); rintro e w3 ⟨rfl, rfl⟩)
          | (go_at_call 45; (with_reducible refine (HHq.out _ (Below.refl _ _)).mono ?_); rintro e w4 ⟨rfl, hb4⟩)
          | (go_at_call 54; (with_reducible refine (HP.out _ hb4).mono ?_); rintro e w5 ⟨⟨i, rfl, -⟩, hb5⟩)
          | (go_at_call 48; (with_reducible refine (HS.out _ (bel2 hb4 hb5)).mono ?_); rintro e w6 ⟨rfl, k6, rfl⟩; have htx := HTX.out _ (bel2 (bel2 hb4 hb5) (below_drewN _ k6))))
        go_ret2
        rw [HE.out]
        exact ⟨rfl, bel2 (bel2 hb4 hb5) (below_drewN _ _)⟩
      · obtain ⟨i, hl, hq⟩ := waits_at hw
        have HP := Lib.hid (fun w' (hb : Below w.heap.size w w') => atPending_hit (h.below hb) hd k i hl hq)
        unfold ptr at HP
        have hiE : i < E.length := by rw [h.wlen]; exact hl
        obtain ⟨hl2, hie⟩ := h.ent hiE
        have hkb : d.held k = E[i].b := by rw [← hq, held_at hd hl, hie]; rfl
        rw [hkb] at HE
        obtain ⟨a, c, rfl⟩ := h.slice
        obtain ⟨g, rfl, f0, f1⟩ := h.pend hiE
        have hgl := block_lt_of_cell f1
        have c4 := h.var.cell (j := 4) rfl
        have hpl := h.var.lt
        have hrw := h.rows E[i] (List.getElem_mem hiE)
        obtain ⟨L, hL⟩ : ∃ L, E.length = L := ⟨_, rfl⟩
        obtain ⟨yq, yb, yg, yc, hy⟩ : ∃ yq yb yg yc, E[i] = ⟨yq, yb, yg, yc⟩ := ⟨_, _, _, _, rfl⟩
        rw [hy] at f1 hrw HE
        rw [hL] at c4 hiE
        simp only at f1 hrw HE
        have HTX := Lib.hid (fun wx (hb : Below w.heap.size w wx) => (hrw.1.below hb).text (P := Try.prog) 61 9 5 yc Try.underlying61 Try.underlying5 Try.underlying9 yb.length rfl)
        have HC4 := Lib.hid (fun wx (hb : Below w.heap.size w wx) => hb.cell (p := ⟨p, 4, none⟩) hpl |>.trans c4)
        have HF1 := Lib.hid (fun wx (hb : Below w.heap.size w wx) => hb.cell (p := ⟨g, i * 2 + 1, none⟩) hgl |>.trans f1)
        have hiL : (i : Int) < (L : Int) := by omega
        clear h hd hdn hh HH i1 i2 hw hq hkb hie hl2 hl hy f0 hrw hL
        go_enter Try.func29, Try.ntmps29
        go_wp2_with (first
          | (go_at_call 23; (with_reducible refine (HD.out _ (Below.refl _ _)).mono ?_); rintro e w3 ⟨rfl, rfl⟩)
          | (go_at_call 45; (with_reducible refine (HHq.out _ (Below.refl _ _)).mono ?_); rintro e w4 ⟨rfl, hb4⟩)
          | (go_at_call 54; (with_reducible refine (HP.out _ hb4).mono ?_); rintro e w5 ⟨rfl, hb5⟩; have d4 := HC4.out _ (bel2 hb4 hb5); have g1 := HF1.out _ (bel2 hb4 hb5); have htx := HTX.out _ (bel2 hb4 hb5)))
        go_ret2
        rw [HE.out]
        exact ⟨rfl, bel2 hb4 hb5⟩
  · rw [hdn] at HD
    have HE := Lib.hid (show readD d q = ([], 6) by unfold readD; rw [hdn]; rfl)
    clear h hd hdn HH
    go_enter Try.func29, Try.ntmps29
    go_wp2_with (go_at_call 23; (with_reducible refine (HD.out _ (Below.refl _ _)).mono ?_); rintro e w3 ⟨rfl, rfl⟩)
    go_ret2
    rw [HE.out]
    exact ⟨rfl, Below.refl _ _⟩
end Go.Proofs.Ytgcbdekdjdlfaaa.Flash
