/-
  Cmp and order of package keys, once more: what they answer, and that they only lay memory of their own and draw.
-/
import Derived.Test.YtjbgiolcfammkaaDoorKeysDec
import Derived.Test.YtjbgiolcfammkaaDoorSortMath
namespace Go.Proofs.YtjbgiolcfammkaaDoor.Keys
open Go.RowKit
open RuneM RefRune Own RefKeys
open Go.Lib (decodeGo)

set_option maxHeartbeats 1000000 in
set_option maxRecDepth 1000000 in
theorem dec_any (s : ByteArray) (w : World) (hT : Tabs w) : Calls Tryd.prog 50 #[.string s] w (Said s w) := by
  have cS := Lib.hid (slow_any s w hT)
  by_cases h0 : s.size = 0
  · have hne : s.toList.isEmpty = true := by
      rw [ByteArray.toList_eq, List.isEmpty_iff, ← List.length_eq_zero_iff]; exact h0
    go_enter Tryd.func50, Tryd.ntmps50
    go_wp2_with (go_at_call 67; (with_reducible refine cS.out.mono ?_); rintro e w2 ⟨rfl, hg⟩)
    go_ret2
    exact ⟨rfl, hg⟩
  · have hne : s.toList.isEmpty = false := by
      rw [ByteArray.toList_eq]
      cases h : s.data.toList with
      | nil => exact absurd (List.length_eq_zero_iff.2 h) h0
      | cons _ _ => rfl
    have hz0 : (0 : Int) < (s.size : Int) := by omega
    obtain ⟨x0, hx0⟩ : ∃ x0, s.get! 0 = x0 := ⟨_, rfl⟩
    have hs0 : s[0]'(by omega) = x0 := by rw [← hx0]; exact (get_bang s 0 (by omega)).symm
    by_cases ha : x0.toNat < 128
    · have haz : (x0.toNat : Int) < 128 := by omega
      have hd := Lib.hid (show decodeGo s = (x0.toNat, 1) by
        unfold decodeGo; rw [if_neg h0, Lib.decode_at, hx0]; simp [Lib.decodeN, ha])
      go_enter Tryd.func50, Tryd.ntmps50
      go_wp2
      go_ret2
      exact ⟨by rw [hd.out]; rfl, Grew.refl _⟩
    · have haz : ¬ ((x0.toNat : Int) < 128) := by omega
      go_enter Tryd.func50, Tryd.ntmps50
      go_wp2_with (go_at_call 67; (with_reducible refine cS.out.mono ?_); rintro e w2 ⟨rfl, hg⟩)
      go_ret2
      exact ⟨rfl, hg⟩
theorem dec_flat (s : ByteArray) (w : World) (hT : Tabs w) : Calls Tryd.prog 50 #[.string s] w fun e w' => e = .returned (.tuple #[.int .i32 (decodeGo s).1, .int .i64 (decodeGo s).2]) ∧ Grew w w' := dec_any s w hT

def PartSays2 (a b : ByteArray) (w : World) (e : Ending) (w' : World) : Prop :=
  ∃ p q da db, e = .returned (.tuple #[.int .i64 (da.length : Int), .string (a.extract p a.size), .string (b.extract q b.size)]) ∧ Alike a b p q da db ∧ Ends a b p q ∧ Grew w w'
theorem grew_iter (w : World) (s : ByteArray) (pos : Nat) : Grew w (w.iter s pos) := ⟨iter_below w s pos, Nat.le_refl _⟩
theorem grew_iterAt {w wr : World} (h : Grew w wr) (s : ByteArray) (pos : Nat) : Grew w (wr.iterAt w.heap.size s pos) := ⟨Lib.below_iterAt h.below (Nat.le_refl _) s pos, h.drawn⟩
set_option maxHeartbeats 1000000 in
theorem part_grew (a b : ByteArray) (ha : a.size ≤ lim) (hb : b.size ≤ lim) (w : World) (hT : Tabs w) : Calls Tryd.prog 48 #[.string a, .string b] w (PartSays2 a b w) := by
  unfold lim at ha hb
  go_enter Tryd.func48, Tryd.ntmps48
  go_wp2
  go_loopw [1, 7] (fun x n wr => ∃ (p q : Nat) (da db : List (Nat × Nat)), wr.heap[w.heap.size]? = some (.stringIter a p) ∧ x = .string (b.extract q b.size) ∧ n = .int .i64 (da.length : Int) ∧ Alike a b p q da db ∧ Grew w wr) (fun _ _ wr => a.size - wr.iterPos w.heap.size)
  case atStart => exact ⟨0, 0, [], [], World.iter_heap w a 0, by simp, rfl, ⟨Part.start a, Part.start b, rfl⟩, grew_iter w a 0⟩
  case round =>
    obtain ⟨p, q, da, db, hi, rfl, rfl, hA, hB⟩ := hrel
    have hT2 := hT.below hB.below
    have hT3 : Tabs (wr.iterAt w.heap.size a (p + (Utf8.decode a p).2)) := hT.below (grew_iterAt hB _ _).below
    have hl := hA.a.length
    by_cases hp : p < a.size
    · have hw := dec_width a p hp
      have hnx : ∀ ty, (Instr.next (.pointer (some ⟨w.heap.size, 0, none⟩)) true ty).run Tryd.prog wr = _ := fun ty => Lib.run_next_any_at wr w.heap.size a p ty hi hp
      have HD := Lib.hid (fun w (h : Tabs w) => dec_flat (b.extract q b.size) w h)
      have hBel := Lib.hid (grew_iterAt hB a (p + (Utf8.decode a p).2))
      have hNX := Lib.hid (fun w2 h => iter_next (w := w) (pos' := p + (Utf8.decode a p).2) (w2 := w2) hi h)
      by_cases hq : q < b.size
      · rw [go_tail b q hq] at HD
        have hw2 := dec_width b q hq
        have hz : (b.extract q b.size).size = b.size - q := by simp
        have hTT := Lib.hid (tail_tail b q (Utf8.decode b q).2)
        have hAn := Lib.hid (hA.next hp hq)
        have hAA := Lib.hid hA
        by_cases he : (Utf8.decode a p).1 = (Utf8.decode b q).1
        · have he' : (((Utf8.decode a p).1 : Int) != ((Utf8.decode b q).1 : Int)) = false := by simp [he]
          have hAn := Lib.hid (hAn.out he)
          have w0 : (((Utf8.decode b q).2 : Int) == 0) = false := by simp; omega
          clear hA he hB
          generalize hx : b.extract q b.size = t at *
          generalize Utf8.decode b q = db1 at *
          generalize Utf8.decode a p = da1 at *
          go_wp2_with (go_at_call 50; (with_reducible refine (HD.out _ hT3).mono ?_); rintro e w2 ⟨rfl, hn⟩; have hB2 := hBel.out.trans hn; have hi2 := hNX.out w2 hn.below; clear hn)
          go_roundw
          case rel => exact ⟨_, _, _, _, hi2, by rw [← hz, hTT.out], by simp, hAn.out, hB2⟩
          case measure => simp only [World.iterPos, hi2, hi]; omega
        · have he' : (((Utf8.decode a p).1 : Int) != ((Utf8.decode b q).1 : Int)) = true := by simp; omega
          have hEn : Hid (Ends a b p q) := fun _ _ => he
          have w0 : (((Utf8.decode b q).2 : Int) == 0) = false := by simp; omega
          have hpz : p ≤ a.size := by omega
          clear hA he hB hAn hTT
          generalize hx : b.extract q b.size = t at HD
          generalize Utf8.decode b q = db1 at HD he' w0
          generalize Utf8.decode a p = da1 at hT3 hnx hBel hNX he'
          go_wp2_with (go_at_call 50; (with_reducible refine (HD.out _ hT3).mono ?_); rintro e w2 ⟨rfl, hn⟩; have hB2 := hBel.out.trans hn; have hi2 := hNX.out w2 hn.below; clear hn)
          go_region
          go_wp2
          go_ret3
          subst hx
          exact ⟨p, q, da, db, rfl, hAA.out, hEn.out, hB2.drew⟩
      · rw [go_end b q hq] at HD
        have hEn : Hid (Ends a b p q) := fun _ h => absurd h hq
        have hAA := Lib.hid hA
        have hpz : p ≤ a.size := by omega
        clear hA hB
        generalize hx : b.extract q b.size = t at HD
        generalize Utf8.decode a p = da1 at hT3 hnx hBel hNX
        go_wp2_with (go_at_call 50; (with_reducible refine (HD.out _ hT3).mono ?_); rintro e w2 ⟨rfl, hn⟩; have hB2 := hBel.out.trans hn; have hi2 := hNX.out w2 hn.below; clear hn)
        go_region
        go_wp2
        go_ret3
        subst hx
        exact ⟨p, q, da, db, rfl, hAA.out, hEn.out, hB2.drew⟩
    · have hnx : ∀ ty, (Instr.next (.pointer (some ⟨w.heap.size, 0, none⟩)) true ty).run Tryd.prog wr = _ := fun ty => Lib.run_next_end_at wr w.heap.size a p ty hi hp
      have hEn : Hid (Ends a b p q) := fun h => absurd h hp
      have hAA := Lib.hid hA
      have hE := Lib.hid (none_left a p hp)
      clear hA
      go_wp2
      go_ret3
      exact ⟨p, q, da, db, by rw [hE.out]; rfl, hAA.out, hEn.out, hB⟩

set_option maxHeartbeats 1000000 in
theorem cmp_grew (a b : ByteArray) (ha : a.size ≤ lim) (hb : b.size ≤ lim) (w : World) (hT : Tabs w) : Calls Tryd.prog 29 #[.string a, .string b] w fun e w' => e = .returned (.int .i64 (cmpS a b)) ∧ Grew w w' := by
  have HP := Lib.hid (part_grew a b ha hb w hT)
  go_enter Tryd.func29, Tryd.ntmps29
  go_wp2_with fail
  go_at_call 48
  with_reducible refine HP.out.mono ?_
  rintro e w2 ⟨p, q, da, db, rfl, hA, hE, hn⟩
  have z1 := empty_is a p
  have z2 := empty_is b q
  have hT2 := hT.below hn.below
  have H1 := Lib.hid (fun w (h : Tabs w) => dec_flat (a.extract p a.size) w h)
  have H2 := Lib.hid (fun w (h : Tabs w) => dec_flat (b.extract q b.size) w h)
  have hl := Lib.hid (cmpS_len hA hE)
  have hd := Lib.hid (cmpS_dec hA hE)
  clear hA hE
  generalize a.extract p a.size = ta at *
  generalize b.extract q b.size = tb at *
  by_cases h1 : p < a.size
  · rw [decide_eq_false (by simp [h1])] at z1
    by_cases h2 : q < b.size
    · rw [decide_eq_false (by simp [h2])] at z2
      have H3 : Hid (∀ w, Calls Tryd.prog 51 #[.int .i32 ((Lib.decodeGo ta).1 : Int), .int .i32 ((Lib.decodeGo tb).1 : Int)] w fun e w' => e = .returned (.int .i64 (cmpS a b)) ∧ w' = w) := by
        intro w
        have := compare_any (Lib.decodeGo ta).1 (Lib.decodeGo tb).1 w
        rw [hd.out h1 h2] at this
        exact this
      clear hd hl
      generalize hc : cmpS a b = c at H3
      have hc := Lib.hid hc
      generalize Lib.decodeGo ta = xa at *
      generalize Lib.decodeGo tb = xb at *
      go_wp2_with (first
        | (go_at_call 50; (with_reducible refine (H1.out _ hT2).mono ?_); rintro e w3 ⟨rfl, hn3⟩; have hn4 := hn.trans hn3; have hT3 := hT2.below hn3.below; clear hn3 H1)
        | (go_at_call 50; (with_reducible refine (H2.out _ hT3).mono ?_); rintro e w5 ⟨rfl, hn5⟩; have hn6 := hn4.trans hn5; clear hn5 H2)
        | (go_at_call 51; (with_reducible refine (H3.out _).mono ?_); rintro e w7 ⟨rfl, rfl⟩))
      go_ret
      exact ⟨by rw [hc.out]; rfl, hn6⟩
    · rw [decide_eq_true (by simp [h2])] at z2
      have hl := Lib.hid (hl.out (.inr h2))
      go_wp2_with (go_at_call 49; (with_reducible refine (Tryd.cmp_Compare_int _ _ _).mono ?_); rintro e w7 ⟨rfl, rfl⟩)
      go_ret
      exact ⟨by rw [← hl.out]; rfl, hn⟩
  · rw [decide_eq_true (by simp [h1])] at z1
    have hl := Lib.hid (hl.out (.inl h1))
    go_wp2_with (go_at_call 49; (with_reducible refine (Tryd.cmp_Compare_int _ _ _).mono ?_); rintro e w7 ⟨rfl, rfl⟩)
    go_ret
    exact ⟨by rw [← hl.out]; rfl, hn⟩
end Go.Proofs.YtjbgiolcfammkaaDoor.Keys
