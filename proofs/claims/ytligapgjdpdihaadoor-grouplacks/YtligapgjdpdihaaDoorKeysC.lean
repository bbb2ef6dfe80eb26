/-
  What package keys answers of two texts: Common, Cmp, for every two texts.
-/
import Derived.Test.YtligapgjdpdihaaDoorRunKeysA
import Derived.Test.YtligapgjdpdihaaDoorRunRuneMath
import Derived.Test.YtligapgjdpdihaaDoorRunShelf
set_option linter.unusedVariables false
set_option linter.unusedSimpArgs false
namespace Go.Proofs.YtligapgjdpdihaaDoor.Keys
open Go.RowKit
open RuneM RefRune Own RefKeys

/-- the library's two tables, as its text lays them -/
def Tabs (w : World) : Prop := Lib.Utf8Tabs 0 1 w
theorem Tabs.below {w w' : World} (h : Tabs w) (hb : Below w.heap.size w w') : Tabs w' := Utf8Tabs_below h hb

theorem split_at (s : ByteArray) (q : Nat) (h : q ≤ s.size) : s = s.extract 0 q ++ s.extract q s.size := by
  rw [ByteArray.ext_iff]
  simp
theorem dec_tail (s : ByteArray) (q : Nat) (h : q < s.size) : Utf8.decode (s.extract q s.size) 0 = Utf8.decode s q := by
  have e := split_at s q (by omega)
  have hq : (s.extract 0 q).size = q := by simp; omega
  have := dec_right (s.extract 0 q) (s.extract q s.size) 0 (by simp; omega)
  rw [← e, hq] at this
  rw [← this]; rfl
theorem tail_tail (s : ByteArray) (q k : Nat) : (s.extract q s.size).extract k (s.extract q s.size).size = s.extract (q + k) s.size := by
  rw [ByteArray.ext_iff]
  simp
  congr 1
  omega
theorem go_tail (s : ByteArray) (q : Nat) (h : q < s.size) : Lib.decodeGo (s.extract q s.size) = Utf8.decode s q := by
  unfold Lib.decodeGo
  rw [if_neg (by simp; omega), dec_tail s q h]
theorem go_end (s : ByteArray) (q : Nat) (h : ¬ q < s.size) : Lib.decodeGo (s.extract q s.size) = (65533, 0) := by
  unfold Lib.decodeGo
  rw [if_pos (by simp; omega)]
theorem none_left (s : ByteArray) (q : Nat) (h : ¬ q < s.size) : s.extract q s.size = ⟨#[]⟩ := by
  rw [ByteArray.ext_iff]; simp; omega

/-- how far two texts are alike -/
structure Alike (a b : ByteArray) (p q : Nat) (da db : List (Nat × Nat)) : Prop where
  a : Part a p da
  b : Part b q db
  same : da.map (·.1) = db.map (·.1)
theorem Alike.len {a b : ByteArray} {p q : Nat} {da db : List (Nat × Nat)} (h : Alike a b p q da db) : da.length = db.length := by
  have := congrArg List.length h.same; simpa using this
theorem Alike.next {a b : ByteArray} {p q : Nat} {da db : List (Nat × Nat)} (h : Alike a b p q da db) (ha : p < a.size) (hb : q < b.size) (he : (Utf8.decode a p).1 = (Utf8.decode b q).1) :
    Alike a b (p + (Utf8.decode a p).2) (q + (Utf8.decode b q).2) (da ++ [Utf8.decode a p]) (db ++ [Utf8.decode b q]) :=
  ⟨h.a.next ha, h.b.next hb, by simp [h.same, he]⟩
/-- and there they part -/
def Ends (a b : ByteArray) (p q : Nat) : Prop := p < a.size → q < b.size → (Utf8.decode a p).1 ≠ (Utf8.decode b q).1
theorem common_append (x u v : List Nat) : common (x ++ u) (x ++ v) = x.length + common u v := by
  induction x with
  | nil => simp
  | cons a x ih => simp [common, ih]; omega
theorem cmpL_append (x u v : List Nat) : cmpL (x ++ u) (x ++ v) = cmpL u v := by
  induction x with
  | nil => rfl
  | cons a x ih => simp [cmpL, ih]
theorem Alike.nums {a b : ByteArray} {p q : Nat} {da db : List (Nat × Nat)} (h : Alike a b p q da db) : RuneM.nums a = da.map (·.1) ++ (rest a p).map (·.1) ∧ RuneM.nums b = da.map (·.1) ++ (rest b q).map (·.1) := by
  unfold RuneM.nums
  rw [h.a.all, h.b.all, h.same]; simp [h.same]
theorem Alike.common {a b : ByteArray} {p q : Nat} {da db : List (Nat × Nat)} (h : Alike a b p q da db) (he : Ends a b p q) : RuneM.common (RuneM.nums a) (RuneM.nums b) = da.length := by
  obtain ⟨h1, h2⟩ := h.nums
  rw [h1, h2, common_append]
  by_cases ha : p < a.size
  · by_cases hb : q < b.size
    · rw [rest_cons a p ha, rest_cons b q hb]
      simp [RuneM.common, he ha hb]
    · rw [rest_end b q (by omega)]; simp [common_nil_right]
  · rw [rest_end a p (by omega)]; simp [common_nil_left]
theorem Alike.cmp {a b : ByteArray} {p q : Nat} {da db : List (Nat × Nat)} (h : Alike a b p q da db) (he : Ends a b p q) :
    cmpS a b = if p < a.size then (if q < b.size then (if (Utf8.decode a p).1 < (Utf8.decode b q).1 then -1 else 1) else 1) else (if q < b.size then -1 else 0) := by
  unfold cmpS
  obtain ⟨h1, h2⟩ := h.nums
  rw [h1, h2, cmpL_append]
  by_cases ha : p < a.size
  · by_cases hb : q < b.size
    · rw [rest_cons a p ha, rest_cons b q hb]
      simp [cmpL, he ha hb, ha, hb]
    · rw [rest_end b q (by omega), rest_cons a p ha]; simp [cmpL, ha, hb]
  · by_cases hb : q < b.size
    · rw [rest_end a p (by omega), rest_cons b q hb]; simp [cmpL, ha, hb]
    · rw [rest_end a p (by omega), rest_end b q (by omega)]; simp [cmpL, ha, hb]

/-- what part answers -/
def PartSays (a b : ByteArray) (w : World) (e : Ending) (w' : World) : Prop :=
  ∃ p q da db, e = .returned (.tuple #[.int .i64 (da.length : Int), .string (a.extract p a.size), .string (b.extract q b.size)]) ∧ Alike a b p q da db ∧ Ends a b p q ∧ Below w.heap.size w w'
theorem iter_next {w wr w2 : World} {s : ByteArray} {pos pos' : Nat} (hi : wr.heap[w.heap.size]? = some (.stringIter s pos)) (hn : Below (wr.iterAt w.heap.size s pos').heap.size (wr.iterAt w.heap.size s pos') w2) :
    w2.heap[w.heap.size]? = some (.stringIter s pos') := by
  have hlt : w.heap.size < wr.heap.size := (Array.getElem?_eq_some_iff.1 hi).1
  rw [hn.block w.heap.size (by rw [Lib.iterAt_size]; exact hlt)]
  exact Lib.iterAt_heap wr _ s pos pos' hi
set_option maxHeartbeats 1000000 in
theorem part_any (a b : ByteArray) (ha : a.size ≤ lim) (hb : b.size ≤ lim) (w : World) (hT : Tabs w) : Calls Tryd.prog 97 #[.string a, .string b] w (PartSays a b w) := by
  unfold lim at ha hb
  go_enter Tryd.func97, Tryd.ntmps97
  go_wp2
  go_loopw [1, 7] (fun x n wr => ∃ (p q : Nat) (da db : List (Nat × Nat)), wr.heap[w.heap.size]? = some (.stringIter a p) ∧ x = .string (b.extract q b.size) ∧ n = .int .i64 (da.length : Int) ∧ Alike a b p q da db ∧ Below w.heap.size w wr) (fun _ _ wr => a.size - wr.iterPos w.heap.size)
  case atStart => exact ⟨0, 0, [], [], World.iter_heap w a 0, by simp, rfl, ⟨Part.start a, Part.start b, rfl⟩, iter_below w a 0⟩
  case round =>
    obtain ⟨p, q, da, db, hi, rfl, rfl, hA, hB⟩ := hrel
    have hT2 := hT.below hB
    have hT3 : Tabs (wr.iterAt w.heap.size a (p + (Utf8.decode a p).2)) := hT.below (Lib.below_iterAt hB (Nat.le_refl _) _ _)
    have hl := hA.a.length
    by_cases hp : p < a.size
    · have hw := dec_width a p hp
      have hnx : ∀ ty, (Instr.next (.pointer (some ⟨w.heap.size, 0, none⟩)) true ty).run Tryd.prog wr = _ := fun ty => Lib.run_next_any_at wr w.heap.size a p ty hi hp
      have HD := Lib.hid (fun w (h : Tabs w) => Tryd.utf8_DecodeRuneInString (b.extract q b.size) w h)
      have hBel := Lib.hid (Lib.below_iterAt hB (Nat.le_refl _) a (p + (Utf8.decode a p).2))
      have hNX := Lib.hid (fun w2 h => iter_next (w := w) (pos' := p + (Utf8.decode a p).2) (w2 := w2) hi h)
      by_cases hq : q < b.size
      · rw [go_tail b q hq] at HD
        have hw2 := dec_width b q hq
        have hz : (b.extract q b.size).size = b.size - q := by simp
        have hTT := Lib.hid (tail_tail b q (Utf8.decode b q).2)
        have hAn := Lib.hid (hA.next hp hq)
        have hAA := Lib.hid hA
        by_cases he : (Utf8.decode a p).1 = (Utf8.decode b q).1
        · have he' : (((Utf8.decode a p).1 : Int) != ((Utf8.decode b q).1 : Int)) = false := by simp [he]
          have hAn := Lib.hid (hAn.out he)
          have w0 : (((Utf8.decode b q).2 : Int) == 0) = false := by simp; omega
          clear hA he hB
          generalize hx : b.extract q b.size = t at *
          generalize Utf8.decode b q = db1 at *
          generalize Utf8.decode a p = da1 at *
          go_wp2_with (go_at_call 99; (with_reducible refine (HD.out _ hT3).mono ?_); rintro e w2 ⟨rfl, hn⟩; have hB2 := hBel.out.trans (hn.mono (by rw [Lib.iterAt_size]; have := hBel.out.size; rw [Lib.iterAt_size] at this; exact this)); have hi2 := hNX.out w2 hn; clear hn)
          go_roundw
          case rel => exact ⟨_, _, _, _, hi2, by rw [← hz, hTT.out], by simp, hAn.out, hB2⟩
          case measure => simp only [World.iterPos, hi2, hi]; omega
        · have he' : (((Utf8.decode a p).1 : Int) != ((Utf8.decode b q).1 : Int)) = true := by simp; omega
          have hEn : Hid (Ends a b p q) := fun _ _ => he
          have w0 : (((Utf8.decode b q).2 : Int) == 0) = false := by simp; omega
          have hpz : p ≤ a.size := by omega
          clear hA he hB hAn hTT
          generalize hx : b.extract q b.size = t at HD
          generalize Utf8.decode b q = db1 at HD he' w0
          generalize Utf8.decode a p = da1 at hT3 hnx hBel hNX he'
          go_wp2_with (go_at_call 99; (with_reducible refine (HD.out _ hT3).mono ?_); rintro e w2 ⟨rfl, hn⟩; have hB2 := hBel.out.trans (hn.mono (by rw [Lib.iterAt_size]; have := hBel.out.size; rw [Lib.iterAt_size] at this; exact this)); have hi2 := hNX.out w2 hn; clear hn)
          go_region
          go_wp2
          go_ret3
          subst hx
          exact ⟨p, q, da, db, rfl, hAA.out, hEn.out, hB2.drew⟩
      · rw [go_end b q hq] at HD
        have hEn : Hid (Ends a b p q) := fun _ h => absurd h hq
        have hAA := Lib.hid hA
        have hpz : p ≤ a.size := by omega
        clear hA hB
        generalize hx : b.extract q b.size = t at HD
        generalize Utf8.decode a p = da1 at hT3 hnx hBel hNX
        go_wp2_with (go_at_call 99; (with_reducible refine (HD.out _ hT3).mono ?_); rintro e w2 ⟨rfl, hn⟩; have hB2 := hBel.out.trans (hn.mono (by rw [Lib.iterAt_size]; have := hBel.out.size; rw [Lib.iterAt_size] at this; exact this)); have hi2 := hNX.out w2 hn; clear hn)
        go_region
        go_wp2
        go_ret3
        subst hx
        exact ⟨p, q, da, db, rfl, hAA.out, hEn.out, hB2.drew⟩
    · have hnx : ∀ ty, (Instr.next (.pointer (some ⟨w.heap.size, 0, none⟩)) true ty).run Tryd.prog wr = _ := fun ty => Lib.run_next_end_at wr w.heap.size a p ty hi hp
      have hEn : Hid (Ends a b p q) := fun h => absurd h hp
      have hAA := Lib.hid hA
      have hE := Lib.hid (none_left a p hp)
      clear hA
      go_wp2
      go_ret3
      exact ⟨p, q, da, db, by rw [hE.out]; rfl, hAA.out, hEn.out, hB⟩

theorem compare_any (x y : Nat) (w : World) : Calls Tryd.prog 100 #[.int .i32 (x : Int), .int .i32 (y : Int)] w fun e w' => e = .returned (.int .i64 (if x < y then -1 else if y < x then 1 else 0)) ∧ w' = w := by
  have n1 : ((x : Int) != (x : Int)) = false := by simp
  have n2 : ((y : Int) != (y : Int)) = false := by simp
  by_cases h : x < y
  · have d : decide ((x : Int) < (y : Int)) = true := by simp; omega
    rw [if_pos h]
    go_enter Tryd.func100, Tryd.ntmps100
    go_wp2
    go_ret
    exact ⟨rfl, rfl⟩
  · have d : decide ((x : Int) < (y : Int)) = false := by simp; omega
    rw [if_neg h]
    by_cases h2 : y < x
    · have d : decide ((y : Int) < (x : Int)) = true := by simp; omega
      rw [if_pos h2]
      go_enter Tryd.func100, Tryd.ntmps100
      go_wp2
      go_ret
      exact ⟨rfl, rfl⟩
    · have d : decide ((y : Int) < (x : Int)) = false := by simp; omega
      rw [if_neg h2]
      go_enter Tryd.func100, Tryd.ntmps100
      go_wp2
      go_ret
      exact ⟨rfl, rfl⟩
theorem cmpS_dec {a b : ByteArray} {p q : Nat} {da db : List (Nat × Nat)} (h : Alike a b p q da db) (he : Ends a b p q) (ha : p < a.size) (hb : q < b.size) :
    (if (Lib.decodeGo (a.extract p a.size)).1 < (Lib.decodeGo (b.extract q b.size)).1 then (-1 : Int) else if (Lib.decodeGo (b.extract q b.size)).1 < (Lib.decodeGo (a.extract p a.size)).1 then 1 else 0) = cmpS a b := by
  rw [go_tail a p ha, go_tail b q hb, h.cmp he, if_pos ha, if_pos hb]
  have := he ha hb
  split
  · rfl
  · rw [if_pos (by omega)]
theorem cmpS_len {a b : ByteArray} {p q : Nat} {da db : List (Nat × Nat)} (h : Alike a b p q da db) (he : Ends a b p q) (hx : ¬ p < a.size ∨ ¬ q < b.size) :
    Lib.compareInt ((a.extract p a.size).size : Int) ((b.extract q b.size).size : Int) = cmpS a b := by
  rw [h.cmp he]
  have := h.a.le
  have := h.b.le
  unfold Lib.compareInt
  simp only [ByteArray.size_extract, Nat.min_self]
  by_cases ha : p < a.size
  · have hb : ¬ q < b.size := by omega
    rw [if_pos ha, if_neg hb, if_neg (by omega), if_pos (by omega)]
  · rw [if_neg ha]
    by_cases hb : q < b.size
    · rw [if_pos hb, if_pos (by omega)]
    · rw [if_neg hb, if_neg (by omega), if_neg (by omega)]
theorem empty_is (s : ByteArray) (q : Nat) : (s.extract q s.size).toList.isEmpty = decide (¬ q < s.size) := by
  rw [ByteArray.toList_eq, Bool.eq_iff_iff]
  simp
  omega
set_option maxHeartbeats 1000000 in
theorem cmp_any (a b : ByteArray) (ha : a.size ≤ lim) (hb : b.size ≤ lim) (w : World) (hT : Tabs w) : Calls Tryd.prog 83 #[.string a, .string b] w fun e w' => e = .returned (.int .i64 (cmpS a b)) ∧ Below w.heap.size w w' := by
  have HP := Lib.hid (part_any a b ha hb w hT)
  go_enter Tryd.func83, Tryd.ntmps83
  go_wp2_with fail
  go_at_call 97
  with_reducible refine HP.out.mono ?_
  rintro e w2 ⟨p, q, da, db, rfl, hA, hE, hn⟩
  have z1 := empty_is a p
  have z2 := empty_is b q
  have hT2 := hT.below hn
  have H1 := Lib.hid (fun w (h : Tabs w) => Tryd.utf8_DecodeRuneInString (a.extract p a.size) w h)
  have H2 := Lib.hid (fun w (h : Tabs w) => Tryd.utf8_DecodeRuneInString (b.extract q b.size) w h)
  have hl := Lib.hid (cmpS_len hA hE)
  have hd := Lib.hid (cmpS_dec hA hE)
  clear hA hE
  generalize a.extract p a.size = ta at *
  generalize b.extract q b.size = tb at *
  by_cases h1 : p < a.size
  · rw [decide_eq_false (by simp [h1])] at z1
    by_cases h2 : q < b.size
    · rw [decide_eq_false (by simp [h2])] at z2
      have H3 : Hid (∀ w, Calls Tryd.prog 100 #[.int .i32 ((Lib.decodeGo ta).1 : Int), .int .i32 ((Lib.decodeGo tb).1 : Int)] w fun e w' => e = .returned (.int .i64 (cmpS a b)) ∧ w' = w) := by
        intro w
        have := compare_any (Lib.decodeGo ta).1 (Lib.decodeGo tb).1 w
        rw [hd.out h1 h2] at this
        exact this
      clear hd hl
      generalize hc : cmpS a b = c at H3
      have hc := Lib.hid hc
      generalize Lib.decodeGo ta = xa at *
      generalize Lib.decodeGo tb = xb at *
      go_wp2_with (first
        | (go_at_call 99; (with_reducible refine (H1.out _ hT2).mono ?_); rintro e w3 ⟨rfl, hn3⟩; have hn4 := hn.trans (hn3.mono hn.size); have hT3 := hT2.below hn3; clear hn3 H1)
        | (go_at_call 99; (with_reducible refine (H2.out _ hT3).mono ?_); rintro e w5 ⟨rfl, hn5⟩; have hn6 := hn4.trans (hn5.mono hn4.size); clear hn5 H2)
        | (go_at_call 100; (with_reducible refine (H3.out _).mono ?_); rintro e w7 ⟨rfl, rfl⟩))
      go_ret
      exact ⟨by rw [hc.out]; rfl, hn6⟩
    · rw [decide_eq_true (by simp [h2])] at z2
      have hl := Lib.hid (hl.out (.inr h2))
      go_wp2_with (go_at_call 98; (with_reducible refine (Tryd.cmp_Compare_int _ _ _).mono ?_); rintro e w7 ⟨rfl, rfl⟩)
      go_ret
      exact ⟨by rw [← hl.out]; rfl, hn⟩
  · rw [decide_eq_true (by simp [h1])] at z1
    have hl := Lib.hid (hl.out (.inl h1))
    go_wp2_with (go_at_call 98; (with_reducible refine (Tryd.cmp_Compare_int _ _ _).mono ?_); rintro e w7 ⟨rfl, rfl⟩)
    go_ret
    exact ⟨by rw [← hl.out]; rfl, hn⟩
end Go.Proofs.YtligapgjdpdihaaDoor.Keys
