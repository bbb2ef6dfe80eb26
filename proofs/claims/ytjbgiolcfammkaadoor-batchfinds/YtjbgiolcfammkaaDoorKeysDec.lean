/-
  Go's decoding of a text's first rune: what it answers, and that it draws nothing and only lays memory of its own.
-/
import Derived.Test.YtjbgiolcfammkaaDoorKeysC
import Derived.Lib.QuietBelow
namespace Go.Proofs.YtjbgiolcfammkaaDoor.Keys
open Go.RowKit
open RuneM RefRune Own RefKeys
open Go.Lib (firstT accLo accHi slowN decodeN decodeGo)

/-- nothing that was there has turned, and the tape has gone on -/
structure Grew (w w' : World) : Prop where
  below : Below w.heap.size w w'
  drawn : w.drawn ≤ w'.drawn
theorem Grew.refl (w : World) : Grew w w := ⟨Below.refl _ _, Nat.le_refl _⟩
theorem Grew.trans {a b c : World} (h : Grew a b) (k : Grew b c) : Grew a c := ⟨h.below.trans (k.below.mono h.below.size), Nat.le_trans h.drawn k.drawn⟩
theorem Grew.alloc (w : World) (o : Obj) : Grew w (w.alloc o) := ⟨(Below.refl _ _).alloc (Nat.le_refl _) _, Nat.le_refl _⟩
theorem Grew.drew {a w : World} (h : Grew a w) : Grew a w.drew := ⟨h.below.drew, Nat.le_succ_of_le h.drawn⟩
theorem Grew.grow {w w' : World} (h : Grew w w') : ∃ q os, w' = Sort.grow (w.drewN q) os := by
  obtain ⟨p, hp⟩ := regrown_of_below h.below
  have hd : w'.drawn = p.d := by rw [hp]; rfl
  have h2 := h.drawn
  refine ⟨w'.drawn - w.drawn, p.os, ?_⟩
  rw [hp]
  unfold redrawn World.drewN
  congr 2
  simp only [Sort.grow]
  omega

def Said (s : ByteArray) (w : World) (e : Ending) (w' : World) : Prop := e = .returned (.tuple #[.int .i32 (decodeGo s).1, .int .i64 (decodeGo s).2]) ∧ Grew w w'
theorem leaf {a b c d : Int} (h1 : a = c) (h2 : b = d) : Ending.returned (.tuple #[.int .i32 a, .int .i64 b]) = .returned (.tuple #[.int .i32 c, .int .i64 d]) := by rw [h1, h2]

set_option maxHeartbeats 4000000 in
set_option maxRecDepth 1000000 in
theorem slow_any (s : ByteArray) (w : World) (hT : Tabs w) : Calls Tryd.prog 67 #[.string s] w (Said s w) := by
  by_cases h0 : s.size = 0
  · have hz : (s.size : Int) < 1 := by omega
    have hd := Lib.hid (show decodeGo s = (65533, 0) by unfold decodeGo; rw [if_pos h0])
    go_enter Tryd.func67, Tryd.ntmps67
    go_wp2
    go_ret2
    exact ⟨by rw [hd.out]; rfl, Grew.refl _⟩
  have hz0 : (0 : Int) < (s.size : Int) := by omega
  have hz0' : ¬ ((s.size : Int) < 1) := by omega
  obtain ⟨x0, hx0⟩ : ∃ x0, s.get! 0 = x0 := ⟨_, rfl⟩
  obtain ⟨x1, hx1⟩ : ∃ x1, s.get! 1 = x1 := ⟨_, rfl⟩
  obtain ⟨x2, hx2⟩ : ∃ x2, s.get! 2 = x2 := ⟨_, rfl⟩
  obtain ⟨x3, hx3⟩ : ∃ x3, s.get! 3 = x3 := ⟨_, rfl⟩
  have hs0 : s[0]'(by omega) = x0 := by rw [← hx0]; exact (get_bang s 0 (by omega)).symm
  have l0 := x0.toNat_lt; have l1 := x1.toNat_lt; have l2 := x2.toNat_lt; have l3 := x3.toNat_lt
  have hdec : decodeGo s = decodeN s.size x0.toNat x1.toNat x2.toNat x3.toNat := by
    unfold decodeGo
    rw [if_neg h0, Lib.decode_at, Nat.sub_zero, hx0, hx1, hx2, hx3]
  have hc0 := hT.1 x0.toNat (by omega)
  have hres : firstT x0.toNat < 240 → decodeGo s = slowN s.size x0.toNat x1.toNat x2.toNat x3.toNat (firstT x0.toNat % 8) (accLo (firstT x0.toNat / 16)) (accHi (firstT x0.toNat / 16)) :=
    fun h => by rw [hdec]; exact (Lib.slow_eq _ _ _ _ _ (by omega) (by omega) (by omega) (by omega) h).symm
  rcases Lib.firstT_cases x0.toNat with hX | hX | hX | hX | hX | hX | hX | hX | hX
  · have hd := Lib.hid (show decodeGo s = (x0.toNat, 1) by rw [hdec, Lib.ascii_eq _ _ _ _ _ hX])
    rw [hX] at hc0
    clear hres hT hX hdec
    go_enter Tryd.func67, Tryd.ntmps67
    go_wp2
    rw [Utf8W.mask240, Utf8W.keep_byte ⟨x0.toNat, l0⟩]
    go_ret2
    exact ⟨by rw [hd.out]; rfl, Grew.refl _⟩
  · have hd := Lib.hid (show decodeGo s = (65533, 1) by rw [hdec, Lib.bad_eq _ _ _ _ _ (by omega) hX])
    rw [hX] at hc0
    clear hres hT hX hdec
    go_enter Tryd.func67, Tryd.ntmps67
    go_wp2
    rw [Utf8W.mask241, Utf8W.drop_byte ⟨x0.toNat, l0⟩]
    go_ret2
    exact ⟨by rw [hd.out]; rfl, Grew.refl _⟩
  all_goals replace hres := hres (by omega)
  · rw [hX] at hc0 hres
    have ha0 := (hT.2 0 (by omega)).1
    have ha1 := (hT.2 0 (by omega)).2
    simp only [accLo, accHi, Nat.reduceMul, Nat.reduceAdd, Nat.reduceEqDiff, if_true, if_false, Nat.reduceMod, Nat.reduceDiv] at ha0 ha1 hres
    have hd := Lib.hid hres
    clear hres hT hX hdec
    by_cases hn : s.size < 2
    · have hnz : (s.size : Int) < 2 := by omega
      go_enter Tryd.func67, Tryd.ntmps67
      go_wp2
      all_goals
        go_ret2
        unfold Said
        rw [hd.out]
        unfold slowN
        repeat' split
        all_goals first
          | (exfalso; omega)
          | exact ⟨rfl, Grew.alloc _ _⟩
          | exact ⟨leaf (by simp only [Int.natCast_add, Int.natCast_mul, Int.natCast_emod, Int.natCast_ofNat]) rfl, Grew.alloc _ _⟩
          | exact ⟨leaf (by omega) rfl, Grew.alloc _ _⟩
    · have hnz : ¬ (s.size : Int) < 2 := by omega
      have hz1 : (1 : Int) < (s.size : Int) := by omega
      have hs1 : s[1]'(by omega) = x1 := by rw [← hx1]; exact (get_bang s 1 (by omega)).symm
      go_enter Tryd.func67, Tryd.ntmps67
      go_wp2
      all_goals
        go_ret2
        unfold Said
        rw [hd.out]
        unfold slowN
        repeat' split
        all_goals first
          | (exfalso; omega)
          | exact ⟨rfl, Grew.alloc _ _⟩
          | exact ⟨leaf (by simp only [Int.natCast_add, Int.natCast_mul, Int.natCast_emod, Int.natCast_ofNat]) rfl, Grew.alloc _ _⟩
          | exact ⟨leaf (by omega) rfl, Grew.alloc _ _⟩
  · rw [hX] at hc0 hres
    have ha0 := (hT.2 1 (by omega)).1
    have ha1 := (hT.2 1 (by omega)).2
    simp only [accLo, accHi, Nat.reduceMul, Nat.reduceAdd, Nat.reduceEqDiff, if_true, if_false, Nat.reduceMod, Nat.reduceDiv] at ha0 ha1 hres
    have hd := Lib.hid hres
    clear hres hT hX hdec
    by_cases hn : s.size < 3
    · have hnz : (s.size : Int) < 3 := by omega
      go_enter Tryd.func67, Tryd.ntmps67
      go_wp2
      all_goals
        go_ret2
        unfold Said
        rw [hd.out]
        unfold slowN
        repeat' split
        all_goals first
          | (exfalso; omega)
          | exact ⟨rfl, Grew.alloc _ _⟩
          | exact ⟨leaf (by simp only [Int.natCast_add, Int.natCast_mul, Int.natCast_emod, Int.natCast_ofNat]) rfl, Grew.alloc _ _⟩
          | exact ⟨leaf (by omega) rfl, Grew.alloc _ _⟩
    · have hnz : ¬ (s.size : Int) < 3 := by omega
      have hz1 : (1 : Int) < (s.size : Int) := by omega
      have hs1 : s[1]'(by omega) = x1 := by rw [← hx1]; exact (get_bang s 1 (by omega)).symm
      have hz2 : (2 : Int) < (s.size : Int) := by omega
      have hs2 : s[2]'(by omega) = x2 := by rw [← hx2]; exact (get_bang s 2 (by omega)).symm
      go_enter Tryd.func67, Tryd.ntmps67
      go_wp2
      all_goals
        go_ret2
        unfold Said
        rw [hd.out]
        unfold slowN
        repeat' split
        all_goals first
          | (exfalso; omega)
          | exact ⟨rfl, Grew.alloc _ _⟩
          | exact ⟨leaf (by simp only [Int.natCast_add, Int.natCast_mul, Int.natCast_emod, Int.natCast_ofNat]) rfl, Grew.alloc _ _⟩
          | exact ⟨leaf (by omega) rfl, Grew.alloc _ _⟩
  · rw [hX] at hc0 hres
    have ha0 := (hT.2 0 (by omega)).1
    have ha1 := (hT.2 0 (by omega)).2
    simp only [accLo, accHi, Nat.reduceMul, Nat.reduceAdd, Nat.reduceEqDiff, if_true, if_false, Nat.reduceMod, Nat.reduceDiv] at ha0 ha1 hres
    have hd := Lib.hid hres
    clear hres hT hX hdec
    by_cases hn : s.size < 3
    · have hnz : (s.size : Int) < 3 := by omega
      go_enter Tryd.func67, Tryd.ntmps67
      go_wp2
      all_goals
        go_ret2
        unfold Said
        rw [hd.out]
        unfold slowN
        repeat' split
        all_goals first
          | (exfalso; omega)
          | exact ⟨rfl, Grew.alloc _ _⟩
          | exact ⟨leaf (by simp only [Int.natCast_add, Int.natCast_mul, Int.natCast_emod, Int.natCast_ofNat]) rfl, Grew.alloc _ _⟩
          | exact ⟨leaf (by omega) rfl, Grew.alloc _ _⟩
    · have hnz : ¬ (s.size : Int) < 3 := by omega
      have hz1 : (1 : Int) < (s.size : Int) := by omega
      have hs1 : s[1]'(by omega) = x1 := by rw [← hx1]; exact (get_bang s 1 (by omega)).symm
      have hz2 : (2 : Int) < (s.size : Int) := by omega
      have hs2 : s[2]'(by omega) = x2 := by rw [← hx2]; exact (get_bang s 2 (by omega)).symm
      go_enter Tryd.func67, Tryd.ntmps67
      go_wp2
      all_goals
        go_ret2
        unfold Said
        rw [hd.out]
        unfold slowN
        repeat' split
        all_goals first
          | (exfalso; omega)
          | exact ⟨rfl, Grew.alloc _ _⟩
          | exact ⟨leaf (by simp only [Int.natCast_add, Int.natCast_mul, Int.natCast_emod, Int.natCast_ofNat]) rfl, Grew.alloc _ _⟩
          | exact ⟨leaf (by omega) rfl, Grew.alloc _ _⟩
  · rw [hX] at hc0 hres
    have ha0 := (hT.2 2 (by omega)).1
    have ha1 := (hT.2 2 (by omega)).2
    simp only [accLo, accHi, Nat.reduceMul, Nat.reduceAdd, Nat.reduceEqDiff, if_true, if_false, Nat.reduceMod, Nat.reduceDiv] at ha0 ha1 hres
    have hd := Lib.hid hres
    clear hres hT hX hdec
    by_cases hn : s.size < 3
    · have hnz : (s.size : Int) < 3 := by omega
      go_enter Tryd.func67, Tryd.ntmps67
      go_wp2
      all_goals
        go_ret2
        unfold Said
        rw [hd.out]
        unfold slowN
        repeat' split
        all_goals first
          | (exfalso; omega)
          | exact ⟨rfl, Grew.alloc _ _⟩
          | exact ⟨leaf (by simp only [Int.natCast_add, Int.natCast_mul, Int.natCast_emod, Int.natCast_ofNat]) rfl, Grew.alloc _ _⟩
          | exact ⟨leaf (by omega) rfl, Grew.alloc _ _⟩
    · have hnz : ¬ (s.size : Int) < 3 := by omega
      have hz1 : (1 : Int) < (s.size : Int) := by omega
      have hs1 : s[1]'(by omega) = x1 := by rw [← hx1]; exact (get_bang s 1 (by omega)).symm
      have hz2 : (2 : Int) < (s.size : Int) := by omega
      have hs2 : s[2]'(by omega) = x2 := by rw [← hx2]; exact (get_bang s 2 (by omega)).symm
      go_enter Tryd.func67, Tryd.ntmps67
      go_wp2
      all_goals
        go_ret2
        unfold Said
        rw [hd.out]
        unfold slowN
        repeat' split
        all_goals first
          | (exfalso; omega)
          | exact ⟨rfl, Grew.alloc _ _⟩
          | exact ⟨leaf (by simp only [Int.natCast_add, Int.natCast_mul, Int.natCast_emod, Int.natCast_ofNat]) rfl, Grew.alloc _ _⟩
          | exact ⟨leaf (by omega) rfl, Grew.alloc _ _⟩
  · rw [hX] at hc0 hres
    have ha0 := (hT.2 3 (by omega)).1
    have ha1 := (hT.2 3 (by omega)).2
    simp only [accLo, accHi, Nat.reduceMul, Nat.reduceAdd, Nat.reduceEqDiff, if_true, if_false, Nat.reduceMod, Nat.reduceDiv] at ha0 ha1 hres
    have hd := Lib.hid hres
    clear hres hT hX hdec
    by_cases hn : s.size < 4
    · have hnz : (s.size : Int) < 4 := by omega
      go_enter Tryd.func67, Tryd.ntmps67
      go_wp2
      all_goals
        go_ret2
        unfold Said
        rw [hd.out]
        unfold slowN
        repeat' split
        all_goals first
          | (exfalso; omega)
          | exact ⟨rfl, Grew.alloc _ _⟩
          | exact ⟨leaf (by simp only [Int.natCast_add, Int.natCast_mul, Int.natCast_emod, Int.natCast_ofNat]) rfl, Grew.alloc _ _⟩
          | exact ⟨leaf (by omega) rfl, Grew.alloc _ _⟩
    · have hnz : ¬ (s.size : Int) < 4 := by omega
      have hz1 : (1 : Int) < (s.size : Int) := by omega
      have hs1 : s[1]'(by omega) = x1 := by rw [← hx1]; exact (get_bang s 1 (by omega)).symm
      have hz2 : (2 : Int) < (s.size : Int) := by omega
      have hs2 : s[2]'(by omega) = x2 := by rw [← hx2]; exact (get_bang s 2 (by omega)).symm
      have hz3 : (3 : Int) < (s.size : Int) := by omega
      have hs3 : s[3]'(by omega) = x3 := by rw [← hx3]; exact (get_bang s 3 (by omega)).symm
      go_enter Tryd.func67, Tryd.ntmps67
      go_wp2
      all_goals
        go_ret2
        unfold Said
        rw [hd.out]
        unfold slowN
        repeat' split
        all_goals first
          | (exfalso; omega)
          | exact ⟨rfl, Grew.alloc _ _⟩
          | exact ⟨leaf (by simp only [Int.natCast_add, Int.natCast_mul, Int.natCast_emod, Int.natCast_ofNat]) rfl, Grew.alloc _ _⟩
          | exact ⟨leaf (by omega) rfl, Grew.alloc _ _⟩
  · rw [hX] at hc0 hres
    have ha0 := (hT.2 0 (by omega)).1
    have ha1 := (hT.2 0 (by omega)).2
    simp only [accLo, accHi, Nat.reduceMul, Nat.reduceAdd, Nat.reduceEqDiff, if_true, if_false, Nat.reduceMod, Nat.reduceDiv] at ha0 ha1 hres
    have hd := Lib.hid hres
    clear hres hT hX hdec
    by_cases hn : s.size < 4
    · have hnz : (s.size : Int) < 4 := by omega
      go_enter Tryd.func67, Tryd.ntmps67
      go_wp2
      all_goals
        go_ret2
        unfold Said
        rw [hd.out]
        unfold slowN
        repeat' split
        all_goals first
          | (exfalso; omega)
          | exact ⟨rfl, Grew.alloc _ _⟩
          | exact ⟨leaf (by simp only [Int.natCast_add, Int.natCast_mul, Int.natCast_emod, Int.natCast_ofNat]) rfl, Grew.alloc _ _⟩
          | exact ⟨leaf (by omega) rfl, Grew.alloc _ _⟩
    · have hnz : ¬ (s.size : Int) < 4 := by omega
      have hz1 : (1 : Int) < (s.size : Int) := by omega
      have hs1 : s[1]'(by omega) = x1 := by rw [← hx1]; exact (get_bang s 1 (by omega)).symm
      have hz2 : (2 : Int) < (s.size : Int) := by omega
      have hs2 : s[2]'(by omega) = x2 := by rw [← hx2]; exact (get_bang s 2 (by omega)).symm
      have hz3 : (3 : Int) < (s.size : Int) := by omega
      have hs3 : s[3]'(by omega) = x3 := by rw [← hx3]; exact (get_bang s 3 (by omega)).symm
      go_enter Tryd.func67, Tryd.ntmps67
      go_wp2
      all_goals
        go_ret2
        unfold Said
        rw [hd.out]
        unfold slowN
        repeat' split
        all_goals first
          | (exfalso; omega)
          | exact ⟨rfl, Grew.alloc _ _⟩
          | exact ⟨leaf (by simp only [Int.natCast_add, Int.natCast_mul, Int.natCast_emod, Int.natCast_ofNat]) rfl, Grew.alloc _ _⟩
          | exact ⟨leaf (by omega) rfl, Grew.alloc _ _⟩
  · rw [hX] at hc0 hres
    have ha0 := (hT.2 4 (by omega)).1
    have ha1 := (hT.2 4 (by omega)).2
    simp only [accLo, accHi, Nat.reduceMul, Nat.reduceAdd, Nat.reduceEqDiff, if_true, if_false, Nat.reduceMod, Nat.reduceDiv] at ha0 ha1 hres
    have hd := Lib.hid hres
    clear hres hT hX hdec
    by_cases hn : s.size < 4
    · have hnz : (s.size : Int) < 4 := by omega
      go_enter Tryd.func67, Tryd.ntmps67
      go_wp2
      all_goals
        go_ret2
        unfold Said
        rw [hd.out]
        unfold slowN
        repeat' split
        all_goals first
          | (exfalso; omega)
          | exact ⟨rfl, Grew.alloc _ _⟩
          | exact ⟨leaf (by simp only [Int.natCast_add, Int.natCast_mul, Int.natCast_emod, Int.natCast_ofNat]) rfl, Grew.alloc _ _⟩
          | exact ⟨leaf (by omega) rfl, Grew.alloc _ _⟩
    · have hnz : ¬ (s.size : Int) < 4 := by omega
      have hz1 : (1 : Int) < (s.size : Int) := by omega
      have hs1 : s[1]'(by omega) = x1 := by rw [← hx1]; exact (get_bang s 1 (by omega)).symm
      have hz2 : (2 : Int) < (s.size : Int) := by omega
      have hs2 : s[2]'(by omega) = x2 := by rw [← hx2]; exact (get_bang s 2 (by omega)).symm
      have hz3 : (3 : Int) < (s.size : Int) := by omega
      have hs3 : s[3]'(by omega) = x3 := by rw [← hx3]; exact (get_bang s 3 (by omega)).symm
      go_enter Tryd.func67, Tryd.ntmps67
      go_wp2
      all_goals
        go_ret2
        unfold Said
        rw [hd.out]
        unfold slowN
        repeat' split
        all_goals first
          | (exfalso; omega)
          | exact ⟨rfl, Grew.alloc _ _⟩
          | exact ⟨leaf (by simp only [Int.natCast_add, Int.natCast_mul, Int.natCast_emod, Int.natCast_ofNat]) rfl, Grew.alloc _ _⟩
          | exact ⟨leaf (by omega) rfl, Grew.alloc _ _⟩
end Go.Proofs.YtjbgiolcfammkaaDoor.Keys
