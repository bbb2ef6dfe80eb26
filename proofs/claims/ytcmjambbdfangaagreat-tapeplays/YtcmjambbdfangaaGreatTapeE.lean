/-
  The document's tape: Erase; its calls, its device's and its account's, as the laws ask them.
-/
import Derived.Test.YtcmjambbdfangaaGreatTapeD
import Derived.Test.YtcmjambbdfangaaGreatRunTapeL
set_option linter.unusedVariables false
set_option linter.unusedSimpArgs false
namespace Go.Proofs.YtcmjambbdfangaaGreat.Tape
open Go.RowKit
open Go.Proofs.YtcmjambbdfangaaGreat.Own
open CrcM (W)
open Crc (vl wd)
open Flash (Dev FHas RHas programD eraseD flushD bs list_bs)
open Chart (Ch CHas DHas openC takeC eraseC setC)
open Go.Proofs.YtcmjambbdfangaaGreat.Frame (Fr fV page bytesG)
open Tup Foot Bytes
open Go.Proofs.YtcmjambbdfangaaGreat.Region (fill Then Deps Each wp_region_is wp_region_is_tail)

def nowI (c : Ch) : Int := match c.now with | none => -1 | some k => (k : Int)
theorem now_is {c : Ch} {k : Nat} : ((k : Int) == nowI c) = decide (c.now = some k) := by
  unfold nowI
  cases c.now with
  | none => simp <;> omega
  | some j =>
    by_cases e : j = k
    · subst e; simp
    · have e2 : ¬ ((k : Int) = (j : Int)) := by omega
      have e3 : ¬ (some j = some k) := by simpa using e
      simp [e, e2]
set_option maxRecDepth 100000 in
set_option maxHeartbeats 8000000 in
theorem rer_no {w : World} {t p q : Nat} {x : Tp} {S R : Nat → Prop} (h : RAt w t p q x S R) (hd : x.Ok) (i : Int) (hi : x.c.is i = false) : Calls Tryz.prog 13 #[.pointer (some ⟨t, 0, none⟩), .int .i64 i] w fun e w' => e = .returned (.int .i64 ((eraseT x i).1 : Int)) ∧ ∃ S', RAt w' t p q (eraseT x i).2 S' R ∧ After (both S R) w w' (both S' R) := by
  have ec : eraseC x.c i = (1, x.c) := by unfold eraseC; rw [if_pos hi]
  have HZ := Lib.hid (show eraseT x i = (1, x) by unfold eraseT; rw [ec, if_pos (by simp)])
  rw [HZ.out]
  obtain ⟨bE, capE, bU, capU, hD, hR⟩ := h.c
  have HI := Lib.hid (Chart.refIs_any hD i)
  unfold Chart.ptr at HI
  have H := Lib.hid h
  have a0 := h.var.cell (j := 0) rfl
  have a1 := h.var.cell (j := 1) rfl
  unfold ptr at a0 a1
  rw [hi] at HI
  clear h hD HZ ec hi hR
  go_enter Tryz.func13, Tryz.ntmps13
  go_wp2_with (go_at_call 41; (with_reducible refine HI.out.mono ?_); rintro e w3 ⟨rfl, rfl⟩)
  go_ret
  exact ⟨rfl, S, H.out, After.refl _ _⟩
set_option maxRecDepth 100000 in
set_option maxHeartbeats 8000000 in
theorem rer_free {w : World} {t p q : Nat} {x : Tp} {S R : Nat → Prop} (h : RAt w t p q x S R) (hd : x.Ok) (i : Int) (k : Nat) (hik : i = (k : Int)) (hk : k < x.c.rgs) (h0 : x.c.ep k = 0) : Calls Tryz.prog 13 #[.pointer (some ⟨t, 0, none⟩), .int .i64 i] w fun e w' => e = .returned (.int .i64 ((eraseT x i).1 : Int)) ∧ ∃ S', RAt w' t p q (eraseT x i).2 S' R ∧ After (both S R) w w' (both S' R) := by
  have ec : eraseC x.c i = (7, x.c) := by subst hik; unfold eraseC; rw [if_neg (by rw [Chart.Ch.is_nat hk]; simp), if_pos (by left; rw [Int.toNat_natCast]; exact h0)]
  have HZ := Lib.hid (show eraseT x i = (7, x) by unfold eraseT; rw [ec, if_pos (by simp)])
  rw [HZ.out]
  obtain ⟨bE, capE, bU, capU, hD, hR⟩ := h.c
  have HI := Lib.hid (Chart.refIs_any hD i)
  unfold Chart.ptr at HI
  have H := Lib.hid h
  have a0 := h.var.cell (j := 0) rfl
  have a1 := h.var.cell (j := 1) rfl
  unfold ptr at a0 a1
  have hii : x.c.is i = true := by rw [hik]; exact Chart.Ch.is_nat hk
  rw [hii] at HI
  subst hik
  have b3 := hD.var.cell (j := 3) rfl
  have b5 : w.cell? ⟨q, 5, none⟩ = some (.int .i64 (nowI x.c)) := hD.var.cell (j := 5) rfl
  have bk := (hD.getE hd.c hk).1
  have hrg := hd.c.r1
  obtain ⟨E, hE⟩ : ∃ E, E = x.c.ep k := ⟨_, rfl⟩
  rw [← hE] at bk h0
  obtain ⟨nv, hnv⟩ : ∃ nv, nv = nowI x.c := ⟨_, rfl⟩
  have hnw := now_is (c := x.c) (k := k)
  rw [← hnv] at b5 hnw
  obtain ⟨RG, hRG⟩ : ∃ RG, RG = x.c.rgs := ⟨_, rfl⟩
  rw [← hRG] at b3 hk hrg
  have q1 : ((E : Int) == 0) = true := by rw [h0]; simp
  clear h hD HZ ec hE hnv hnw hRG hii hd h0 hR
  go_enter Tryz.func13, Tryz.ntmps13
  go_wp2_with (first
    | (go_at_call 41; (with_reducible refine HI.out.mono ?_); rintro e w3 ⟨rfl, rfl⟩))
  go_ret
  exact ⟨rfl, S, H.out, After.refl _ _⟩
set_option maxRecDepth 100000 in
set_option maxHeartbeats 8000000 in
theorem rer_now {w : World} {t p q : Nat} {x : Tp} {S R : Nat → Prop} (h : RAt w t p q x S R) (hd : x.Ok) (i : Int) (k : Nat) (hik : i = (k : Int)) (hk : k < x.c.rgs) (h0 : x.c.ep k ≠ 0) (h1 : x.c.now = some k) : Calls Tryz.prog 13 #[.pointer (some ⟨t, 0, none⟩), .int .i64 i] w fun e w' => e = .returned (.int .i64 ((eraseT x i).1 : Int)) ∧ ∃ S', RAt w' t p q (eraseT x i).2 S' R ∧ After (both S R) w w' (both S' R) := by
  have ec : eraseC x.c i = (7, x.c) := by subst hik; unfold eraseC; rw [if_neg (by rw [Chart.Ch.is_nat hk]; simp), if_pos (by right; rw [Int.toNat_natCast]; exact h1)]
  have HZ := Lib.hid (show eraseT x i = (7, x) by unfold eraseT; rw [ec, if_pos (by simp)])
  rw [HZ.out]
  obtain ⟨bE, capE, bU, capU, hD, hR⟩ := h.c
  have HI := Lib.hid (Chart.refIs_any hD i)
  unfold Chart.ptr at HI
  have H := Lib.hid h
  have a0 := h.var.cell (j := 0) rfl
  have a1 := h.var.cell (j := 1) rfl
  unfold ptr at a0 a1
  have hii : x.c.is i = true := by rw [hik]; exact Chart.Ch.is_nat hk
  rw [hii] at HI
  subst hik
  have b3 := hD.var.cell (j := 3) rfl
  have b5 : w.cell? ⟨q, 5, none⟩ = some (.int .i64 (nowI x.c)) := hD.var.cell (j := 5) rfl
  have bk := (hD.getE hd.c hk).1
  have hrg := hd.c.r1
  obtain ⟨E, hE⟩ : ∃ E, E = x.c.ep k := ⟨_, rfl⟩
  rw [← hE] at bk h0
  obtain ⟨nv, hnv⟩ : ∃ nv, nv = nowI x.c := ⟨_, rfl⟩
  have hnw := now_is (c := x.c) (k := k)
  rw [← hnv] at b5 hnw
  obtain ⟨RG, hRG⟩ : ∃ RG, RG = x.c.rgs := ⟨_, rfl⟩
  rw [← hRG] at b3 hk hrg
  have q1 : ((E : Int) == 0) = false := by simpa using h0
  have q2 : ((k : Int) == nv) = true := by rw [hnw]; simpa using h1
  clear h hD HZ ec hE hnv hnw hRG hii hd h0 h1 hR
  go_enter Tryz.func13, Tryz.ntmps13
  go_wp2_with (first
    | (go_at_call 41; (with_reducible refine HI.out.mono ?_); rintro e w3 ⟨rfl, rfl⟩))
  go_ret
  exact ⟨rfl, S, H.out, After.refl _ _⟩
set_option maxRecDepth 100000 in
set_option maxHeartbeats 8000000 in
theorem rer_dev {w : World} {t p q : Nat} {x : Tp} {S R : Nat → Prop} (h : RAt w t p q x S R) (hd : x.Ok) (i : Int) (k : Nat) (hik : i = (k : Int)) (hk : k < x.c.rgs) (h0 : x.c.ep k ≠ 0) (h1 : ¬ x.c.now = some k) (h2 : (eraseD x.d i).1 ≠ 0) : Calls Tryz.prog 13 #[.pointer (some ⟨t, 0, none⟩), .int .i64 i] w fun e w' => e = .returned (.int .i64 ((eraseT x i).1 : Int)) ∧ ∃ S', RAt w' t p q (eraseT x i).2 S' R ∧ After (both S R) w w' (both S' R) := by
  have ec : (eraseC x.c i).1 = 0 := by subst hik; unfold eraseC; rw [if_neg (by rw [Chart.Ch.is_nat hk]; simp), if_neg (by rw [Int.toNat_natCast]; exact fun y => y.elim h0 h1)]
  have HZ := Lib.hid (show eraseT x i = ((eraseD x.d i).1, ⟨(eraseD x.d i).2, x.c⟩) by unfold eraseT; rw [if_neg (by rw [ec]; simp), if_pos h2])
  rw [HZ.out]
  obtain ⟨bE, capE, bU, capU, hD, hR⟩ := h.c
  have HI := Lib.hid (Chart.refIs_any hD i)
  unfold Chart.ptr at HI
  have H := Lib.hid h
  have a0 := h.var.cell (j := 0) rfl
  have a1 := h.var.cell (j := 1) rfl
  unfold ptr at a0 a1
  have hii : x.c.is i = true := by rw [hik]; exact Chart.Ch.is_nat hk
  rw [hii] at HI
  have HD := Lib.hid (fun w S (h : RHas w p x.d S) => rErase h hd.d i)
  obtain ⟨k2, hk2⟩ : ∃ k2, k2 = (eraseD x.d i).1 := ⟨_, rfl⟩
  have q3 : ((k2 : Int) != 0) = true := by rw [hk2]; simpa using h2
  rw [← hk2] at HD ⊢
  clear hk2
  generalize (eraseD x.d i).2 = d2 at HD ⊢
  subst hik
  have b3 := hD.var.cell (j := 3) rfl
  have b5 : w.cell? ⟨q, 5, none⟩ = some (.int .i64 (nowI x.c)) := hD.var.cell (j := 5) rfl
  have bk := (hD.getE hd.c hk).1
  have hrg := hd.c.r1
  obtain ⟨E, hE⟩ : ∃ E, E = x.c.ep k := ⟨_, rfl⟩
  rw [← hE] at bk h0
  obtain ⟨nv, hnv⟩ : ∃ nv, nv = nowI x.c := ⟨_, rfl⟩
  have hnw := now_is (c := x.c) (k := k)
  rw [← hnv] at b5 hnw
  obtain ⟨RG, hRG⟩ : ∃ RG, RG = x.c.rgs := ⟨_, rfl⟩
  rw [← hRG] at b3 hk hrg
  have q1 : ((E : Int) == 0) = false := by simpa using h0
  have q2 : ((k : Int) == nv) = false := by rw [hnw]; simpa using h1
  clear h hD HZ ec hE hnv hnw hRG hii hd h0 h1 h2 hR
  go_enter Tryz.func13, Tryz.ntmps13
  go_wp2_with (first
    | (go_at_call 41; (with_reducible refine HI.out.mono ?_); rintro e w3 ⟨rfl, rfl⟩)
    | (go_at_call 42; (with_reducible refine (HD.out _ _ H.out.f).mono ?_); rintro e w4 ⟨rfl, S4, f4, g4⟩; have T4 := Lib.hid (H.out.left f4 g4); clear f4 g4 a0 a1 b3 b5 bk; have a1 := T4.out.1.var.cell (j := 1) rfl; unfold ptr at a1))
  go_ret
  exact ⟨rfl, S4, T4.out⟩
set_option maxRecDepth 100000 in
set_option maxHeartbeats 8000000 in
theorem rer_ok {w : World} {t p q : Nat} {x : Tp} {S R : Nat → Prop} (h : RAt w t p q x S R) (hd : x.Ok) (i : Int) (k : Nat) (hik : i = (k : Int)) (hk : k < x.c.rgs) (h0 : x.c.ep k ≠ 0) (h1 : ¬ x.c.now = some k) (h2 : (eraseD x.d i).1 = 0) : Calls Tryz.prog 13 #[.pointer (some ⟨t, 0, none⟩), .int .i64 i] w fun e w' => e = .returned (.int .i64 ((eraseT x i).1 : Int)) ∧ ∃ S', RAt w' t p q (eraseT x i).2 S' R ∧ After (both S R) w w' (both S' R) := by
  have ec : (eraseC x.c i).1 = 0 := by subst hik; unfold eraseC; rw [if_neg (by rw [Chart.Ch.is_nat hk]; simp), if_neg (by rw [Int.toNat_natCast]; exact fun y => y.elim h0 h1)]
  have HZ := Lib.hid (show eraseT x i = (0, ⟨(eraseD x.d i).2, (eraseC x.c i).2⟩) by unfold eraseT; rw [if_neg (by rw [ec]; simp), if_neg (by rw [h2]; simp)])
  rw [HZ.out]
  obtain ⟨bE, capE, bU, capU, hD, hR⟩ := h.c
  have HI := Lib.hid (Chart.refIs_any hD i)
  unfold Chart.ptr at HI
  have H := Lib.hid h
  have a0 := h.var.cell (j := 0) rfl
  have a1 := h.var.cell (j := 1) rfl
  unfold ptr at a0 a1
  have hii : x.c.is i = true := by rw [hik]; exact Chart.Ch.is_nat hk
  rw [hii] at HI
  have HD := Lib.hid (fun w S (h : RHas w p x.d S) => rErase h hd.d i)
  rw [h2] at HD
  have HC := Lib.hid (fun w R (h : DHas w q x.c R) => Chart.dErase_any h hd.c i)
  rw [ec] at HC
  unfold Chart.ptr at HC
  obtain ⟨c2, hc2⟩ : ∃ c2, c2 = (eraseC x.c i).2 := ⟨_, rfl⟩
  rw [← hc2] at HC ⊢
  clear hc2
  generalize (eraseD x.d i).2 = d2 at HD ⊢
  subst hik
  have b3 := hD.var.cell (j := 3) rfl
  have b5 : w.cell? ⟨q, 5, none⟩ = some (.int .i64 (nowI x.c)) := hD.var.cell (j := 5) rfl
  have bk := (hD.getE hd.c hk).1
  have hrg := hd.c.r1
  obtain ⟨E, hE⟩ : ∃ E, E = x.c.ep k := ⟨_, rfl⟩
  rw [← hE] at bk h0
  obtain ⟨nv, hnv⟩ : ∃ nv, nv = nowI x.c := ⟨_, rfl⟩
  have hnw := now_is (c := x.c) (k := k)
  rw [← hnv] at b5 hnw
  obtain ⟨RG, hRG⟩ : ∃ RG, RG = x.c.rgs := ⟨_, rfl⟩
  rw [← hRG] at b3 hk hrg
  have q1 : ((E : Int) == 0) = false := by simpa using h0
  have q2 : ((k : Int) == nv) = false := by rw [hnw]; simpa using h1
  clear h hD HZ ec hE hnv hnw hRG hii hd h0 h1 h2 hR
  go_enter Tryz.func13, Tryz.ntmps13
  go_wp2_with (first
    | (go_at_call 41; (with_reducible refine HI.out.mono ?_); rintro e w3 ⟨rfl, rfl⟩)
    | (go_at_call 42; (with_reducible refine (HD.out _ _ H.out.f).mono ?_); rintro e w4 ⟨rfl, S4, f4, g4⟩; have T4 := Lib.hid (H.out.left f4 g4); clear f4 g4 a0 a1 b3 b5 bk; have a1 := T4.out.1.var.cell (j := 1) rfl; unfold ptr at a1)
    | (go_at_call 43; (with_reducible refine (HC.out _ _ T4.out.1.c).mono ?_); rintro e w5 ⟨rfl, c5, g5⟩; have T5 := Lib.hid (T4.out.1.right c5 g5); clear c5 g5 a1))
  go_ret
  exact ⟨rfl, S4, T5.out.1, T4.out.2.trans T5.out.2⟩
theorem refErase_any {w : World} {t p q : Nat} {x : Tp} {S R : Nat → Prop} (h : RAt w t p q x S R) (hd : x.Ok) (i : Int) : Calls Tryz.prog 13 #[.pointer (some ⟨t, 0, none⟩), .int .i64 i] w fun e w' => e = .returned (.int .i64 ((eraseT x i).1 : Int)) ∧ ∃ S', RAt w' t p q (eraseT x i).2 S' R ∧ After (both S R) w w' (both S' R) := by
  cases hi : x.c.is i
  · exact rer_no h hd i hi
  · obtain ⟨k, hik, hk⟩ := Chart.Ch.is_lt hi
    by_cases h0 : x.c.ep k = 0
    · exact rer_free h hd i k hik hk h0
    · by_cases h1 : x.c.now = some k
      · exact rer_now h hd i k hik hk h0 h1
      · by_cases h2 : (eraseD x.d i).1 = 0
        · exact rer_ok h hd i k hik hk h0 h1 h2
        · exact rer_dev h hd i k hik hk h0 h1 h2
theorem rAppend {w : World} {P p q t r p' q' : Nat} {x y : Tp} {F G : Nat → Prop} (h : Pair w P p q t r p' q' x y F G) (hd : y.Ok) (f : Fr) (hs : f.body.length ≤ maxLen) :
    Calls Tryz.prog 17 #[.pointer (some ⟨r, 0, none⟩), fV f] w fun e w' => e = .returned (.tuple #[.int .i64 ((appendT y f).1.1 : Int), .int .i64 ((appendT y f).1.2 : Int)]) ∧ ∃ G', Pair w' P p q t r p' q' x (appendT y f).2 F G' ∧ After (both F G) w w' (both F G') := by
  obtain ⟨S, R, ht, hG⟩ := h.rr
  refine (refAppend_any ht hd f hs).mono ?_
  rintro e w' ⟨he, S', ht', a⟩
  rw [← hG] at a
  exact ⟨he, _, h.right ⟨S', R, ht', rfl⟩ a⟩
theorem rTErase {w : World} {P p q t r p' q' : Nat} {x y : Tp} {F G : Nat → Prop} (h : Pair w P p q t r p' q' x y F G) (hd : y.Ok) (i : Int) :
    Calls Tryz.prog 13 #[.pointer (some ⟨r, 0, none⟩), .int .i64 i] w fun e w' => e = .returned (.int .i64 ((eraseT y i).1 : Int)) ∧ ∃ G', Pair w' P p q t r p' q' x (eraseT y i).2 F G' ∧ After (both F G) w w' (both F G') := by
  obtain ⟨S, R, ht, hG⟩ := h.rr
  refine (refErase_any ht hd i).mono ?_
  rintro e w' ⟨he, S', ht', a⟩
  rw [← hG] at a
  exact ⟨he, _, h.right ⟨S', R, ht', rfl⟩ a⟩
theorem rTFlush {w : World} {P p q t r p' q' : Nat} {x y : Tp} {F G : Nat → Prop} (h : Pair w P p q t r p' q' x y F G) (hd : y.Ok) :
    Calls Tryz.prog 11 #[.pointer (some ⟨p', 0, none⟩)] w fun e w' => e = .returned (.int .i64 ((flushT y).1 : Int)) ∧ ∃ G', Pair w' P p q t r p' q' x (flushT y).2 F G' ∧ After (both F G) w w' (both F G') := by
  obtain ⟨S, R, ht, hG⟩ := h.rr
  refine (rFlush ht.f hd.d).mono ?_
  rintro e w' ⟨he, S', ht', a⟩
  obtain ⟨h1, h2⟩ := ht.left ht' a
  rw [← hG] at h2
  exact ⟨he, _, h.right ⟨S', R, h1, rfl⟩ h2⟩
theorem rTFuse {w : World} {P p q t r p' q' : Nat} {x y : Tp} {F G : Nat → Prop} (h : Pair w P p q t r p' q' x y F G) (hd : y.Ok) (n : Int) (hn : n < 9223372036854775808) :
    Calls Tryz.prog 15 #[.pointer (some ⟨p', 0, none⟩), .int .i64 n] w fun e w' => e = .returned (.tuple #[]) ∧ ∃ G', Pair w' P p q t r p' q' x (fuseT y n) F G' ∧ After (both F G) w w' (both F G') := by
  obtain ⟨S, R, ht, hG⟩ := h.rr
  refine (rFuse ht.f n hn).mono ?_
  rintro e w' ⟨he, S', ht', a⟩
  obtain ⟨h1, h2⟩ := ht.left ht' a
  rw [← hG] at h2
  exact ⟨he, _, h.right ⟨S', R, h1, rfl⟩ h2⟩
theorem rImage {w : World} {P p q t r p' q' : Nat} {x y : Tp} {F G : Nat → Prop} (h : Pair w P p q t r p' q' x y F G) : Calls Tryz.prog 19 #[.pointer (some ⟨p', 0, none⟩)] w fun e w' => e = .returned (.string (bs y.d.img)) ∧ w = w' := by
  obtain ⟨S, R, ht, hG⟩ := h.rr
  obtain ⟨bB, cap, wv, fz, hR, _⟩ := ht.f
  exact Flash.refImage_any hR
theorem rLeft {w : World} {P p q t r p' q' : Nat} {x y : Tp} {F G : Nat → Prop} (h : Pair w P p q t r p' q' x y F G) (hd : y.Ok) : Calls Tryz.prog 23 #[.pointer (some ⟨q', 0, none⟩)] w fun e w' => e = .returned (.int .i64 (y.c.left : Int)) ∧ Below w.heap.size w w' := by
  obtain ⟨S, R, ht, hG⟩ := h.rr
  exact Chart.dLeft_any ht.c hd.c
theorem rFree {w : World} {P p q t r p' q' : Nat} {x y : Tp} {F G : Nat → Prop} (h : Pair w P p q t r p' q' x y F G) (hd : y.Ok) : Calls Tryz.prog 25 #[.pointer (some ⟨q', 0, none⟩)] w fun e w' => e = .returned (.int .i64 (y.c.free : Int)) ∧ w = w' := by
  obtain ⟨S, R, ht, hG⟩ := h.rr
  exact Chart.dFree_any ht.c hd.c
/-- the cells of a pair, of the document's tape, of its device -/
theorem Pair.look {w : World} {P p q t r p' q' : Nat} {x y : Tp} {F G : Nat → Prop} (h : Pair w P p q t r p' q' x y F G) : ∃ a c, ∀ wx, Below w.heap.size w wx → wx.cell? ⟨P, 0, none⟩ = some (.pointer (some ⟨p, 0, none⟩)) ∧ wx.cell? ⟨P, 1, none⟩ = some (.pointer (some ⟨q, 0, none⟩)) ∧ wx.cell? ⟨P, 2, none⟩ = some (.pointer (some ⟨t, 0, none⟩)) ∧ wx.cell? ⟨P, 3, none⟩ = some (.pointer (some ⟨r, 0, none⟩))
    ∧ wx.cell? ⟨r, 0, none⟩ = some (.pointer (some ⟨p', 0, none⟩)) ∧ wx.cell? ⟨r, 1, none⟩ = some (.pointer (some ⟨q', 0, none⟩)) ∧ wx.cell? ⟨p', 4, none⟩ = some (.slice a y.d.wait.length c) ∧ wx.cell? ⟨p', 7, none⟩ = some (.bool y.d.down) := by
  obtain ⟨S, R, ht, hG⟩ := h.rr
  obtain ⟨bB, cap, wv, fz, hR, _⟩ := ht.f
  obtain ⟨a, c, rfl⟩ := hR.slice
  refine ⟨a, c, fun wx hb => ?_⟩
  have hv := h.var.below hb h.var.lt
  have hr := ht.var.below hb ht.var.lt
  have hx := (hR.below hb).var
  exact ⟨hv.cell (j := 0) rfl, hv.cell (j := 1) rfl, hv.cell (j := 2) rfl, hv.cell (j := 3) rfl, hr.cell (j := 0) rfl, hr.cell (j := 1) rfl, hx.cell (j := 4) rfl, hx.cell (j := 7) rfl⟩
end Go.Proofs.YtcmjambbdfangaaGreat.Tape
