/-
  The walks of the laws of chapter 5.
-/
import Derived.Test.YtjbgiolcfammkaaDoorBatchX
namespace Go.Proofs.YtjbgiolcfammkaaDoor.Batch
open Go.RowKit
open Own Tup RefKeys RefSort Lay LayM

theorem bel0 {a w1 w2 : World} (h : Below a.heap.size a w1) (k : Below w1.heap.size w1 w2) : Below a.heap.size a w2 := h.trans (k.mono h.size)
theorem short_size (s : ByteArray) (n : Nat) : (shortOf s n).size ≤ n := by unfold shortOf; simp; omega
theorem writes_short (l : List Wr) (m : Nat) : ∀ x ∈ writesOf l m, x.key.size ≤ 60 ∧ x.val.size ≤ 60 := by
  intro x hx
  obtain ⟨y, _, rfl⟩ := List.mem_map.1 hx
  exact ⟨short_size _ _, short_size _ _⟩
theorem writes_len (l : List Wr) (m : Nat) : (writesOf l m).length ≤ m := by unfold writesOf; simp; omega
theorem wat_nil (w : World) : WAt w none [] := .inl rfl
theorem known_bytes : bytesW [⟨⟨#[97]⟩, false, ⟨#[98]⟩⟩] = (⟨#[1, 0, 1, 97, 1, 98]⟩, 0) := by decide +kernel
theorem alive_any (w : World) (hT : Tb w) : Calls Tryd.prog 10 #[] w fun e w' => e = .returned (.bool true) ∧ Below w.heap.size w w' := by
  have hb1 := bel_alloc w (.cells #[.string ⟨#[97]⟩, .bool false, .string ⟨#[98]⟩] 31)
  have H1 : Hid (Calls Tryd.prog 22 #[.slice (some ⟨w.heap.size, 0, none⟩) 1 1] (w.alloc (.cells #[.string ⟨#[97]⟩, .bool false, .string ⟨#[98]⟩] 31)) fun e w' => e = .returned (.tuple #[.string ⟨#[1, 0, 1, 97, 1, 98]⟩, .int .i64 0]) ∧ Below (w.alloc (.cells #[.string ⟨#[97]⟩, .bool false, .string ⟨#[98]⟩] 31)).heap.size (w.alloc (.cells #[.string ⟨#[97]⟩, .bool false, .string ⟨#[98]⟩] 31)) w') := by
    have := bytes_any (some ⟨w.heap.size, 0, none⟩) [⟨⟨#[97]⟩, false, ⟨#[98]⟩⟩] 1 (by decide) (fun x hx => by rw [List.mem_singleton.1 hx]; decide) _ (hT.below hb1) (.inr ⟨w.heap.size, 0, rfl, lies_new w (flatW [⟨⟨#[97]⟩, false, ⟨#[98]⟩⟩]) 31⟩)
    rw [known_bytes] at this
    exact this
  have H2 : Hid (∀ w, Tb w → Calls Tryd.prog 11 #[.slice none 0 0] w fun e w' => e = .returned (.int .i64 12) ∧ Below w.heap.size w w') := fun w hT => right_any none [] 0 (by decide) (by simp) w hT (wat_nil w)
  go_enter Tryd.func10, Tryd.ntmps10
  go_wp2_with fail
  go_at_call 22
  with_reducible refine H1.out.mono ?_
  rintro e w2 ⟨rfl, hb2⟩
  have HB := Lib.hid (bel0 hb1 hb2)
  have HT := Lib.hid (hT.below HB.out)
  clear hb2 hb1
  go_wp2_with fail
  go_at_call 11
  with_reducible refine (H2.out _ HT.out).mono ?_
  rintro e w3 ⟨rfl, hb3⟩
  have HB3 := Lib.hid (bel0 HB.out hb3)
  clear hb3
  go_wp2
  go_ret
  exact ⟨rfl, HB3.out⟩
theorem rights_any (a : Option Addr) (l : List Wr) (cap : Nat) (hl : l.length ≤ maxLen) (hz : ∀ x ∈ l, x.key.size ≤ 8796093022208) (w : World) (hT : Tb w) (hr : WAt w a l) :
    Calls Tryd.prog 3 #[.slice a l.length cap] w fun e w' => e = .returned (.bool true) ∧ Below w.heap.size w w' := by
  have H1 := Lib.hid (alive_any w hT)
  have H2 := Lib.hid (fun w hT hr => right_any a l cap hl hz w hT hr)
  have H3 := Lib.hid (fun w hr => refRight_any a l cap hl hz w hr)
  have HR := Lib.hid hr
  generalize rightW l = c at *
  clear hr hz
  go_enter Tryd.func3, Tryd.ntmps3
  go_wp2_with fail
  go_at_call 10
  with_reducible refine H1.out.mono ?_
  rintro e w2 ⟨rfl, hb2⟩
  go_wp2_with fail
  go_at_call 11
  with_reducible refine (H2.out _ (hT.below hb2) (WAt.below HR.out hb2)).mono ?_
  rintro e w3 ⟨rfl, hb3⟩
  have hb4 := bel0 hb2 hb3
  clear hb2 hb3
  go_wp2_with fail
  go_at_call 12
  with_reducible refine (H3.out _ (WAt.below HR.out hb4)).mono ?_
  rintro e w4 ⟨rfl, hb5⟩
  have hb6 := bel0 hb4 hb5
  clear hb4 hb5
  go_wp2
  go_ret
  exact ⟨by simp, hb6⟩
theorem fine_writes (l : List Wr) (m : Nat) : ∀ x ∈ writesOf l m, x.key.size ≤ 8796093022208 := fun x hx => Nat.le_trans (writes_short l m x hx).1 (by decide)
theorem lays_any (a : Option Addr) (l : List Wr) (cap : Nat) (hl : l.length ≤ maxLen) (w : World) (hT : Tb w) (hr : WAt w a l) :
    Calls Tryd.prog 6 #[.slice a l.length cap] w fun e w' => e = .returned (.bool true) ∧ Below w.heap.size w w' := by
  have HW : Hid (Calls Tryd.prog 13 #[.slice a l.length cap, .int .i64 12] w fun e w' => ∃ v, e = .returned v ∧ WMine w' w.heap.size v (writesOf l 12) ∧ Below w.heap.size w w') := writes_any a l cap 12 (by decide) hl w hr
  have HZ := Lib.hid (fine_writes l 12)
  have HN := writes_len l 12
  generalize writesOf l 12 = L at *
  clear hl hr
  go_enter Tryd.func6, Tryd.ntmps6
  go_wp2_with fail
  go_at_call 13
  with_reducible refine HW.out.mono ?_
  rintro e w1 ⟨v1, rfl, hv1, hb1⟩
  with_reducible refine Exists.elim hv1.slice ?_
  intro va hh
  with_reducible refine Exists.elim hh ?_
  intro vc hh2
  have hve := hh2.1
  have HW1 := Lib.hid hh2.2
  have HM1 := Lib.hid hv1
  clear hh hh2 hv1
  subst hve
  go_wp2_with fail
  go_at_call 22
  with_reducible refine (bytes_any va L vc (by omega) HZ.out w1 (hT.below hb1) HW1.out).mono ?_
  rintro e w2 ⟨rfl, hb2⟩
  go_wp2_with fail
  go_at_call 23
  with_reducible refine (refBytes_any va L vc (by simp only [maxLen]; omega) HZ.out w2 (WAt.below HW1.out hb2)).mono ?_
  rintro e w3 ⟨rfl, hb3⟩
  have hb4 := bel0 (bel0 hb1 hb2) hb3
  clear hb1 hb2 hb3
  generalize bytesW L = r at *
  go_wp2_with fail
  go_at_call 10
  with_reducible refine (alive_any w3 (hT.below hb4)).mono ?_
  rintro e w4 ⟨rfl, hb5⟩
  have hb6 := bel0 hb4 hb5
  clear hb4 hb5
  go_wp2
  go_ret
  exact ⟨by simp, hb6⟩
set_option maxRecDepth 100000 in
theorem reads_any (b : ByteArray) (hb : b.size ≤ 9000000000000000000) (w : World) (hT : Tb w) :
    Calls Tryd.prog 7 #[.string b] w fun e w' => e = .returned (.bool true) ∧ Below w.heap.size w w' := by
  have H1 := Lib.hid (read_any b hb w hT)
  have H2 := Lib.hid (fun w => refRead_any b hb w)
  obtain ⟨L, c, hr⟩ : ∃ L c, readW b = (L, c) := ⟨_, _, rfl⟩
  have HL : Hid (L.length ≤ 8 ∧ ∀ x ∈ L, x.key.size ≤ 8796093022208) := by
    by_cases hc : c = 0
    · subst hc
      have h1 := (read_once hr).2
      obtain ⟨_, h8, hg⟩ := rightW_ok h1
      exact ⟨h8, fun x hx => Nat.le_trans (rightGo_fine L none hg x hx).1 (by decide)⟩
    · have : L = [] := read_err hr hc
      subst this
      exact ⟨by decide, by simp⟩
  have HC : Hid (c = 0 → bytesW L = (b, 0) ∧ rightW L = 0) := by
    intro hc
    subst hc
    obtain ⟨h1, h2⟩ := read_once hr
    exact ⟨by unfold bytesW; rw [if_neg (by simp [h2]), h1], h2⟩
  rw [hr] at H1 H2
  unfold ReadSays at H1 H2
  clear hr
  have hl8 := HL.out.1
  go_enter Tryd.func7, Tryd.ntmps7
  go_wp2_with fail
  go_at_call 24
  with_reducible refine H1.out.mono ?_
  rintro e w1 ⟨v1, rfl, hv1, hb1⟩
  with_reducible refine Exists.elim hv1.slice ?_
  intro va hh
  with_reducible refine Exists.elim hh ?_
  intro vc hh2
  have hve := hh2.1
  have HW1 := Lib.hid hh2.2
  clear hh hh2 hv1
  subst hve
  go_wp2_with fail
  go_at_call 25
  with_reducible refine (H2.out w1).mono ?_
  rintro e w2 ⟨v2, rfl, hv2, hb2⟩
  with_reducible refine Exists.elim hv2.slice ?_
  intro ua hh
  with_reducible refine Exists.elim hh ?_
  intro uc hh2
  have hve := hh2.1
  have HW2 := Lib.hid hh2.2
  clear hh hh2 hv2
  subst hve
  have HB2 := Lib.hid (bel0 hb1 hb2)
  have HV2 := Lib.hid (WAt.below HW1.out hb2)
  clear hb1 hb2 HW1
  go_wp2_with fail
  go_at_call 10
  with_reducible refine (alive_any w2 (hT.below HB2.out)).mono ?_
  rintro e w3 ⟨rfl, hb3⟩
  have HB3 := Lib.hid (bel0 HB2.out hb3)
  have HV3 := Lib.hid (WAt.below HV2.out hb3)
  have HU3 := Lib.hid (WAt.below HW2.out hb3)
  clear hb3 HV2 HW2 HB2
  have HS : Hid (Calls Tryd.prog 15 #[.slice va L.length vc, .slice ua L.length uc] w3 fun e w' => e = .returned (.bool true) ∧ ∃ n, w' = w3.drewN n) := by
    have := sameW_any va ua L L vc uc (by omega) (by omega) w3 HV3.out HU3.out
    rw [decide_eq_true rfl] at this
    exact this
  go_wp2_with fail
  go_at_call 15
  with_reducible refine HS.out.mono ?_
  rintro e w4 ⟨rfl, hd4⟩
  have hb4 : Below w3.heap.size w3 w4 := below_draw (Below.refl _ _) hd4
  have HB4 := Lib.hid (bel0 HB3.out hb4)
  have HV4 := Lib.hid (WAt.below HV3.out hb4)
  clear hd4 hb4 HV3 HU3 HB3 HS
  go_wp2_with fail
  go_at_call 22
  with_reducible refine (bytes_any va L vc (by omega) HL.out.2 w4 (hT.below HB4.out) HV4.out).mono ?_
  rintro e w5 ⟨rfl, hb5⟩
  have HB5 := Lib.hid (bel0 HB4.out hb5)
  have HV5 := Lib.hid (WAt.below HV4.out hb5)
  clear hb5 HV4 HB4
  by_cases hc : c = 0
  · obtain ⟨e1, e2⟩ := HC.out hc
    rw [e1]
    have HRT := Lib.hid (right_any va L vc (by simp only [maxLen]; omega) HL.out.2 w5 (hT.below HB5.out) HV5.out)
    rw [e2] at HRT
    have q1 : ((c : Int) == 0) = true := by rw [hc]; rfl
    have q2 : ((c : Int) != 0) = false := by rw [hc]; rfl
    clear hc e1 e2
    go_wp2_with fail
    go_at_call 11
    with_reducible refine HRT.out.mono ?_
    rintro e w6 ⟨rfl, hb6⟩
    have HB6 := Lib.hid (bel0 HB5.out hb6)
    clear hb6
    go_wp2
    go_ret
    exact ⟨by simp, HB6.out⟩
  · have q1 : ((c : Int) == 0) = false := by simpa using hc
    have q2 : ((c : Int) != 0) = true := by simpa using hc
    clear hc
    generalize bytesW L = r at *
    go_wp2
    go_ret
    exact ⟨by simp, HB5.out⟩
end Go.Proofs.YtjbgiolcfammkaaDoor.Batch
