/-
  The walk of BatchBent.
-/
import Derived.Test.YtjbgiolcfammkaaDoorBatchLaws
import Derived.Test.YtjbgiolcfammkaaDoorBytes
namespace Go.Proofs.YtjbgiolcfammkaaDoor.Batch
open Go.RowKit
open Own Tup RefKeys RefSort Lay LayM
open Bytes (Row8)
theorem row_take {w : World} {B : Nat} {l : List UInt8} (h : Row8 w B l) (k : Nat) : Row8 w B (l.take k) := fun j hj => by
  have hl : j < k ∧ j < l.length := by rw [List.length_take] at hj; omega
  have := h j hl.2
  rw [List.getD, List.getElem?_take_of_lt hl.1]
  exact this
theorem pick_any (n : Int) (m : Nat) (hm : 0 < m) (hm2 : m ≤ 1000000) (w : World) : Calls Tryd.prog 26 #[.int .i64 n, .int .i64 (m : Int)] w fun e w' => e = .returned (.int .i64 (((n % (m : Int)).toNat : Nat) : Int)) ∧ w = w' := by
  have h0 : ((m : Int) == 0) = false := by simp; omega
  have hp : 0 ≤ n % (m : Int) := Int.emod_nonneg _ (by omega)
  have hlt : n % (m : Int) < (m : Int) := Int.emod_lt_of_pos _ (by omega)
  have e : n.tmod (m : Int) = n % (m : Int) ∨ n.tmod (m : Int) = n % (m : Int) - (m : Int) := by
    have h := Int.tmod_eq_emod (a := n) (b := (m : Int))
    split at h
    · left; omega
    · right; rw [h]; simp
  have hlo : -(m : Int) ≤ n.tmod (m : Int) ∧ n.tmod (m : Int) < (m : Int) := by omega
  by_cases hn : n.tmod (m : Int) < 0
  · have HE := Lib.hid (show n.tmod (m : Int) + (m : Int) = (((n % (m : Int)).toNat : Nat) : Int) by omega)
    clear e
    go_enter Tryd.func26, Tryd.ntmps26
    go_wp2
    go_ret
    exact ⟨ret_int HE.out, rfl⟩
  · have HE := Lib.hid (show n.tmod (m : Int) = max (n % (m : Int)) 0 by omega)
    clear e
    go_enter Tryd.func26, Tryd.ntmps26
    go_wp2
    go_ret
    exact ⟨ret_int HE.out, rfl⟩
set_option maxRecDepth 100000 in
set_option maxHeartbeats 2000000 in
theorem bent_any (a : Option Addr) (l : List Wr) (cap : Nat) (at_ : Int) (by_ : UInt8) (cut : Bool) (hl : l.length ≤ maxLen) (w : World) (hT : Tb w) (hr : WAt w a l) :
    Calls Tryd.prog 8 #[.slice a l.length cap, .int .i64 at_, .int .u8 (by_.toNat : Int), .bool cut] w fun e w' => e = .returned (.bool true) ∧ Below w.heap.size w w' := by
  have HW : Hid (Calls Tryd.prog 13 #[.slice a l.length cap, .int .i64 8] w fun e w' => ∃ v, e = .returned v ∧ WMine w' w.heap.size v (writesOf l 8) ∧ Below w.heap.size w w') := writes_any a l cap 8 (by decide) hl w hr
  have HZ := Lib.hid (fine_writes l 8)
  have HN := writes_len l 8
  generalize writesOf l 8 = L at *
  have hml : (makeW L).length ≤ 8 := by have := keys_len (l := L); rw [make_len]; omega
  have HMZ : Hid (∀ x ∈ makeW L, x.key.size ≤ 8796093022208) := fun x hx => by
    obtain ⟨k, hk, rfl⟩ := List.mem_map.1 (show x ∈ (keysW L).map (lastW L) from hx)
    obtain ⟨y, hy, _, h2, _⟩ := last_spec hk
    rw [h2, clean_key]; exact HZ.out y hy
  clear hl hr
  go_enter Tryd.func8, Tryd.ntmps8
  go_wp2_with fail
  go_at_call 13
  with_reducible refine HW.out.mono ?_
  rintro e w1 ⟨v1, rfl, hv, hb1⟩
  with_reducible refine Exists.elim (WMine.slice hv) ?_
  intro va hh
  with_reducible refine Exists.elim hh ?_
  intro vc hh2
  have hve := hh2.1
  have HV1 := Lib.hid hh2.2
  clear hh hh2
  clear hv
  subst hve
  go_wp2_with fail
  go_at_call 16
  with_reducible refine (refMake_any va L vc (by omega) HZ.out w1 HV1.out).mono ?_
  rintro e w2 ⟨v2, rfl, hv, hb2⟩
  with_reducible refine Exists.elim (WMine.slice hv) ?_
  intro ma hh
  with_reducible refine Exists.elim hh ?_
  intro mc hh2
  have hve := hh2.1
  have HV2 := Lib.hid hh2.2
  clear hh hh2
  clear hv
  subst hve
  have HB2 := Lib.hid (bel0 hb1 hb2)
  clear hb1 hb2 HV1 HW
  generalize makeW L = M at *
  go_wp2_with fail
  go_at_call 23
  with_reducible refine (refBytes_any ma M mc (by simp only [maxLen]; omega) HMZ.out w2 HV2.out).mono ?_
  rintro e w3 ⟨rfl, hb3⟩
  have HB3 := Lib.hid (bel0 HB2.out hb3)
  clear hb3 HB2 HV2
  go_wp2_with fail
  go_at_call 10
  with_reducible refine (alive_any w3 (hT.below HB3.out)).mono ?_
  rintro e w4 ⟨rfl, hb4⟩
  have HB4 := Lib.hid (bel0 HB3.out hb4)
  clear hb4 HB3
  by_cases hc : rightW M = 0
  · have HBY := Lib.hid (show bytesW M = (layB M, 0) by unfold bytesW; rw [if_neg (by simp [hc])])
    have hsz : (layB M).size ≤ 1000000 := by
      have := layTo_size M (fun x hx => ⟨(rightGo_fine _ none (rightW_ok hc).2.2 x hx).1, (rightGo_fine _ none (rightW_ok hc).2.2 x hx).2.1⟩) M.length (Nat.le_refl _)
      unfold layB; omega
    have hpos : 0 < (layB M).size := by rw [layB_items, ByteArray.size_append]; have := (numS_len M.length).1; omega
    rw [HBY.out]
    clear hc HBY
    generalize layB M = B at *
    have HPK := Lib.hid (fun w => pick_any at_ B.size hpos hsz w)
    obtain ⟨k, hke⟩ : ∃ k, k = (at_ % (B.size : Int)).toNat := ⟨_, rfl⟩
    have hk : k < B.size := by
      have := Int.emod_lt_of_pos at_ (show (0 : Int) < (B.size : Int) by omega)
      have := Int.emod_nonneg at_ (show (B.size : Int) ≠ 0 by omega)
      omega
    rw [← hke] at HPK
    clear hke
    have hcv := fun w => Lib.run_convert_string_bytes (P := Tryd.prog) w 9 44 5 B Tryd.underlying9 Tryd.underlying44 Tryd.underlying5
    have hrow := Row8.of_string w4 5 B
    have hkl : k < B.data.toList.length := by simpa using hk
    obtain ⟨hc1, hf1⟩ := hrow k hkl
    have hx := Bytes.xor_u8 (B.data.toList.getD k 0) by_
    have HRW := Lib.hid (hrow.set k (B.data.toList.getD k 0 ^^^ by_) hkl)
    have HBW : Hid (Below w.heap.size w ((Lib.bytesWorld w4 5 B).setCell ⟨w4.heap.size, k, none⟩ (.int .u8 ((B.data.toList.getD k 0 ^^^ by_).toNat : Int)))) := (HB4.out.trans ((Bytes.bytes_below w4 5 B).mono HB4.out.size)).setCell HB4.out.size _
    generalize B.data.toList.getD k 0 ^^^ by_ = x at *
    generalize B.data.toList.getD k 0 = y at *
    have hgc := grownCap_ge w4 B.size 0 5
    have hlen : (B.data.toList.set k x).length = B.size := by simp
    generalize B.data.toList.set k x = X at *
    clear hrow hkl
    cases cut with
    | false =>
      have HTX := Lib.hid (fun W (h : Row8 W w4.heap.size X) => h.text (P := Tryd.prog) 44 9 5 (grownCap w4 B.size 0 5) Tryd.underlying44 Tryd.underlying5 Tryd.underlying9 B.size hlen)
      have HRX := HRW
      have htz : (⟨X.toArray⟩ : ByteArray).size ≤ 9000000000000000000 := by have : (⟨X.toArray⟩ : ByteArray).size = X.length := rfl; omega
      have hcv1 := HTX.out _ HRX.out
      have HRD := Lib.hid (fun w hT => read_any _ htz w hT)
      have HRD2 := Lib.hid (fun w => refRead_any _ htz w)
      obtain ⟨R, c, hrr⟩ : ∃ R c, readW ⟨X.toArray⟩ = (R, c) := ⟨_, _, rfl⟩
      rw [hrr] at HRD HRD2
      unfold ReadSays at HRD HRD2
      have hR8 : R.length ≤ 8 := by
        by_cases hc : c = 0
        · subst hc; exact (rightW_ok (read_once hrr).2).2.1
        · rw [read_err hrr hc]; decide
      clear hrr
      go_wp2_with (go_at_call 26; (with_reducible refine (HPK.out _).mono ?_); rintro e w5 ⟨rfl, rfl⟩)
      go_at_call 24
      with_reducible refine (HRD.out _ (hT.below HBW.out)).mono ?_
      rintro e w6 ⟨v6, rfl, hv, hb6⟩
      with_reducible refine Exists.elim (WMine.slice hv) ?_
      intro xa hh
      with_reducible refine Exists.elim hh ?_
      intro xc hh2
      have hve := hh2.1
      have HX6 := Lib.hid hh2.2
      clear hh hh2
      clear hv
      subst hve
      have HB6 := Lib.hid (bel0 HBW.out hb6)
      have hcv2 := HTX.out _ (HRX.out.below hb6)
      clear hb6 hcv1 hcv HRX HRW HRD HBW
      go_wp2_with fail
      go_at_call 25
      with_reducible refine (HRD2.out _).mono ?_
      rintro e w7 ⟨v7, rfl, hv, hb7⟩
      with_reducible refine Exists.elim (WMine.slice hv) ?_
      intro ya hh
      with_reducible refine Exists.elim hh ?_
      intro yc hh2
      have hve := hh2.1
      have HY7 := Lib.hid hh2.2
      clear hh hh2
      clear hv
      subst hve
      have HB7 := Lib.hid (bel0 HB6.out hb7)
      have HSW : Hid (Calls Tryd.prog 15 #[.slice xa R.length xc, .slice ya R.length yc] w7 fun e w' => e = .returned (.bool true) ∧ ∃ n, w' = w7.drewN n) := by
        have := sameW_any xa ya R R xc yc (by omega) (by omega) w7 (WAt.below HX6.out hb7) HY7.out
        rw [decide_eq_true rfl] at this
        exact this
      clear hb7 HB6 HX6 HY7 hcv2 HRD2
      go_wp2_with fail
      go_at_call 15
      with_reducible refine HSW.out.mono ?_
      rintro e w8 ⟨rfl, hd8⟩
      have HB8 := Lib.hid (below_draw HB7.out hd8)
      clear hd8
      go_wp2
      go_ret
      exact ⟨by simp, HB8.out⟩
    | true =>
      have HTX := Lib.hid (fun W (h : Row8 W w4.heap.size (X.take k)) => h.text (P := Tryd.prog) 44 9 5 (grownCap w4 B.size 0 5) Tryd.underlying44 Tryd.underlying5 Tryd.underlying9 k (by rw [List.length_take]; omega))
      have HRX := Lib.hid (row_take HRW.out k)
      have htz : (⟨(X.take k).toArray⟩ : ByteArray).size ≤ 9000000000000000000 := by have : (⟨(X.take k).toArray⟩ : ByteArray).size = (X.take k).length := rfl; rw [List.length_take] at this; omega
      have hcv1 := HTX.out _ HRX.out
      have HRD := Lib.hid (fun w hT => read_any _ htz w hT)
      have HRD2 := Lib.hid (fun w => refRead_any _ htz w)
      obtain ⟨R, c, hrr⟩ : ∃ R c, readW ⟨(X.take k).toArray⟩ = (R, c) := ⟨_, _, rfl⟩
      rw [hrr] at HRD HRD2
      unfold ReadSays at HRD HRD2
      have hR8 : R.length ≤ 8 := by
        by_cases hc : c = 0
        · subst hc; exact (rightW_ok (read_once hrr).2).2.1
        · rw [read_err hrr hc]; decide
      clear hrr
      go_wp2_with (go_at_call 26; (with_reducible refine (HPK.out _).mono ?_); rintro e w5 ⟨rfl, rfl⟩)
      go_at_call 24
      with_reducible refine (HRD.out _ (hT.below HBW.out)).mono ?_
      rintro e w6 ⟨v6, rfl, hv, hb6⟩
      with_reducible refine Exists.elim (WMine.slice hv) ?_
      intro xa hh
      with_reducible refine Exists.elim hh ?_
      intro xc hh2
      have hve := hh2.1
      have HX6 := Lib.hid hh2.2
      clear hh hh2
      clear hv
      subst hve
      have HB6 := Lib.hid (bel0 HBW.out hb6)
      have hcv2 := HTX.out _ (HRX.out.below hb6)
      clear hb6 hcv1 hcv HRX HRW HRD HBW
      go_wp2_with fail
      go_at_call 25
      with_reducible refine (HRD2.out _).mono ?_
      rintro e w7 ⟨v7, rfl, hv, hb7⟩
      with_reducible refine Exists.elim (WMine.slice hv) ?_
      intro ya hh
      with_reducible refine Exists.elim hh ?_
      intro yc hh2
      have hve := hh2.1
      have HY7 := Lib.hid hh2.2
      clear hh hh2
      clear hv
      subst hve
      have HB7 := Lib.hid (bel0 HB6.out hb7)
      have HSW : Hid (Calls Tryd.prog 15 #[.slice xa R.length xc, .slice ya R.length yc] w7 fun e w' => e = .returned (.bool true) ∧ ∃ n, w' = w7.drewN n) := by
        have := sameW_any xa ya R R xc yc (by omega) (by omega) w7 (WAt.below HX6.out hb7) HY7.out
        rw [decide_eq_true rfl] at this
        exact this
      clear hb7 HB6 HX6 HY7 hcv2 HRD2
      go_wp2_with fail
      go_at_call 15
      with_reducible refine HSW.out.mono ?_
      rintro e w8 ⟨rfl, hd8⟩
      have HB8 := Lib.hid (below_draw HB7.out hd8)
      clear hd8
      go_wp2
      go_ret
      exact ⟨by simp, HB8.out⟩
  · have q1 : (((rightW M : Nat) : Int) == 0) = false := by simpa using hc
    have q2 : (((rightW M : Nat) : Int) != 0) = true := by simpa using hc
    have HBY := Lib.hid (show bytesW M = (ByteArray.empty, rightW M) by unfold bytesW; rw [if_pos hc])
    rw [HBY.out]
    clear hc HBY
    generalize rightW M = c at *
    go_wp2_with (go_at_call 10; (with_reducible refine (alive_any w4 (hT.below HB4.out)).mono ?_); rintro e w5 ⟨rfl, hb5⟩)
    go_ret
    exact ⟨rfl, bel0 HB4.out hb5⟩
end Go.Proofs.YtjbgiolcfammkaaDoor.Batch
