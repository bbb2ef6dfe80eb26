/-
  The walk of the law on quoting.
-/
import Derived.Test.YtfponjonbhnmlaaDoorGlobAlive
import Derived.Test.YtfponjonbhnmlaaDoorGlobMathD
import Derived.Test.YtfponjonbhnmlaaDoorRefQuote
import Derived.Test.YtfponjonbhnmlaaDoorKeysC
namespace Go.Proofs.YtfponjonbhnmlaaDoor.Glob
open Go.RowKit
open RuneM RefRune Own RefKeys GlobM Keys RefGlob

theorem key_whole {k : ByteArray} (h : keyRight k = true) : ∀ x ∈ runes k, whole x := by
  intro x hx
  simp only [keyRight, Bool.and_eq_true, List.all_eq_true] at h
  have := h.1.1 x hx
  simp only [plainB, Bool.and_eq_true, Bool.not_eq_true', Bool.and_eq_false_iff, decide_eq_false_iff_not] at this
  intro ⟨e1, e2⟩
  rcases this.2 with h | h
  · exact h e1
  · exact h e2
theorem quote_size (k : ByteArray) : (quoteB k).size ≤ 2 * k.size := by
  have := quote_len k.data.toList
  have hs : k.data.toList.length = k.size := by simp
  have : (quoteB k).size = (quoteL k.data.toList).length := by simp [quoteB, ByteArray.size]
  omega
set_option maxHeartbeats 2000000 in
theorem walk_quotes (k o : ByteArray) (hk : k.size ≤ 1048576) (ho : o.size ≤ 1048576) (w : World) (hT : Tabs w) : Calls Tryd.prog 3 #[.string k, .string o] w fun e w' => e = .returned (.bool true) ∧ Below w.heap.size w w' := by
  have hB := Below.refl w.heap.size w
  have hqs := quote_size k
  have HQ := Lib.hid (fun w => quote_any k (by omega) w)
  have HRQ := Lib.hid (fun w => RefGlob.quote_any k (by omega) w)
  have HR := Lib.hid (fun w => right_any (quoteB k) (by unfold lim; omega) w)
  have HM := Lib.hid (fun w => match_any (quoteB k) k (by unfold lim; omega) (by unfold lim; omega) w)
  have HMO := Lib.hid (fun w => match_any (quoteB k) o (by unfold lim; omega) (by unfold lim; omega) w)
  have HPL := Lib.hid (fun w => plain_any (quoteB k) (by omega) w)
  have HK := Lib.hid (fun w => Keys.right_any k (by unfold lim; omega) w)
  have HC := Lib.hid (fun w h => cmp_any k o (by unfold lim; omega) (by unfold lim; omega) w h)
  cases hr : (itemsL (nums (quoteB k))).isSome with
  | false =>
    rw [hr] at HR
    have hm : globB (quoteB k) k = false := globB_none (by simpa using hr)
    rw [hm] at HM
    clear hr hm HMO HPL HK HC
    generalize quoteB k = q at HQ HRQ HR HM
    go_enter Tryd.func3, Tryd.ntmps3
    go_wp2_with fail
    go_at_call 4
    with_reducible refine (HQ.out _).mono ?_
    rintro e w1 ⟨rfl, hn⟩
    replace hB := bel hB hn
    clear hn
    go_wp2_with fail
    go_at_call 5
    with_reducible refine (alive_any _).mono ?_
    rintro e w2 ⟨rfl, hn⟩
    replace hB := bel hB hn
    clear hn
    go_wp2_with fail
    go_at_call 6
    with_reducible refine (HRQ.out _).mono ?_
    rintro e w3 ⟨rfl, hn⟩
    replace hB := bel hB hn
    clear hn
    go_wp2_with fail
    go_at_call 7
    with_reducible refine (HR.out _).mono ?_
    rintro e w4 ⟨rfl, hn⟩
    replace hB := bel hB hn
    clear hn
    go_wp2_with fail
    go_at_call 9
    with_reducible refine (HM.out _).mono ?_
    rintro e w5 ⟨rfl, hn⟩
    replace hB := bel hB hn
    clear hn
    go_wp2
    go_ret
    exact ⟨rfl, hB⟩
  | true =>
    rw [hr] at HR
    by_cases h60 : (o.size : Int) ≤ 60
    · have d60 : ¬ (60 : Int) < (o.size : Int) := by omega
      cases hkr : keyRight k with
      | false =>
        rw [hkr] at HK
        clear hr hkr HMO HPL HC
        generalize quoteB k = q at HQ HRQ HR HM
        generalize globB q k = b at HM
        go_enter Tryd.func3, Tryd.ntmps3
        go_wp2_with fail
        go_at_call 4
        with_reducible refine (HQ.out _).mono ?_
        rintro e w1 ⟨rfl, hn⟩
        replace hB := bel hB hn
        clear hn
        go_wp2_with fail
        go_at_call 5
        with_reducible refine (alive_any _).mono ?_
        rintro e w2 ⟨rfl, hn⟩
        replace hB := bel hB hn
        clear hn
        go_wp2_with fail
        go_at_call 6
        with_reducible refine (HRQ.out _).mono ?_
        rintro e w3 ⟨rfl, hn⟩
        replace hB := bel hB hn
        clear hn
        go_wp2_with fail
        go_at_call 7
        with_reducible refine (HR.out _).mono ?_
        rintro e w4 ⟨rfl, hn⟩
        replace hB := bel hB hn
        clear hn
        go_wp2_with fail
        go_at_call 8
        with_reducible refine (HK.out _).mono ?_
        rintro e w5 ⟨rfl, hn⟩
        replace hB := bel hB hn
        clear hn
        go_wp2_with fail
        go_at_call 9
        with_reducible refine (HM.out _).mono ?_
        rintro e w6 ⟨rfl, hn⟩
        replace hB := bel hB hn
        clear hn
        cases b with
        | false =>
          go_wp2
          go_ret
          exact ⟨rfl, hB⟩
        | true =>
          go_wp2_with fail
          go_at_call 7
          with_reducible refine (HR.out _).mono ?_
          rintro e w7 ⟨rfl, hn⟩
          replace hB := bel hB hn
          clear hn
          go_wp2
          go_ret
          exact ⟨rfl, hB⟩
      | true =>
        rw [hkr] at HK
        have hw := key_whole hkr
        have hgr : globRight (quoteB k) = true := hr
        have HPT := Lib.hid (quote_plain hw hgr)
        have hm : globB (quoteB k) k = true := (quote_match hw hgr).2 rfl
        have HMC := Lib.hid (fun h => (quote_match (o := o) hw hgr).1 h)
        rw [hm] at HM
        clear hr hkr hw hgr hm
        generalize quoteB k = q at HQ HRQ HR HM HMO HPL HPT HMC
        have HPL2 : Hid (∀ w, Calls Tryd.prog 10 #[.string q] w fun e w' => e = .returned (.tuple #[.string k, .bool true]) ∧ Below w.heap.size w w') := fun w => (HPL.out w).mono (fun e w' h => by
          obtain ⟨h1, h2⟩ := h
          rw [HPT.out] at h2
          exact ⟨h2, h1⟩)
        clear HPL
        cases hb : globB q o with
        | false =>
          rw [hb] at HMO
          clear hb HMC
          go_enter Tryd.func3, Tryd.ntmps3
          go_wp2_with fail
          go_at_call 4
          with_reducible refine (HQ.out _).mono ?_
          rintro e w1 ⟨rfl, hn⟩
          replace hB := bel hB hn
          clear hn
          go_wp2_with fail
          go_at_call 5
          with_reducible refine (alive_any _).mono ?_
          rintro e w2 ⟨rfl, hn⟩
          replace hB := bel hB hn
          clear hn
          go_wp2_with fail
          go_at_call 6
          with_reducible refine (HRQ.out _).mono ?_
          rintro e w3 ⟨rfl, hn⟩
          replace hB := bel hB hn
          clear hn
          go_wp2_with fail
          go_at_call 7
          with_reducible refine (HR.out _).mono ?_
          rintro e w4 ⟨rfl, hn⟩
          replace hB := bel hB hn
          clear hn
          go_wp2_with fail
          go_at_call 8
          with_reducible refine (HK.out _).mono ?_
          rintro e w5 ⟨rfl, hn⟩
          replace hB := bel hB hn
          clear hn
          go_wp2_with fail
          go_at_call 10
          with_reducible refine (HPL2.out _).mono ?_
          rintro e w6 ⟨rfl, hn⟩
          replace hB := bel hB hn
          clear hn
          go_wp2_with fail
          go_at_call 9
          with_reducible refine (HM.out _).mono ?_
          rintro e w7 ⟨rfl, hn⟩
          replace hB := bel hB hn
          clear hn
          go_wp2_with fail
          go_at_call 9
          with_reducible refine (HMO.out _).mono ?_
          rintro e w8 ⟨rfl, hn⟩
          replace hB := bel hB hn
          clear hn
          go_wp2
          go_ret
          exact ⟨rfl, hB⟩
        | true =>
          rw [hb] at HMO
          have hc : cmpS k o = 0 := by unfold cmpS; rw [HMC.out hb]; exact cmpL_self _
          rw [hc] at HC
          clear hb HMC hc
          go_enter Tryd.func3, Tryd.ntmps3
          go_wp2_with fail
          go_at_call 4
          with_reducible refine (HQ.out _).mono ?_
          rintro e w1 ⟨rfl, hn⟩
          replace hB := bel hB hn
          clear hn
          go_wp2_with fail
          go_at_call 5
          with_reducible refine (alive_any _).mono ?_
          rintro e w2 ⟨rfl, hn⟩
          replace hB := bel hB hn
          clear hn
          go_wp2_with fail
          go_at_call 6
          with_reducible refine (HRQ.out _).mono ?_
          rintro e w3 ⟨rfl, hn⟩
          replace hB := bel hB hn
          clear hn
          go_wp2_with fail
          go_at_call 7
          with_reducible refine (HR.out _).mono ?_
          rintro e w4 ⟨rfl, hn⟩
          replace hB := bel hB hn
          clear hn
          go_wp2_with fail
          go_at_call 8
          with_reducible refine (HK.out _).mono ?_
          rintro e w5 ⟨rfl, hn⟩
          replace hB := bel hB hn
          clear hn
          go_wp2_with fail
          go_at_call 10
          with_reducible refine (HPL2.out _).mono ?_
          rintro e w6 ⟨rfl, hn⟩
          replace hB := bel hB hn
          clear hn
          go_wp2_with fail
          go_at_call 9
          with_reducible refine (HM.out _).mono ?_
          rintro e w7 ⟨rfl, hn⟩
          replace hB := bel hB hn
          clear hn
          go_wp2_with fail
          go_at_call 9
          with_reducible refine (HMO.out _).mono ?_
          rintro e w8 ⟨rfl, hn⟩
          replace hB := bel hB hn
          clear hn
          go_wp2_with fail
          go_at_call 11
          with_reducible refine (HC.out _ (hT.below hB)).mono ?_
          rintro e w9 ⟨rfl, hn⟩
          replace hB := bel hB hn
          clear hn
          go_wp2
          go_ret
          exact ⟨rfl, hB⟩
    · have d60 : (60 : Int) < (o.size : Int) := by omega
      clear hr HMO HPL HC HK
      generalize quoteB k = q at HQ HRQ HR HM
      generalize globB q k = b at HM
      go_enter Tryd.func3, Tryd.ntmps3
      go_wp2_with fail
      go_at_call 4
      with_reducible refine (HQ.out _).mono ?_
      rintro e w1 ⟨rfl, hn⟩
      replace hB := bel hB hn
      clear hn
      go_wp2_with fail
      go_at_call 5
      with_reducible refine (alive_any _).mono ?_
      rintro e w2 ⟨rfl, hn⟩
      replace hB := bel hB hn
      clear hn
      go_wp2_with fail
      go_at_call 6
      with_reducible refine (HRQ.out _).mono ?_
      rintro e w3 ⟨rfl, hn⟩
      replace hB := bel hB hn
      clear hn
      go_wp2_with fail
      go_at_call 7
      with_reducible refine (HR.out _).mono ?_
      rintro e w4 ⟨rfl, hn⟩
      replace hB := bel hB hn
      clear hn
      go_wp2_with fail
      go_at_call 9
      with_reducible refine (HM.out _).mono ?_
      rintro e w6 ⟨rfl, hn⟩
      replace hB := bel hB hn
      clear hn
      cases b with
      | false =>
        go_wp2
        go_ret
        exact ⟨rfl, hB⟩
      | true =>
        go_wp2_with fail
        go_at_call 7
        with_reducible refine (HR.out _).mono ?_
        rintro e w7 ⟨rfl, hn⟩
        replace hB := bel hB hn
        clear hn
        go_wp2
        go_ret
        exact ⟨rfl, hB⟩
end Go.Proofs.YtfponjonbhnmlaaDoor.Glob
