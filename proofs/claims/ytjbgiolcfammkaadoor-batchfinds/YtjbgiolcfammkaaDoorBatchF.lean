/-
  What the document's own Read answers of any bytes.
-/
import Derived.Test.YtjbgiolcfammkaaDoorBatchE
namespace Go.Proofs.YtjbgiolcfammkaaDoor.Batch
open Go.RowKit
open Own Tup RefKeys RefSort Lay LayM RefRune

/-- what is read of a row's writes, from a place on -/
def readGo (b : ByteArray) : Nat → Nat → List Wr → List Wr × Nat
  | 0, p, acc => if p = b.size then (if rightW acc = 0 then (acc, 0) else ([], rightW acc)) else ([], 2)
  | n + 1, p, acc => if b.size ≤ p then ([], 3) else if 1 < bAt b p then ([], 2) else
    if (getT b ((p : Int) + 1) 48).2.2 ≠ 0 then ([], (getT b ((p : Int) + 1) 48).2.2) else
    if bAt b p = 1 then readGo b n (getT b ((p : Int) + 1) 48).2.1 (acc ++ [⟨(getT b ((p : Int) + 1) 48).1, true, ByteArray.empty⟩]) else
    if (getT b ((getT b ((p : Int) + 1) 48).2.1 : Nat) 48).2.2 ≠ 0 then ([], (getT b ((getT b ((p : Int) + 1) 48).2.1 : Nat) 48).2.2) else
    readGo b n (getT b ((getT b ((p : Int) + 1) 48).2.1 : Nat) 48).2.1 (acc ++ [⟨(getT b ((p : Int) + 1) 48).1, false, (getT b ((getT b ((p : Int) + 1) 48).2.1 : Nat) 48).1⟩])
def readW (b : ByteArray) : List Wr × Nat :=
  if (getN b 0).2.2 ≠ 0 then ([], (getN b 0).2.2) else if (getN b 0).1 < 1 ∨ 8 < (getN b 0).1 then ([], 12) else readGo b (getN b 0).1 (getN b 0).2.1 []
theorem getT_ok {b : ByteArray} {a : Int} {s : ByteArray} {p : Nat} (h : getT b a 48 = (s, p, 0)) : s.size ≤ 48 ∧ p ≤ b.size := by
  unfold getT at h
  split at h
  · rename_i h0; simp only [Prod.mk.injEq] at h; exact absurd h.2.2 h0
  rename_i h0
  obtain ⟨k, v, n, -, -, -, hn, hv, hp, -, -⟩ := getN_ok (by simpa using h0)
  rw [hn] at h
  simp only at h
  split at h
  · simp at h
  split at h
  · simp at h
  · rename_i h1 h2
    simp only [Prod.mk.injEq, and_true] at h
    obtain ⟨rfl, rfl⟩ := h
    refine ⟨?_, by omega⟩
    rw [ByteArray.size_extract]; omega
structure ReadAt (b : ByteArray) (n : Nat) (w : World) (v : Value) (k p : Nat) (acc : List Wr) (wr : World) : Prop where
  le : k ≤ n
  pl : p ≤ b.size
  len : acc.length = k
  short : ∀ x ∈ acc, x.key.size ≤ 48
  told : readW b = readGo b (n - k) p acc
  own : WMine wr w.heap.size v acc
  below : Below w.heap.size w wr
/-- what Read answers -/
def ReadSays (r : List Wr × Nat) (w : World) (e : Ending) (w' : World) : Prop := ∃ v, e = .returned (.tuple #[v, .int .i64 (r.2 : Int)]) ∧ WMine w' w.heap.size v r.1 ∧ Below w.heap.size w w'
set_option maxRecDepth 100000 in
set_option maxHeartbeats 8000000 in
theorem refRead_any (b : ByteArray) (hb : b.size ≤ 9000000000000000000) (w : World) :
    Calls Tryd.prog 25 #[.string b] w (ReadSays (readW b) w) := by
  have hml : b.size ≤ maxLen := by simp only [maxLen]; omega
  have HGN := Lib.hid (fun w => refGetNum_any b hml 0 w)
  by_cases h0 : (getN b 0).2.2 = 0
  · obtain ⟨k0, n, n1, -, -, -, hgn, hn32, hp0, -, -⟩ := getN_ok h0
    have HRW : Hid (readW b = if n < 1 ∨ 8 < n then ([], 12) else readGo b n (k0 + n1) []) := by
      unfold readW; rw [hgn, if_neg (by simp)]; rfl
    rw [hgn] at HGN
    unfold tupN at HGN
    obtain ⟨p0, hpe⟩ : ∃ p0, p0 = k0 + n1 := ⟨_, rfl⟩
    rw [← hpe] at HGN HRW hp0
    clear h0 hgn hpe
    by_cases hn : n < 1 ∨ 8 < n
    · rw [if_pos hn] at HRW
      have hd : decide ((n : Int) < 1) = true ∨ (decide ((n : Int) < 1) = false ∧ decide ((8 : Int) < (n : Int)) = true) := by simp; omega
      clear hn
      rcases hd with d1 | ⟨d1, d2⟩
      all_goals
        go_enter Tryd.func25, Tryd.ntmps25
        go_wp2_with (go_at_call 44; (with_reducible refine (HGN.out _).mono ?_); rintro e w' ⟨rfl, rfl⟩)
        go_ret2
        exact ⟨_, by rw [HRW.out]; rfl, by rw [HRW.out]; exact WMine.nil _ _, Below.refl _ _⟩
    · rw [if_neg hn] at HRW
      have d1 : decide ((n : Int) < 1) = false := by simp; omega
      have d2 : decide ((8 : Int) < (n : Int)) = false := by simp; omega
      have hn8 : n ≤ 8 := by omega
      clear hn
      go_enter Tryd.func25, Tryd.ntmps25
      go_wp2_with (go_at_call 44; (with_reducible refine (HGN.out _).mono ?_); rintro e w' ⟨rfl, rfl⟩)
      go_loopw [5, 7, 8] (fun at_ v i wr => ∃ (k p : Nat) (acc : List Wr), i = .int .i64 (k : Int) ∧ at_ = .int .i64 (p : Int) ∧ ReadAt b n w v k p acc wr) (fun _ _ i _ => n - (intOf i).toNat)
      case atStart => exact ⟨0, p0, [], rfl, rfl, ⟨Nat.zero_le _, hp0, rfl, by simp, HRW.out, WMine.nil _ _, Below.refl _ _⟩⟩
      case round =>
        obtain ⟨k, p, acc, rfl, rfl, hkn, hpl, hlen, hshort, htold, hown, hbel⟩ := hrel
        have HO := Lib.hid hown
        have HB := Lib.hid hbel
        have HSH := Lib.hid hshort
        have HG := Lib.hid htold
        have hbs := hbel.size
        clear hown hbel hshort htold HRW HGN
        by_cases hlt : k < n
        · have d3 : decide ((k : Int) < (n : Int)) = true := by simp; omega
          have d4 : decide (k < n) = true := by simp; omega
          rw [show n - k = (n - (k + 1)) + 1 by omega] at HG
          have b1 : (acc.length + 1) * 40 ≤ 140737488355328 := by omega
          have b2 : acc.length + 1 ≤ maxLen := by simp only [maxLen]; omega
          by_cases hp : p < b.size
          · have d5 : decide ((b.size : Int) ≤ (p : Int)) = false := by simp; omega
            have d6 : decide (b.size ≤ p) = false := by simp; omega
            have hpi : (p : Int) < (b.size : Int) := by omega
            have hcc := bAt_eq b p hp
            have hc256 := bAt_lt b p
            have HST := Lib.hid (show readGo b (n - (k + 1) + 1) p acc = _ from by rw [readGo, if_neg (by omega)])
            rw [HST.out] at HG
            clear HST
            have HT1 := Lib.hid (fun w => refGetText_any b hml ((p : Int) + 1) 48 w)
            have HTT := Lib.hid (fun q w => refGetText_any b hml ((q : Nat) : Int) 48 w)
            have HOK := Lib.hid (fun (a : Int) s q => getT_ok (b := b) (a := a) (s := s) (p := q))
            generalize bAt b p = c at *
            unfold tupT at HT1 HTT
            by_cases hc1 : 1 < c
            · rw [if_pos hc1] at HG
              have q1 : decide ((1 : Int) < (c : Int)) = true := by simp; omega
              go_wp2
              go_ret2
              exact ⟨_, by rw [HG.out]; rfl, by rw [HG.out]; exact WMine.nil _ _, HB.out⟩
            · rw [if_neg hc1] at HG
              have q1 : decide ((1 : Int) < (c : Int)) = false := by simp; omega
              obtain ⟨⟨s1, p1, e1⟩, hr1⟩ : ∃ r, r = getT b ((p : Int) + 1) 48 := ⟨_, rfl⟩
              rw [← hr1] at HG HT1
              simp only at HG HT1
              by_cases he1 : e1 = 0
              · subst he1
                rw [if_neg (by simp)] at HG
                have hs1 := (HOK.out _ _ _ hr1.symm).1
                have hp1 := (HOK.out _ _ _ hr1.symm).2
                clear hr1
                by_cases hc : c = 1
                · have q2 : ((c : Int) == 1) = true := by rw [hc]; rfl
                  rw [if_pos hc] at HG
                  have HT2 := Lib.hid trivial
                  have HSR := Lib.hid HG.out
                  clear hc HTT
                  go_wp2_with (first
                    | (go_at_call 45; (with_reducible refine (HT1.out _).mono ?_); rintro e w' ⟨rfl, rfl⟩)
                    | (go_at_call 45; (with_reducible refine (HT2.out _).mono ?_); rintro e w' ⟨rfl, rfl⟩)
                    | (at_builtin; (refine append_tup rfl _ _ 22 rfl w.heap.size 31 (.agg #[.string ⟨#[]⟩, .bool false, .string ⟨#[]⟩]) 3 40 Tryd.underlying22 infoW rfl (by decide) u7 _ _ rfl (show World.ownsRow _ w.heap.size _ 3 u7 acc.length (flatW acc) from owns_below (owns_below HO.out (bel_alloc _ _)) (bel_alloc _ _)) (wr.heap.size + 1) (wrC ⟨s1, true, ByteArray.empty⟩) rfl rfl ?c0 ?c1 b1 b2 ?c2 ?_); (case c0 => exact lies_two wr _ (wrC ⟨s1, true, ByteArray.empty⟩) _); (case c1 => simp [wrC, Value.oneCell']); (case c2 => (simp; omega)); intro g cap2 w3 hown3 hgrow3 hat3 hlt3))
                  have HB3 := Lib.hid (below_append ((HB.out.alloc hbs (.cells (wrC ⟨s1, true, ByteArray.empty⟩).toArray 31)).alloc (by simp; omega) (.cells (wrC ⟨s1, true, ByteArray.empty⟩).toArray 31)) hgrow3 (by simp; omega) (fun t ht => (owns_lt HO.out t ht).2))
                  refine ⟨⟨k + 1, p1, acc ++ [⟨s1, true, ByteArray.empty⟩], by go_num, by go_num, ⟨by omega, hp1, by simp; omega, ?_, HSR.out, ?_, HB3.out⟩⟩, by simp [intOf]; omega⟩
                  · intro z hz
                    rcases List.mem_append.1 hz with hz | hz
                    · exact HSH.out z hz
                    · rw [List.mem_singleton.1 hz]; exact hs1
                  · unfold WMine
                    rw [flatW_snoc, List.length_append, List.length_singleton, hlen]
                    rw [hlen] at hown3
                    exact hown3
                · have q2 : ((c : Int) == 1) = false := by simp; omega
                  rw [if_neg hc] at HG
                  have HT2 := Lib.hid (HTT.out p1)
                  obtain ⟨⟨s2, p2, e2⟩, hr2⟩ : ∃ r, r = getT b ((p1 : Nat) : Int) 48 := ⟨_, rfl⟩
                  rw [← hr2] at HG HT2
                  simp only at HG HT2
                  clear hc HTT
                  by_cases he2 : e2 = 0
                  · subst he2
                    rw [if_neg (by simp)] at HG
                    have hp2 := (HOK.out _ _ _ hr2.symm).2
                    have HSR := Lib.hid HG.out
                    clear hr2
                    go_wp2_with (first
                      | (go_at_call 45; (with_reducible refine (HT1.out _).mono ?_); rintro e w' ⟨rfl, rfl⟩)
                      | (go_at_call 45; (with_reducible refine (HT2.out _).mono ?_); rintro e w' ⟨rfl, rfl⟩)
                      | (at_builtin; (refine append_tup rfl _ _ 22 rfl w.heap.size 31 (.agg #[.string ⟨#[]⟩, .bool false, .string ⟨#[]⟩]) 3 40 Tryd.underlying22 infoW rfl (by decide) u7 _ _ rfl (show World.ownsRow _ w.heap.size _ 3 u7 acc.length (flatW acc) from owns_below (owns_below HO.out (bel_alloc _ _)) (bel_alloc _ _)) (wr.heap.size + 1) (wrC ⟨s1, false, s2⟩) rfl rfl ?c0 ?c1 b1 b2 ?c2 ?_); (case c0 => exact lies_two wr _ (wrC ⟨s1, false, s2⟩) _); (case c1 => simp [wrC, Value.oneCell']); (case c2 => (simp; omega)); intro g cap2 w3 hown3 hgrow3 hat3 hlt3))
                    have HB3 := Lib.hid (below_append ((HB.out.alloc hbs (.cells (wrC ⟨s1, false, s2⟩).toArray 31)).alloc (by simp; omega) (.cells (wrC ⟨s1, false, s2⟩).toArray 31)) hgrow3 (by simp; omega) (fun t ht => (owns_lt HO.out t ht).2))
                    refine ⟨⟨k + 1, p2, acc ++ [⟨s1, false, s2⟩], by go_num, by go_num, ⟨by omega, hp2, by simp; omega, ?_, HSR.out, ?_, HB3.out⟩⟩, by simp [intOf]; omega⟩
                    · intro z hz
                      rcases List.mem_append.1 hz with hz | hz
                      · exact HSH.out z hz
                      · rw [List.mem_singleton.1 hz]; exact hs1
                    · unfold WMine
                      rw [flatW_snoc, List.length_append, List.length_singleton, hlen]
                      rw [hlen] at hown3
                      exact hown3
                  · rw [if_pos he2] at HG
                    have q3 : ((e2 : Int) == 0) = false := by simpa using he2
                    clear he2 hr2
                    go_wp2_with (first
                      | (go_at_call 45; (with_reducible refine (HT1.out _).mono ?_); rintro e w' ⟨rfl, rfl⟩)
                      | (go_at_call 45; (with_reducible refine (HT2.out _).mono ?_); rintro e w' ⟨rfl, rfl⟩))
                    go_ret2
                    exact ⟨_, by rw [HG.out]; rfl, by rw [HG.out]; exact WMine.nil _ _, HB.out.alloc hbs _⟩
              · rw [if_pos he1] at HG
                have q3 : ((e1 : Int) == 0) = false := by simpa using he1
                clear he1 hr1 HTT
                go_wp2_with (go_at_call 45; (with_reducible refine (HT1.out _).mono ?_); rintro e w' ⟨rfl, rfl⟩)
                go_ret2
                exact ⟨_, by rw [HG.out]; rfl, by rw [HG.out]; exact WMine.nil _ _, HB.out.alloc hbs _⟩
          · have d5 : decide ((b.size : Int) ≤ (p : Int)) = true := by simp; omega
            have d6 : decide (b.size ≤ p) = true := by simp; omega
            have HST := Lib.hid (show readGo b (n - (k + 1) + 1) p acc = ([], 3) by rw [readGo, if_pos (by omega)])
            go_wp2
            go_ret2
            exact ⟨_, by rw [HG.out, HST.out]; rfl, by rw [HG.out, HST.out]; exact WMine.nil _ _, HB.out⟩
        · have d3 : decide ((k : Int) < (n : Int)) = false := by simp; omega
          have d4 : decide (k < n) = false := by simp; omega
          rw [show n - k = 0 by omega, readGo] at HG
          by_cases hpe : p = b.size
          · rw [if_pos hpe] at HG
            have q1 : ((p : Int) == (b.size : Int)) = true := by simp; omega
            have q2 : ((p : Int) != (b.size : Int)) = false := by simp; omega
            obtain ⟨va, vc, hv⟩ := owns_slice HO.out
            subst hv
            have HRT := Lib.hid (refRight_any va acc vc (by simp only [maxLen]; omega) (fun x hx => Nat.le_trans (HSH.out x hx) (by decide)) wr (Tup.At.of_owns HO.out))
            clear hpe hlen
            by_cases hc : rightW acc = 0
            · rw [if_pos hc] at HG
              rw [hc] at HRT
              go_wp2_with (go_at_call 12; (with_reducible refine HRT.out.mono ?_); rintro e w3 ⟨rfl, hb3⟩)
              go_ret2
              exact ⟨_, by rw [HG.out]; rfl, by rw [HG.out]; exact owns_below HO.out hb3, HB.out.trans (hb3.mono hbs)⟩
            · rw [if_neg hc] at HG
              generalize rightW acc = cc at *
              have q3 : ((cc : Int) == 0) = false := by simpa using hc
              clear hc
              go_wp2_with (go_at_call 12; (with_reducible refine HRT.out.mono ?_); rintro e w3 ⟨rfl, hb3⟩)
              go_ret2
              exact ⟨_, by rw [HG.out]; rfl, by rw [HG.out]; exact WMine.nil _ _, HB.out.trans (hb3.mono hbs)⟩
          · rw [if_neg hpe] at HG
            have q1 : ((p : Int) == (b.size : Int)) = false := by simp; omega
            have q2 : ((p : Int) != (b.size : Int)) = true := by simp; omega
            clear hpe
            go_wp2
            go_ret2
            exact ⟨_, by rw [HG.out]; rfl, by rw [HG.out]; exact WMine.nil _ _, HB.out⟩
  · have HE := Lib.hid (show readW b = ([], (getN b 0).2.2) by unfold readW; rw [if_pos h0])
    unfold tupN at HGN
    generalize getN b 0 = r at *
    have q1 : ((r.2.2 : Int) == 0) = false := by simpa using h0
    clear h0
    go_enter Tryd.func25, Tryd.ntmps25
    go_wp2_with (go_at_call 44; (with_reducible refine (HGN.out _).mono ?_); rintro e w' ⟨rfl, rfl⟩)
    go_ret2
    exact ⟨_, by rw [HE.out]; rfl, by rw [HE.out]; exact WMine.nil _ _, Below.refl _ _⟩
end Go.Proofs.YtjbgiolcfammkaaDoor.Batch
