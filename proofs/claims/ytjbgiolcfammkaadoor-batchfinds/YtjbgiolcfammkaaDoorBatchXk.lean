/-
  What package batch answers of any writes: Keys.
-/
import Derived.Test.YtjbgiolcfammkaaDoorBatchXc
import Derived.Test.YtjbgiolcfammkaaDoorKeysF
namespace Go.Proofs.YtjbgiolcfammkaaDoor.Batch
open Go.RowKit
open Own Tup RefKeys RefSort

theorem strs_set (l : List Wr) (k : Nat) (h : k < l.length) : (strsV ((l.take k).map (·.key)) ++ List.replicate (l.length - k) (Value.string ⟨#[]⟩)).set k (.string l[k].key) = strsV ((l.take (k + 1)).map (·.key)) ++ List.replicate (l.length - (k + 1)) (Value.string ⟨#[]⟩) := by
  have hlen : (strsV ((l.take k).map (·.key))).length = k := by simp [strsV]; omega
  rw [keys_succ l k h, show l.length - k = (l.length - (k + 1)) + 1 by omega, List.replicate_succ]
  rw [List.set_append_right _ _ (by omega), hlen, Nat.sub_self]; simp
structure KeysXAt (l : List Wr) (w : World) (k : Nat) (wr : World) : Prop where
  le : k ≤ l.length
  own : wr.ownsRow w.heap.size 9 1 (.slice (some ⟨w.heap.size, 0, none⟩) l.length l.length) l.length (strsV ((l.take k).map (·.key)) ++ List.replicate (l.length - k) (Value.string ⟨#[]⟩))
  below : Below w.heap.size w wr
set_option maxRecDepth 100000 in
set_option maxHeartbeats 8000000 in
theorem keys_any (a : Option Addr) (l : List Wr) (cap : Nat) (hl : l.length ≤ 1000000) (hz : ∀ x ∈ l, x.key.size ≤ 8796093022208) (w : World) (hT : Tb w) (hr : WAt w a l) :
    Calls Tryd.prog 20 #[.slice a l.length cap] w fun e w' => ∃ v, e = .returned v ∧ Row w' v (strsV (keysW l)) ∧ Below w.heap.size w w' := by
  have HR := Lib.hid hr
  have HT := Lib.hid hT
  have HZ : Hid (∀ s ∈ l.map (·.key), s.size ≤ Keys.lim) := by
    intro s hs
    obtain ⟨x, hx, rfl⟩ := List.mem_map.1 hs
    have := hz x hx
    unfold Keys.lim; omega
  clear hr hz hT
  obtain ⟨i0, hi, hz0, hz1, hz2⟩ := info_parts infoStr
  obtain ⟨w1, hmk, hown, hgr⟩ := run_makeSlice_full (P := Tryd.prog) w w.heap.size 35 9 i0 _ 1 Tryd.underlying35 hi hz0 hz1 .i64 .i64 l.length (by omega) (by rw [hz2]; omega) (by simp only [maxLen]; omega) (Nat.le_refl _)
  rw [Nat.mul_one, show (Value.string ⟨#[]⟩).cells = #[Value.string ⟨#[]⟩] from rfl, toList_madeCells_one] at hown
  have HO1 := Lib.hid hown
  have HB1 := Lib.hid (below_append (Below.refl w.heap.size w) hgr (Nat.le_refl _) (by simp))
  clear hown hgr hi hz0 hz1 hz2
  go_enter Tryd.func20, Tryd.ntmps20
  go_wp2
  go_loopw [11] (fun i wr => ∃ k : Nat, i = .int .i64 (k : Int) ∧ KeysXAt l w k wr) (fun i _ => l.length - (intOf i).toNat)
  case atStart => exact ⟨0, rfl, ⟨Nat.zero_le _, by rw [List.take_zero, Nat.sub_zero]; exact HO1.out, HB1.out⟩⟩
  case round =>
    obtain ⟨k, rfl, hle, hown, hbel⟩ := hrel
    have HO := Lib.hid hown
    have HB := Lib.hid hbel
    have hbs := hbel.size
    clear hown hbel hmk HO1 HB1
    by_cases hk : k < l.length
    · have d1 : decide ((k : Int) < (l.length : Int)) = true := by simp; omega
      have d2 : decide (k < l.length) = true := by simp; omega
      obtain ⟨b, off, ha, c0, c1, c2⟩ := WAt.get (Tup.At.below HR.out HB.out) (List.getElem?_eq_getElem hk)
      have HS := Lib.hid (strs_set l k hk)
      generalize l[k] = x at c0 c1 c2 HS
      subst ha
      have hlw : k < (strsV ((l.take k).map (·.key)) ++ List.replicate (l.length - k) (Value.string ⟨#[]⟩)).length := by simp [strsV]; omega
      have HO2 := Lib.hid (owns_below HO.out (bel_alloc wr (.cells #[.string x.key, .bool x.del, .string x.val] 31)))
      obtain ⟨o0, e0⟩ := owns_at HO2.out k hlw
      have e1 := HO2.out.frozenAt k
      have HO3 := Lib.hid (owns_set HO2.out k (.string x.key))
      rw [HS.out] at HO3
      have HB3 := Lib.hid ((HB.out.alloc hbs (.cells #[.string x.key, .bool x.del, .string x.val] 31)).setCell (p := ⟨w.heap.size, k, none⟩) (Nat.le_refl _) (.string x.key))
      clear hlw
      go_wp2
      refine ⟨⟨k + 1, by go_num, ⟨by omega, HO3.out, HB3.out⟩⟩, by simp [intOf]; omega⟩
    · have d1 : decide ((k : Int) < (l.length : Int)) = false := by simp; omega
      have d2 : decide (k < l.length) = false := by simp; omega
      have hM : Mine wr w.heap.size 9 (.slice (some ⟨w.heap.size, 0, none⟩) l.length l.length) (strsV (l.map (·.key))) := by
        have := HO.out
        rw [List.take_of_length_le (by omega), show l.length - k = 0 by omega, List.replicate_zero, List.append_nil] at this
        unfold Mine
        rw [show (strsV (l.map (·.key))).length = l.length by simp [strsV]]
        exact this
      have HSRT := Lib.hid (Keys.sort_any _ (l.map (·.key)) w.heap.size (by simpa using hl) HZ.out wr (HT.out.below HB.out) hM)
      clear hM HO
      go_wp2_with fail
      go_at_call 34
      with_reducible refine HSRT.out.mono ?_
      rintro e w2 ⟨v, rfl, hrow, hb2⟩
      go_wp2
      go_ret
      exact ⟨_, rfl, hrow, HB.out.trans (hb2.mono hbs)⟩
end Go.Proofs.YtjbgiolcfammkaaDoor.Batch
