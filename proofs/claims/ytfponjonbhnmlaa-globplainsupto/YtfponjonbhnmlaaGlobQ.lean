/-
  What package glob answers as a text that is quoted.
-/
import Derived.Test.YtfponjonbhnmlaaMarks
import Derived.Test.YtfponjonbhnmlaaQuoteMath
import Derived.Test.YtfponjonbhnmlaaGlobE
namespace Go.Proofs.Ytfponjonbhnmlaa.Glob
open Go.RowKit
open RuneM RefRune Own RefKeys GlobM Keys Build

theorem marked_isM (r : Nat) : marked r = isM r := by
  rw [Bool.eq_iff_iff]; simp [marked, isM]
theorem Bld.below {B b : Nat} {l : List UInt8} {w w' : World} (h : Bld B b l w) (hb : Below w.heap.size w w') : Bld B b l w' := by
  have hg : w.grownBy w' none := ⟨hb.os, hb.tape, hb.output, hb.size, fun k hk _ => hb.block k hk⟩
  have key : ∀ p, Lib.BuilderAtF TB TY B b p (Lib.byteCells l) w → Lib.BuilderAtF TB TY B b p (Lib.byteCells l) w' := by
    rintro p ⟨hB, v, h1, h2, h3⟩
    refine ⟨hB, v, ?_, h2.kept hg ?_, h3⟩
    · rw [hb.block b (Array.getElem?_eq_some_iff.1 h1).1]; exact h1
    · cases v.ownBlock with
      | none => exact .inl rfl
      | some k => right; simp
  rcases h with h | h
  · exact .inl (key _ h)
  · exact .inr (key _ h)
theorem iter_below2 {w w' : World} {k pos : Nat} {s : ByteArray} (h : w.heap[k]? = some (.stringIter s pos)) (hb : Below w.heap.size w w') : w'.heap[k]? = some (.stringIter s pos) := by
  rw [hb.block k (Array.getElem?_eq_some_iff.1 h).1]; exact h
theorem extract_list (s : ByteArray) (a b : Nat) : (s.extract a b).data.toList = (s.data.toList.take b).drop a := by
  rw [ByteArray.data_extract, Array.toList_extract, List.extract_eq_take_drop, List.drop_take]
/-- where Quote stands in its loop -/
def QuoteAt (s : ByteArray) (w : World) (x : Value) (wr : World) : Prop :=
  ∃ (pos from_ : Nat) (done : List (Nat × Nat)) (l : List UInt8), wr.heap[w.heap.size + 1]? = some (.stringIter s pos) ∧ Part s pos done ∧ x = .int .i64 (from_ : Int) ∧ from_ ≤ pos ∧ Bld w.heap.size w.heap.size l wr ∧ l ++ (s.data.toList.take pos).drop from_ = quoteL (s.data.toList.take pos) ∧ Below w.heap.size w wr
set_option maxRecDepth 100000 in
set_option maxHeartbeats 4000000 in
theorem quote_any (s : ByteArray) (hs : s.size ≤ 8796093022208) (w : World) : Calls Try.prog 18 #[.string s] w fun e w' => e = .returned (.string (quoteB s)) ∧ Below w.heap.size w w' := by
  have HN := Lib.hid (Bld.new w)
  have HB0 := Lib.hid ((Below.refl w.heap.size w).alloc (Nat.le_refl _) (.cells #[.pointer none, .slice none 0 0] TB))
  go_enter Try.func18, Try.ntmps18
  go_wp2
  go_loopw [4] (fun x wr => QuoteAt s w x wr) (fun _ wr => s.size - wr.iterPos (w.heap.size + 1))
  case atStart =>
    refine ⟨0, 0, [], [], ?_, Part.start s, rfl, Nat.le_refl _, HN.out.alloc _, by simp [quoteL], HB0.out.alloc (by simp) _⟩
    have := heap_new (w.alloc (.cells #[.pointer none, .slice none 0 0] TB)) (.stringIter s 0)
    rw [size_alloc] at this; exact this
  case round =>
    obtain ⟨pos, from_, done, l, hi, hP, rfl, hfp, hbld, heq, hBw⟩ := hrel
    have HI := Lib.hid hi
    have HP := Lib.hid hP
    have HBL := Lib.hid hbld
    have HEQ := Lib.hid heq
    have HBW := Lib.hid hBw
    have hle := hP.le
    have hz := hBw.size
    have hql := quote_len (s.data.toList.take pos)
    have hll : l.length + (pos - from_) ≤ 2 * s.size := by
      have h1 := congrArg List.length heq
      have hsz : s.data.toList.length = s.size := by simp
      simp only [List.length_append, List.length_drop, List.length_take, hsz] at h1 hql
      omega
    clear hql heq
    by_cases hlt : pos < s.size
    · have hnx : ∀ ty, (Instr.next (.pointer (some ⟨w.heap.size + 1, 0, none⟩)) true ty).run Try.prog wr = _ := fun ty => Lib.run_next_any_at wr (w.heap.size + 1) s pos ty hi hlt
      have hw := dec_width s pos hlt
      have HNX := Lib.hid (hP.next hlt)
      have HI2 := Lib.hid (Lib.iterAt_heap wr (w.heap.size + 1) s pos (pos + (Utf8.decode s pos).2) hi)
      have HBL2 := Lib.hid (hbld.iterAt hi (pos + (Utf8.decode s pos).2))
      have HB2 := Lib.hid (Lib.below_iterAt hBw (Nat.le_succ _) s (pos + (Utf8.decode s pos).2))
      have HQS := Lib.hid (quote_step s pos hlt)
      have HTD := Lib.hid (show (s.data.toList.take (pos + (Utf8.decode s pos).2)).drop pos = (s.data.toList.drop pos).take (Utf8.decode s pos).2 by rw [List.drop_take]; congr 1; omega)
      have HTF := Lib.hid (show (s.data.toList.take (pos + (Utf8.decode s pos).2)).drop from_ = (s.data.toList.take pos).drop from_ ++ (s.data.toList.drop pos).take (Utf8.decode s pos).2 by
        rw [List.take_add, List.drop_append_of_le_length (by simp; omega)])
      clear hi hP hbld hBw
      generalize Utf8.decode s pos = d at hnx hw HNX HI2 HBL2 HB2 HQS HTD HTF
      have HMK := Lib.hid (fun w => marked_any d.1 w)
      rw [marked_isM] at HMK
      go_wp2_with fail
      go_at_call 30
      with_reducible refine (HMK.out _).mono ?_
      rintro e w2 ⟨rfl, hb2⟩
      have HI3 := Lib.hid (iter_below2 HI2.out hb2)
      have HBL3 := Lib.hid (Bld.below HBL2.out hb2)
      have HB3 := Lib.hid (HB2.out.trans (hb2.mono HB2.out.size))
      clear hb2 HMK HI2 HBL2 HB2
      cases hm : isM d.1 with
      | false =>
        rw [hm] at HQS
        clear hm
        go_wp2
        go_roundw
        case rel => exact ⟨_, from_, _, l, HI3.out, HNX.out, rfl, by omega, HBL3.out, by rw [HTF.out, HQS.out, ← List.append_assoc, HEQ.out]; rfl, HB3.out⟩
        case measure => simp [World.iterPos, HI.out, HI3.out]; omega
      | true =>
        rw [hm] at HQS
        clear hm
        have l1 : (0 : Int) ≤ (from_ : Int) := by omega
        have l2 : (from_ : Int) ≤ (pos : Int) := by omega
        have l3 : (pos : Int) ≤ (s.size : Int) := by omega
        have HWS := Lib.hid (write_any w.heap.size w.heap.size l (s.extract from_ pos) w2 HBL3.out (by simp [ByteArray.size_extract]; omega) HB3.out.size)
        go_wp2_with fail
        go_at_call 26
        with_reducible refine HWS.out.mono ?_
        rintro e w3 ⟨rfl, hbl3, hst⟩
        have HI4 := Lib.hid (hst.2.iter HI3.out (by omega))
        have HB4 := Lib.hid (HB3.out.trans hst.1)
        rw [extract_list, HEQ.out] at hbl3
        have HWB := Lib.hid (byte_any w.heap.size w.heap.size (quoteL (s.data.toList.take pos)) 92 92 rfl w3 hbl3 (by
          have h1 := quote_len (s.data.toList.take pos)
          have h2 : (s.data.toList.take pos).length ≤ s.size := by simp; omega
          omega) HB4.out.size)
        clear hst hbl3 HWS
        go_wp2_with fail
        go_at_call 31
        with_reducible refine HWB.out.mono ?_
        rintro e w4 ⟨rfl, hbl4, hst⟩
        have HI5 := Lib.hid (hst.2.iter HI4.out (by omega))
        have HB5 := Lib.hid (HB4.out.trans hst.1)
        have HBL5 := Lib.hid hbl4
        clear hst hbl4 HWB
        go_wp2
        go_roundw
        case rel => exact ⟨_, pos, _, _, HI5.out, HNX.out, rfl, by omega, HBL5.out, by rw [HTD.out, HQS.out]; simp, HB5.out⟩
        case measure => simp [World.iterPos, HI.out, HI5.out]; omega
    · have hnx : ∀ ty, (Instr.next (.pointer (some ⟨w.heap.size + 1, 0, none⟩)) true ty).run Try.prog wr = _ := fun ty => Lib.run_next_end_at wr (w.heap.size + 1) s pos ty hi hlt
      have hpe : pos = s.size := by omega
      subst hpe
      have l1 : (0 : Int) ≤ (from_ : Int) := by omega
      have l2 : (from_ : Int) ≤ (s.size : Int) := by omega
      have HWS := Lib.hid (write_any w.heap.size w.heap.size l (s.extract from_ s.size) wr hbld (by simp [ByteArray.size_extract]; omega) hz)
      have HF := Lib.hid (show l ++ (s.extract from_ s.size).data.toList = quoteL s.data.toList by
        rw [extract_list, HEQ.out, List.take_of_length_le (by simp)])
      clear hi hP hbld hBw
      go_wp2_with fail
      go_at_call 26
      with_reducible refine HWS.out.mono ?_
      rintro e w3 ⟨rfl, hbl3, hst⟩
      rw [HF.out] at hbl3
      have HB4 := Lib.hid (HBW.out.trans hst.1)
      have HST := Lib.hid (string_any w.heap.size w.heap.size (quoteL s.data.toList) w3 hbl3 HB4.out.size)
      clear hst hbl3 HWS
      go_wp2_with fail
      go_at_call 27
      with_reducible refine HST.out.mono ?_
      rintro e w4 ⟨rfl, hbl4, hst⟩
      have HB5 := Lib.hid (HB4.out.trans hst.1)
      clear hst hbl4 HST
      go_wp2
      go_ret
      exact ⟨rfl, HB5.out⟩
end Go.Proofs.Ytfponjonbhnmlaa.Glob
