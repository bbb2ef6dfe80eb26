/-
  What package glob answers as the one text that a pattern says.
-/
import Derived.Test.YtfponjonbhnmlaaGlobQ
import Derived.Test.YtfponjonbhnmlaaGlobG
import Derived.Test.YtfponjonbhnmlaaPlainMath
namespace Go.Proofs.Ytfponjonbhnmlaa.Glob
open Go.RowKit
open RuneM RefRune Own RefKeys GlobM Keys Build RefGlob

theorem dec_low {s : ByteArray} {i : Nat} (h : (Utf8.decode s i).1 < 128) : (Utf8.decode s i).2 = 1 := by
  have hd := dec_refB s i
  by_cases hb : bA s i < 128
  · rw [hd]; unfold refN; rw [if_pos hb]
  · have hr := ref_high (s.size - i) (bA s i) (bA s (i + 1)) (bA s (i + 2)) (bA s (i + 3)) (by omega)
    rw [← hd] at hr; omega
theorem bytes_app (x : List UInt8) (s : ByteArray) (a n : Nat) : (⟨x.toArray⟩ : ByteArray) ++ s.extract a (a + n) = ⟨(x ++ (s.data.toList.drop a).take n).toArray⟩ := by
  apply ByteArray.ext
  rw [ByteArray.data_append]
  apply Array.ext'
  rw [Array.toList_append, extract_list, List.drop_take, show a + n - a = n by omega]
/-- what is left of a pattern's one text -/
def plainR (s : ByteArray) (pos f : Nat) (q : Bool) (x : List UInt8) : Option ByteArray :=
  if q then plainF s f (pos - 1) ((92, 1) :: rest s pos) ⟨x.toArray⟩ else plainF s f pos (rest s pos) ⟨x.toArray⟩
theorem plainR_quoted {s : ByteArray} {pos f : Nat} {x : List UInt8} (h : pos < s.size) (h1 : 1 ≤ pos) : plainR s pos (f + 1) true x = plainR s (pos + (Utf8.decode s pos).2) f false (x ++ (s.data.toList.drop pos).take (Utf8.decode s pos).2) := by
  unfold plainR
  rw [if_pos rfl, if_neg (by simp), rest_cons s pos h, plainF_two s f (pos - 1) (92, 1) _ _ _ rfl]
  simp only
  rw [show pos - 1 + 1 = pos by omega, bytes_app]
theorem plainR_stroke {s : ByteArray} {pos f : Nat} {x : List UInt8} (h : pos < s.size) (h92 : (Utf8.decode s pos).1 = 92) : plainR s pos f false x = plainR s (pos + (Utf8.decode s pos).2) f true x := by
  have hw := dec_low (s := s) (i := pos) (by omega)
  unfold plainR
  rw [if_pos rfl, if_neg (by simp), rest_cons s pos h, hw]
  rw [show Utf8.decode s pos = (92, 1) from Prod.ext h92 hw]
  rfl
theorem plainR_no {s : ByteArray} {pos f : Nat} {x : List UInt8} (h : pos < s.size) (hn : (Utf8.decode s pos).1 = 42 ∨ (Utf8.decode s pos).1 = 63 ∨ (Utf8.decode s pos).1 = 91) : plainR s pos (f + 1) false x = none := by
  unfold plainR
  rw [if_neg (by simp), rest_cons s pos h, plainF_no s f pos _ _ _ hn]
theorem plainR_one {s : ByteArray} {pos f : Nat} {x : List UInt8} (h : pos < s.size) (hn : ¬ ((Utf8.decode s pos).1 = 42 ∨ (Utf8.decode s pos).1 = 63 ∨ (Utf8.decode s pos).1 = 91)) (h2 : (Utf8.decode s pos).1 ≠ 92) : plainR s pos (f + 1) false x = plainR s (pos + (Utf8.decode s pos).2) f false (x ++ (s.data.toList.drop pos).take (Utf8.decode s pos).2) := by
  unfold plainR
  rw [if_neg (by simp), if_neg (by simp), rest_cons s pos h, plainF_one s f pos _ _ _ hn h2, bytes_app]
theorem plainR_end {s : ByteArray} {f : Nat} {x : List UInt8} : plainR s s.size (f + 1) false x = some ⟨x.toArray⟩ := by
  unfold plainR
  rw [if_neg (by simp), rest_end s s.size (Nat.le_refl _)]; rfl
/-- where Plain stands in its loop; w1: the world behind Right -/
def PlainAt (s : ByteArray) (w1 : World) (x5 x6 : Value) (wr : World) : Prop :=
  ∃ (pos from_ f : Nat) (q : Bool) (done : List (Nat × Nat)) (l : List UInt8), wr.heap[w1.heap.size + 1]? = some (.stringIter s pos) ∧ Part s pos done ∧ x5 = .int .i64 (from_ : Int) ∧ x6 = .bool q ∧ q = (sgDone (done.map (·.1))).2 ∧ (q = true → 1 ≤ pos) ∧ from_ ≤ pos ∧
    Bld w1.heap.size w1.heap.size l wr ∧ plainF s ((runes s).length + 1) 0 (runes s) ByteArray.empty = plainR s pos f q (l ++ (s.data.toList.take pos).drop from_) ∧ (rest s pos).length + (if q then 1 else 0) < f ∧ l.length + (pos - from_) ≤ pos ∧ Below w1.heap.size w1 wr
set_option maxRecDepth 100000 in
set_option maxHeartbeats 4000000 in
theorem plain_any (s : ByteArray) (hs : s.size ≤ 8796093022208) (w : World) : Calls Try.prog 14 #[.string s] w (PlainSays s w) := by
  have HPS : Hid (∀ e w', Below w.heap.size w w' → (∀ t, globPlain s = some t → e = .returned (.tuple #[.string t, .bool true])) → (globPlain s = none → e = .returned (.tuple #[.string ByteArray.empty, .bool false])) → PlainSays s w e w') := by
    intro e w' h1 h2 h3
    refine ⟨h1, ?_⟩
    cases hq : globPlain s with
    | none => exact h3 hq
    | some t => exact h2 t hq
  have hR := right_any s (by unfold lim; omega) w
  cases hg : itemsL (nums s) with
  | none =>
    rw [hg] at hR
    have HR := Lib.hid hR
    have HG := Lib.hid (show globPlain s = none by simp [globPlain, globRight, hg])
    clear hg hR
    go_enter Try.func14, Try.ntmps14
    go_wp2_with fail
    go_at_call 10
    with_reducible refine HR.out.mono ?_
    rintro e w1 ⟨rfl, hb⟩
    simp only [Option.isSome_none]
    go_wp2
    go_ret2
    exact HPS.out _ _ hb (fun t h => by rw [HG.out] at h; cases h) (fun _ => rfl)
  | some its =>
    rw [hg] at hR
    have HR := Lib.hid hR
    have HG := Lib.hid (show globPlain s = plainF s ((runes s).length + 1) 0 (runes s) ByteArray.empty by simp [globPlain, globRight, hg])
    have HSN : Hid ((sgDone (nums s)).2 = false) := by
      show _ = _
      have h24 : ¬ 24 < (nums s).length := fun h => by rw [itemsL_long _ h] at hg; cases hg
      rw [itemsL_signs _ h24] at hg
      cases hq : signsL (nums s) with
      | none => rw [hq] at hg; cases hg
      | some L => rw [sgDone_some hq]
    clear hg hR
    go_enter Try.func14, Try.ntmps14
    go_wp2_with fail
    go_at_call 10
    with_reducible refine HR.out.mono ?_
    rintro e w1 ⟨rfl, hb⟩
    simp only [Option.isSome_some]
    have HB := Lib.hid hb
    have HN := Lib.hid (Bld.new w1)
    have HB0 := Lib.hid ((Below.refl w1.heap.size w1).alloc (Nat.le_refl _) (.cells #[.pointer none, .slice none 0 0] TB))
    clear hb HR
    go_wp2
    go_loopw [5, 6] (fun x5 x6 wr => PlainAt s w1 x5 x6 wr) (fun _ _ wr => s.size - wr.iterPos (w1.heap.size + 1))
    case atStart =>
      refine ⟨0, 0, (runes s).length + 1, false, [], [], ?_, Part.start s, rfl, rfl, rfl, by simp, Nat.le_refl _, HN.out.alloc _, rfl, by simp [runes], by simp, HB0.out.alloc (by simp) _⟩
      have := heap_new (w1.alloc (.cells #[.pointer none, .slice none 0 0] TB)) (.stringIter s 0)
      rw [size_alloc] at this; exact this
    case round =>
      obtain ⟨pos, from_, f, q, done, l, hi, hP, rfl, rfl, hq, hq1, hfp, hbld, heq, hf, hll, hBw⟩ := hrel
      have HI := Lib.hid hi
      have HP := Lib.hid hP
      have HBL := Lib.hid hbld
      have HEQ := Lib.hid heq
      have HBW := Lib.hid hBw
      have HQ := Lib.hid hq
      have HQ1 := Lib.hid hq1
      have HFL := Lib.hid hf
      have hle := hP.le
      have hz := hBw.size
      obtain ⟨f, rfl⟩ : ∃ m, f = m + 1 := ⟨f - 1, by omega⟩
      clear heq hq hq1 hf
      by_cases hlt : pos < s.size
      · have hnx : ∀ ty, (Instr.next (.pointer (some ⟨w1.heap.size + 1, 0, none⟩)) true ty).run Try.prog wr = _ := fun ty => Lib.run_next_any_at wr (w1.heap.size + 1) s pos ty hi hlt
        have hw := dec_width s pos hlt
        have HNX := Lib.hid (hP.next hlt)
        have HI2 := Lib.hid (Lib.iterAt_heap wr (w1.heap.size + 1) s pos (pos + (Utf8.decode s pos).2) hi)
        have HBL2 := Lib.hid (hbld.iterAt hi (pos + (Utf8.decode s pos).2))
        have HB2 := Lib.hid (Lib.below_iterAt hBw (Nat.le_succ _) s (pos + (Utf8.decode s pos).2))
        have HTF := Lib.hid (show (s.data.toList.take (pos + (Utf8.decode s pos).2)).drop from_ = (s.data.toList.take pos).drop from_ ++ (s.data.toList.drop pos).take (Utf8.decode s pos).2 by
          rw [List.take_add, List.drop_append_of_le_length (by simp; omega)])
        have HRL := Lib.hid (show (rest s pos).length = (rest s (pos + (Utf8.decode s pos).2)).length + 1 by rw [rest_cons s pos hlt]; rfl)
        have HA := Lib.hid (fun x h1 => plainR_quoted (s := s) (pos := pos) (f := f) (x := x) hlt h1)
        have HBB := Lib.hid (fun x => plainR_stroke (s := s) (pos := pos) (f := f + 1) (x := x) hlt)
        have HCC := Lib.hid (fun x => plainR_no (s := s) (pos := pos) (f := f) (x := x) hlt)
        have HDD := Lib.hid (fun x => plainR_one (s := s) (pos := pos) (f := f) (x := x) hlt)
        have HLW := Lib.hid (dec_low (s := s) (i := pos))
        clear hi hP hbld hBw
        generalize Utf8.decode s pos = d at hnx hw HNX HI2 HBL2 HB2 HTF HRL HA HBB HCC HDD HLW
        cases q with
        | true =>
          have HSG := Lib.hid (show false = (sgDone ((done ++ [d]).map (·.1))).2 by rw [List.map_append]; show _ = (sgDone (done.map (·.1) ++ [d.1])).2; rw [sgDone_snoc, ← HQ.out]; simp [HSN])
          have HFF : Hid ((rest s (pos + d.2)).length < f) := by have h1 := HFL.out; have h2 := HRL.out; simp at h1; show _ < _; omega
          go_wp2
          go_roundw
          case rel => exact ⟨_, from_, f, false, _, l, HI2.out, HNX.out, rfl, rfl, HSG.out, by simp, by omega, HBL2.out, by rw [HEQ.out, HA.out _ (HQ1.out rfl), HTF.out, List.append_assoc], by simpa using HFF.out, by omega, HB2.out⟩
          case measure => simp [World.iterPos, HI.out, HI2.out]; omega
        | false =>
          by_cases h92 : d.1 = 92
          · have e92 : ((d.1 : Int) == 92) = true := by simp; omega
            have hdw := HLW.out (by omega)
            have HDW := Lib.hid hdw
            have HSG := Lib.hid (show true = (sgDone ((done ++ [d]).map (·.1))).2 by rw [List.map_append]; show _ = (sgDone (done.map (·.1) ++ [d.1])).2; rw [sgDone_snoc, ← HQ.out]; simp [h92])
            have HFF : Hid ((rest s (pos + d.2)).length + 1 < f + 1) := by have h1 := HFL.out; have h2 := HRL.out; simp at h1; show _ < _; omega
            have l1 : (0 : Int) ≤ (from_ : Int) := by omega
            have l2 : (from_ : Int) ≤ (pos : Int) := by omega
            have l3 : (pos : Int) ≤ (s.size : Int) := by omega
            have HWS := Lib.hid (write_any w1.heap.size w1.heap.size l (s.extract from_ pos) _ HBL2.out (by simp [ByteArray.size_extract]; omega) HB2.out.size)
            have HST2 := Lib.hid (HBB.out (l ++ (s.data.toList.take pos).drop from_) h92)
            clear hdw h92
            go_wp2_with fail
            go_at_call 26
            with_reducible refine HWS.out.mono ?_
            rintro e w3 ⟨rfl, hbl3, hst⟩
            have HI4 := Lib.hid (hst.2.iter HI2.out (by omega))
            have HB4 := Lib.hid (HB2.out.trans hst.1)
            rw [extract_list] at hbl3
            have HBL3 := Lib.hid hbl3
            clear hst hbl3 HWS
            go_wp2
            go_roundw
            case rel => exact ⟨_, pos + d.2, f + 1, true, _, _, HI4.out, HNX.out, by rw [HDW.out]; go_num, rfl, HSG.out, by intro _; omega, Nat.le_refl _, HBL3.out, by rw [HEQ.out, HST2.out, show (s.data.toList.take (pos + d.2)).drop (pos + d.2) = [] from List.drop_eq_nil_of_le (by rw [List.length_take]; exact Nat.min_le_left _ _), List.append_nil], by simpa using HFF.out, by simp; omega, HB4.out⟩
            case measure => simp [World.iterPos, HI.out, HI4.out]; omega
          · have e92 : ((d.1 : Int) == 92) = false := by simp; omega
            by_cases hno : d.1 = 42 ∨ d.1 = 63 ∨ d.1 = 91
            · have HF := Lib.hid (show globPlain s = none by rw [HG.out, HEQ.out, HCC.out _ hno])
              have HBX := Lib.hid (HB.out.trans (HB2.out.mono HB.out.size))
              rcases hno with h | h | h
              · have f1 : ((d.1 : Int) == 42) = true := by simp; omega
                clear h h92
                go_wp2
                go_ret2
                exact HPS.out _ _ HBX.out (fun t h => by rw [HF.out] at h; cases h) (fun _ => rfl)
              · have f1 : ((d.1 : Int) == 42) = false := by simp; omega
                have f2 : ((d.1 : Int) == 63) = true := by simp; omega
                clear h h92
                go_wp2
                go_ret2
                exact HPS.out _ _ HBX.out (fun t h => by rw [HF.out] at h; cases h) (fun _ => rfl)
              · have f1 : ((d.1 : Int) == 42) = false := by simp; omega
                have f2 : ((d.1 : Int) == 63) = false := by simp; omega
                have f3 : ((d.1 : Int) == 91) = true := by simp; omega
                clear h h92
                go_wp2
                go_ret2
                exact HPS.out _ _ HBX.out (fun t h => by rw [HF.out] at h; cases h) (fun _ => rfl)
            · have f1 : ((d.1 : Int) == 42) = false := by simp; omega
              have f2 : ((d.1 : Int) == 63) = false := by simp; omega
              have f3 : ((d.1 : Int) == 91) = false := by simp; omega
              have HSG := Lib.hid (show false = (sgDone ((done ++ [d]).map (·.1))).2 by rw [List.map_append]; show _ = (sgDone (done.map (·.1) ++ [d.1])).2; rw [sgDone_snoc, ← HQ.out]; simp [h92])
              have HFF : Hid ((rest s (pos + d.2)).length < f) := by have h1 := HFL.out; have h2 := HRL.out; simp at h1; show _ < _; omega
              have HST2 := Lib.hid (HDD.out (l ++ (s.data.toList.take pos).drop from_) hno h92)
              clear h92 hno
              go_wp2
              go_roundw
              case rel => exact ⟨_, from_, f, false, _, l, HI2.out, HNX.out, rfl, rfl, HSG.out, by simp, by omega, HBL2.out, by rw [HEQ.out, HST2.out, HTF.out, List.append_assoc], by simpa using HFF.out, by omega, HB2.out⟩
              case measure => simp [World.iterPos, HI.out, HI2.out]; omega
      · have hnx : ∀ ty, (Instr.next (.pointer (some ⟨w1.heap.size + 1, 0, none⟩)) true ty).run Try.prog wr = _ := fun ty => Lib.run_next_end_at wr (w1.heap.size + 1) s pos ty hi hlt
        have hpe : pos = s.size := by omega
        have HR := Lib.hid (hP.done hlt)
        subst hpe
        have hqf : q = false := by rw [HQ.out, ← HR.out]; exact HSN.out
        subst hqf
        have l1 : (0 : Int) ≤ (from_ : Int) := by omega
        have l2 : (from_ : Int) ≤ (s.size : Int) := by omega
        have HWS := Lib.hid (write_any w1.heap.size w1.heap.size l (s.extract from_ s.size) wr hbld (by simp [ByteArray.size_extract]; omega) hz)
        have HF := Lib.hid (show globPlain s = some ⟨(l ++ (s.data.toList.take s.size).drop from_).toArray⟩ by rw [HG.out, HEQ.out, plainR_end])
        clear hi hP hbld hBw
        go_wp2_with fail
        go_at_call 26
        with_reducible refine HWS.out.mono ?_
        rintro e w3 ⟨rfl, hbl3, hst⟩
        rw [extract_list] at hbl3
        have HB4 := Lib.hid (HBW.out.trans hst.1)
        have HST := Lib.hid (string_any w1.heap.size w1.heap.size _ w3 hbl3 HB4.out.size)
        clear hst hbl3 HWS
        go_wp2_with fail
        go_at_call 27
        with_reducible refine HST.out.mono ?_
        rintro e w4 ⟨rfl, hbl4, hst⟩
        have HB5 := Lib.hid (HB.out.trans ((HB4.out.trans hst.1).mono HB.out.size))
        clear hst hbl4 HST
        go_wp2
        go_ret2
        exact HPS.out _ _ HB5.out (fun t h => by rw [HF.out] at h; cases h; rfl) (fun h => by rw [HF.out] at h; cases h)
end Go.Proofs.Ytfponjonbhnmlaa.Glob
