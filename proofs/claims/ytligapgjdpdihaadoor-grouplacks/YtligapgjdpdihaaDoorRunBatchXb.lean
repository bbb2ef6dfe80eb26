/-
  Joined texts: BatchXb, BatchX.
-/
import Derived.Test.YtligapgjdpdihaaDoorRunBatchT
import Derived.Test.YtligapgjdpdihaaDoorRunBuild
/-
  What package batch answers of any writes: putWrite, Bytes.
-/
set_option linter.unusedVariables false
set_option linter.unusedSimpArgs false
namespace Go.Proofs.YtligapgjdpdihaaDoor.Batch
open Go.RowKit
open Own Tup RefKeys RefSort Lay LayM
open Build (Bld Stays TB TY write_any byte_any string_any)

theorem bld_below {B b : Nat} {l : List UInt8} {w w' : World} (h : Bld B b l w) (hb : Below w.heap.size w w') : Bld B b l w' := by
  have hg : w.grownBy w' none := ⟨hb.os, hb.tape, hb.output, hb.size, fun k hk _ => hb.block k hk⟩
  have key : ∀ p, Lib.BuilderAtF TB TY B b p (Lib.byteCells l) w → Lib.BuilderAtF TB TY B b p (Lib.byteCells l) w' := by
    rintro p ⟨hB, v, h1, h2, h3⟩
    refine ⟨hB, v, ?_, h2.kept hg ?_, h3⟩
    · rw [hb.block b (Array.getElem?_eq_some_iff.1 h1).1]; exact h1
    · cases v.ownBlock with
      | none => exact .inl rfl
      | some k => right; simp
  rcases h with h | h
  · exact .inl (key _ h)
  · exact .inr (key _ h)
theorem var_stays {B b k : Nat} {w w' : World} {t : TypeId} {cs : List Value} (h : Var w k t cs) (hs : Stays B b w w') (hk : k ≠ b) (ht : t ≠ TY) : Var w' k t cs := by
  refine hs.2 k _ h (by simpa using hk) ?_
  intro c fz e
  simp only [Obj.cells.injEq] at e
  exact ht e.2.1
theorem app_data (a b : ByteArray) : (a ++ b).data.toList = a.data.toList ++ b.data.toList := by simp
set_option maxRecDepth 100000 in
set_option maxHeartbeats 4000000 in
theorem putWrite_any (B b : Nat) (l : List UInt8) (x : Wr) (hk : x.key.size ≤ 48) (hv : x.val.size ≤ 48) (hl : l.length ≤ 100000) (w : World) (h : Bld B b l w) (hBw : B ≤ w.heap.size) :
    Calls Tryd.prog 56 #[.pointer (some ⟨b, 0, none⟩), aggW x] w fun e w' => e = .returned (.tuple #[]) ∧ Bld B b (l ++ (itemB x).data.toList) w' ∧ Below B w w' := by
  have hbl := h.lt.1
  have HT1 := Lib.hid (fun w => text_any x.key (by omega) w)
  have HT2 := Lib.hid (fun w => text_any x.val (by omega) w)
  have z1 : (textS x.key).size ≤ 53 := by have := (numS_len (x.key.size % 4294967296)).2; rw [textS, ByteArray.size_append]; omega
  have z2 : (textS x.val).size ≤ 53 := by have := (numS_len (x.val.size % 4294967296)).2; rw [textS, ByteArray.size_append]; omega
  have hne : w.heap.size ≠ b := by omega
  have hty : 55 ≠ TY := by decide
  have HV := Lib.hid (Var.new w 55 [.string x.key, .bool x.del, .string x.val])
  have HB0 := Lib.hid ((Below.refl B w).alloc hBw (.cells #[.string x.key, .bool x.del, .string x.val] 55))
  have HL0 := Lib.hid (h.alloc (.cells #[.string x.key, .bool x.del, .string x.val] 55))
  have c1 := HV.out.cell (j := 1) rfl
  unfold aggW
  clear h
  cases hd : x.del with
  | true =>
    have HI := Lib.hid (show itemB x = ⟨#[1]⟩ ++ textS x.key by unfold itemB; rw [hd]; rfl)
    rw [hd] at HV HB0 HL0 c1
    have HWB := Lib.hid (byte_any B b l 1 1 rfl _ HL0.out (by omega) (Nat.le_trans hBw HB0.out.size))
    clear c1
    go_enter Tryd.func56, Tryd.ntmps56
    go_wp2_with fail
    go_at_call 85
    with_reducible refine HWB.out.mono ?_
    rintro e w1 ⟨rfl, hl1, hs1⟩
    have HL1 := Lib.hid hl1
    have HB1 := Lib.hid (HB0.out.trans hs1.1)
    have HV1 := Lib.hid (var_stays HV.out hs1 hne hty)
    clear hl1 hs1 HWB HV HL0
    have c0 := HV1.out.cell (j := 0) rfl
    go_wp2_with fail
    go_at_call 86
    with_reducible refine (HT1.out _).mono ?_
    rintro e w2 ⟨rfl, hb2⟩
    have HB2 := Lib.hid (HB1.out.trans (hb2.mono (Nat.le_trans hBw HB1.out.size)))
    have HV2 := Lib.hid (HV1.out.below hb2 HV1.out.lt)
    have HWS := Lib.hid (write_any B b (l ++ [1]) (textS x.key) w2 (bld_below HL1.out hb2) (by simp; omega) (Nat.le_trans hBw HB2.out.size))
    clear hb2 c0 HL1 HV1
    go_wp2_with fail
    go_at_call 54
    with_reducible refine HWS.out.mono ?_
    rintro e w3 ⟨rfl, hl3, hs3⟩
    have HL3 := Lib.hid hl3
    have HB3 := Lib.hid (HB2.out.trans hs3.1)
    have HV3 := Lib.hid (var_stays HV2.out hs3 hne hty)
    clear hl3 hs3 HWS HV2
    go_wp2
    refine bodyPost_ret (results_none rfl _ _ _) rfl ?_
    refine ⟨rfl, ?_, HB3.out⟩
    rw [HI.out, app_data, ← List.append_assoc]
    exact HL3.out
  | false =>
    have HI := Lib.hid (show itemB x = ⟨#[0]⟩ ++ textS x.key ++ textS x.val by unfold itemB; rw [hd]; rfl)
    rw [hd] at HV HB0 HL0 c1
    have HWB := Lib.hid (byte_any B b l 0 0 rfl _ HL0.out (by omega) (Nat.le_trans hBw HB0.out.size))
    clear c1
    go_enter Tryd.func56, Tryd.ntmps56
    go_wp2_with fail
    go_at_call 85
    with_reducible refine HWB.out.mono ?_
    rintro e w1 ⟨rfl, hl1, hs1⟩
    have HL1 := Lib.hid hl1
    have HB1 := Lib.hid (HB0.out.trans hs1.1)
    have HV1 := Lib.hid (var_stays HV.out hs1 hne hty)
    clear hl1 hs1 HWB HV HL0
    have c0 := HV1.out.cell (j := 0) rfl
    go_wp2_with fail
    go_at_call 86
    with_reducible refine (HT1.out _).mono ?_
    rintro e w2 ⟨rfl, hb2⟩
    have HB2 := Lib.hid (HB1.out.trans (hb2.mono (Nat.le_trans hBw HB1.out.size)))
    have HV2 := Lib.hid (HV1.out.below hb2 HV1.out.lt)
    have HWS := Lib.hid (write_any B b (l ++ [0]) (textS x.key) w2 (bld_below HL1.out hb2) (by simp; omega) (Nat.le_trans hBw HB2.out.size))
    clear hb2 c0 HL1 HV1
    go_wp2_with fail
    go_at_call 54
    with_reducible refine HWS.out.mono ?_
    rintro e w3 ⟨rfl, hl3, hs3⟩
    have HL3 := Lib.hid hl3
    have HB3 := Lib.hid (HB2.out.trans hs3.1)
    have HV3 := Lib.hid (var_stays HV2.out hs3 hne hty)
    clear hl3 hs3 HWS HV2
    have c2 := HV3.out.cell (j := 2) rfl
    go_wp2_with fail
    go_at_call 86
    with_reducible refine (HT2.out _).mono ?_
    rintro e w4 ⟨rfl, hb4⟩
    have HB4 := Lib.hid (HB3.out.trans (hb4.mono (Nat.le_trans hBw HB3.out.size)))
    have HWS := Lib.hid (write_any B b _ (textS x.val) w4 (bld_below HL3.out hb4) (by simp; omega) (Nat.le_trans hBw HB4.out.size))
    clear hb4 c2 HL3 HV3
    go_wp2_with fail
    go_at_call 54
    with_reducible refine HWS.out.mono ?_
    rintro e w5 ⟨rfl, hl5, hs5⟩
    have HL5 := Lib.hid hl5
    have HB5 := Lib.hid (HB4.out.trans hs5.1)
    clear hl5 hs5 HWS
    go_wp2
    go_end0
    refine ⟨rfl, ?_, HB5.out⟩
    rw [HI.out, app_data, app_data, ← List.append_assoc, ← List.append_assoc]
    exact HL5.out
set_option maxRecDepth 100000 in
set_option maxHeartbeats 8000000 in
theorem bytes_any (a : Option Addr) (l : List Wr) (cap : Nat) (hl : l.length ≤ 1000000) (hz : ∀ x ∈ l, x.key.size ≤ 8796093022208) (w : World) (hT : Tb w) (hr : WAt w a l) :
    Calls Tryd.prog 27 #[.slice a l.length cap] w fun e w' => e = .returned (.tuple #[.string (bytesW l).1, .int .i64 (((bytesW l).2 : Nat) : Int)]) ∧ Below w.heap.size w w' := by
  have HRT := Lib.hid (right_any a l cap (by simp only [maxLen]; omega) hz w hT hr)
  have HR := Lib.hid hr
  clear hr hz hT
  by_cases hc : rightW l = 0
  · have HE := Lib.hid (show bytesW l = (layB l, 0) by unfold bytesW; rw [if_neg (by simp [hc])])
    obtain ⟨hl1, hl8, hok⟩ := rightW_ok hc
    have HOK : Hid (∀ x ∈ l, x.key.size ≤ 48 ∧ x.val.size ≤ 48) := fun x hx => ⟨key_short (rightGo_ok l none hok x hx).1, (rightGo_ok l none hok x hx).2⟩
    have HNM := Lib.hid (fun w => num_any l.length (by omega) w)
    rw [hc] at HRT
    clear hok hc
    obtain ⟨n, hnn⟩ : ∃ n, n = l.length := ⟨_, rfl⟩
    rw [← hnn] at HRT HNM hl8 hl1 ⊢
    have HNL := Lib.hid hnn
    clear hl hnn
    have hm : (n : Int) % 4294967296 = (n : Int) := by omega
    have hns := (numS_len n).2
    go_enter Tryd.func27, Tryd.ntmps27
    go_wp2_with fail
    go_at_call 53
    with_reducible refine HRT.out.mono ?_
    rintro e w1 ⟨rfl, hb1⟩
    have HB1 := Lib.hid hb1
    have HBN := Lib.hid (Bld.new w1)
    have HBA := Lib.hid ((Below.refl w1.heap.size w1).alloc (Nat.le_refl _) (.cells #[.pointer none, .slice none 0 0] TB))
    clear hb1
    go_wp2_with fail
    go_at_call 55
    with_reducible refine (HNM.out _).mono ?_
    rintro e w2 ⟨rfl, hb2⟩
    have HB2 := Lib.hid (belX HBA.out hb2)
    have HWS := Lib.hid (write_any w1.heap.size w1.heap.size [] (numS n) w2 (bld_below HBN.out hb2) (by simp; omega) HB2.out.size)
    clear hb2 HBN HBA
    go_wp2_with fail
    go_at_call 54
    with_reducible refine HWS.out.mono ?_
    rintro e w3 ⟨rfl, hl3, hs3⟩
    have HL3 := Lib.hid hl3
    have HB3 := Lib.hid (HB2.out.trans hs3.1)
    clear hl3 hs3 HWS
    go_wp2
    go_loopw [20] (fun i wr => ∃ k : Nat, i = .int .i64 (k : Int) ∧ k ≤ n ∧ Bld w1.heap.size w1.heap.size (layTo l k).data.toList wr ∧ Below w1.heap.size w1 wr) (fun i _ => n - (intOf i).toNat)
    case atStart => exact ⟨0, rfl, Nat.zero_le _, by rw [layTo, ← HNL.out]; exact HL3.out, HB3.out⟩
    case round =>
      obtain ⟨k, rfl, hk, hbl, hbel⟩ := hrel
      have HB := Lib.hid hbel
      have HL := Lib.hid hbl
      clear hbel hbl
      by_cases hlt : k < n
      · have h1 : k < l.length := by rw [← HNL.out]; exact hlt
        have d3 : decide ((k : Int) < (n : Int)) = true := by simp; omega
        have d4 : decide (k < n) = true := by simp; omega
        have hsz := layTo_size l HOK.out k (by omega)
        obtain ⟨hx1, hx2⟩ := HOK.out _ (List.getElem_mem h1)
        have HS := Lib.hid (layTo_succ l k h1)
        obtain ⟨b, off, ha, c0, c1, c2⟩ := WAt.get (Tup.At.below HR.out (belX HB1.out HB.out)) (List.getElem?_eq_getElem h1)
        generalize l[k] = x at *
        subst ha
        clear h1
        have hbs := HB.out.size
        have HPW := Lib.hid (putWrite_any w1.heap.size w1.heap.size (layTo l k).data.toList x hx1 hx2 (by simp; omega) _ (HL.out.alloc (.cells #[.string x.key, .bool x.del, .string x.val] 55)) (by simp; omega))
        have HB4 := Lib.hid (HB.out.alloc hbs (.cells #[.string x.key, .bool x.del, .string x.val] 55))
        unfold aggW at HPW
        go_wp2_with fail
        go_at_call 56
        with_reducible refine HPW.out.mono ?_
        rintro e w5 ⟨rfl, hl5, hb5⟩
        have HL5 := Lib.hid hl5
        have HB5 := Lib.hid (HB4.out.trans hb5)
        clear hl5 hb5 HPW
        go_wp2
        go_roundw
        case rel => exact ⟨k + 1, by go_num, by omega, by rw [HS.out, app_data]; exact HL5.out, HB5.out⟩
        case measure => simp [intOf]; omega
      · have d3 : decide ((k : Int) < (n : Int)) = false := by simp; omega
        have d4 : decide (k < n) = false := by simp; omega
        have HX := Lib.hid (show layTo l k = layB l by unfold layB; rw [← HNL.out]; congr 1; omega)
        have HST := Lib.hid (string_any w1.heap.size w1.heap.size _ wr HL.out HB.out.size)
        go_wp2_with fail
        go_at_call 57
        with_reducible refine HST.out.mono ?_
        rintro e w4 ⟨rfl, -, hs4⟩
        have HB4 := Lib.hid (belX HB1.out (HB.out.trans hs4.1))
        clear hs4 HST
        go_wp2
        go_ret2
        exact ⟨by rw [HE.out, ← HX.out]; rfl, HB4.out⟩
  · have HE := Lib.hid (show bytesW l = (ByteArray.empty, rightW l) by unfold bytesW; rw [if_pos hc])
    have q1 : (((rightW l : Nat) : Int) == 0) = false := by simpa using hc
    generalize rightW l = c at *
    clear hc
    go_enter Tryd.func27, Tryd.ntmps27
    go_wp2_with (go_at_call 53; (with_reducible refine HRT.out.mono ?_); rintro e w1 ⟨rfl, hb1⟩)
    go_ret2
    exact ⟨by rw [HE.out]; rfl, hb1⟩
end Go.Proofs.YtligapgjdpdihaaDoor.Batch
/-
  What package batch answers: Right, Bytes, Read (Keys, Find, Make lie in texts of their own).
-/
set_option linter.unusedVariables false
set_option linter.unusedSimpArgs false
