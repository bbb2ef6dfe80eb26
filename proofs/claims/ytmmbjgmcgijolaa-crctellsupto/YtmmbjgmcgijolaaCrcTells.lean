/-
  For every list of texts whose bulk is within the bound of the second form the law CrcTells answers true: the sum of texts, one behind the other, is that of all their bytes.
-/
import Derived.Test.YtmmbjgmcgijolaaRows
import Derived.Test.YtmmbjgmcgijolaaCrcB
import Derived.Test.YtmmbjgmcgijolaaCommon
import Derived.ProofKit
import Derived.OpenShut
import Derived.ShutString
import Derived.ChangeOld
import Derived.SizedLaws
import Derived.JoinedCond
import Derived.Deep.CondSized
namespace Go.Proofs.Ytmmbjgmcgijolaa.crcTells
open Go.ChangeShapes Go.WideShapes Go.ChangeAt Go.RowKit
open Go.ChangeMaps (open_string shut_string)
open Crc Common
open CrcM (W)

/-- texts, joined -/
def cat (ss : List ByteArray) : ByteArray := ⟨(bytesOf ss).toArray⟩
theorem cat_list (ss : List ByteArray) : (cat ss).data.toList = bytesOf ss := by simp [cat]
theorem cat_nil : cat [] = ⟨#[]⟩ := rfl
theorem cat_size (ss : List ByteArray) : (cat ss).size = (bytesOf ss).length := by simp [cat, ByteArray.size]
theorem cat_succ (ss : List ByteArray) (k : Nat) (h : k < ss.length) : cat (ss.take (k + 1)) = cat (ss.take k) ++ ss.getD k ByteArray.empty := by
  have : bytesOf (ss.take (k + 1)) = bytesOf (ss.take k) ++ (ss.getD k ByteArray.empty).data.toList := by
    unfold bytesOf
    rw [List.take_succ_eq_append_getElem h, List.flatMap_append]
    simp [List.getD, h]
  apply ByteArray.ext
  apply Array.toList_inj.1
  rw [cat_list, this, ByteArray.data_append, Array.toList_append, cat_list]
theorem bytesOf_take (ss : List ByteArray) (k : Nat) : (bytesOf (ss.take k)).length ≤ (bytesOf ss).length := by
  have : bytesOf ss = bytesOf (ss.take k) ++ bytesOf (ss.drop k) := by
    unfold bytesOf; rw [← List.flatMap_append, List.take_append_drop]
  rw [this]; simp
theorem part_size (ss : List ByteArray) (s : ByteArray) (h : s ∈ ss) : s.size ≤ (bytesOf ss).length := by
  induction ss with
  | nil => simp at h
  | cons x r ih =>
    have e : (bytesOf (x :: r)).length = x.size + (bytesOf r).length := by simp [bytesOf]
    rw [e]
    rcases List.mem_cons.1 h with rfl | h
    · omega
    · have := ih h; omega
theorem getD_mem (ss : List ByteArray) (i : Nat) (h : i < ss.length) : ss.getD i ByteArray.empty ∈ ss := by
  simp [List.getD, h]

theorem sum_zero (a : Option Addr) (cap : Nat) (w : World) :
    Calls Try.prog 10 #[.slice a 0 cap] w fun e w' => e = .returned (.int .u32 (sumOf (bytesOf []))) ∧ w = w' := by
  go_enter Try.func10, Try.ntmps10
  go_wp2
  go_rounds 1
  go_ret
  exact ⟨ret_int rfl, rfl⟩
theorem sum_row (a : Option Addr) (ss : List ByteArray) (cap : Nat) (w : World) (hl : ss.length ≤ maxLen) (hz : ∀ s ∈ ss, s.size ≤ maxLen) (hr : StrRow w a ss) :
    Calls Try.prog 10 #[.slice a ss.length cap] w fun e w' => e = .returned (.int .u32 (sumOf (bytesOf ss))) ∧ w = w' := by
  rcases hr with rfl | ⟨b, off, rfl, hc⟩
  · exact sum_zero a cap w
  · exact sum_any ss b off cap w hl (fun i hi => hz _ (getD_mem ss i hi)) hc

set_option maxHeartbeats 400000 in
theorem walk (a : Option Addr) (ss : List ByteArray) (cap : Nat) (hl : (bytesOf ss).length + ss.length ≤ 1048576) (w : World) (hr : StrRow w a ss) :
    Calls Try.prog 3 #[.slice a ss.length cap] w fun e w' => e = .returned (.bool true) ∧ Below w.heap.size w w' := by
  have hB := Below.refl w.heap.size w
  have hl0 : ss.length ≤ 1048576 := by omega
  have hm : ss.length ≤ maxLen := by simp [maxLen]; omega
  have HZ : Hid (∀ s ∈ ss, s.size ≤ maxLen) := by
    intro s hs; have := part_size ss s hs; simp [maxLen]; omega
  have HR := Lib.hid hr
  clear hr
  have hcs : (cat ss).size ≤ maxLen := by rw [cat_size]; simp [maxLen]; omega
  have HL := Lib.hid (cat_list ss)
  go_enter Try.func3, Try.ntmps3
  go_wp2_with (go_at_call 9; (with_reducible refine (alive_any _).mono ?_); rintro e w2 ⟨rfl, hn⟩; replace hB := bel0 hB hn; clear hn)
  go_loop [3, 4] (fun c i => ∃ k : Nat, k ≤ ss.length ∧ i = .int .i64 k ∧ c = .string (cat (ss.take k))) (fun _ i => ss.length - (intOf i).toNat)
  case atStart => exact ⟨0, Nat.zero_le _, rfl, rfl⟩
  case round =>
    obtain ⟨k, hk, rfl, rfl⟩ := hrel
    by_cases hlt : k < ss.length
    · have hrow : StrRow w2 a ss := HR.out.below hB HR.out.lt
      rcases hrow with h0 | ⟨b, off, rfl, hc⟩
      · rw [h0] at hlt; simp at hlt
      · have hcell := hc k hlt
        clear hc
        have HS := Lib.hid (cat_succ ss k hlt)
        have hsz : (cat (ss.take k)).size + (ss.getD k ByteArray.empty).size ≤ 1048576 := by
          have := cat_succ ss k hlt
          have e2 : (cat (ss.take (k + 1))).size ≤ (bytesOf ss).length := by rw [cat_size]; exact bytesOf_take ss _
          rw [this, ByteArray.size_append] at e2; omega
        generalize ss.getD k ByteArray.empty = s at hcell HS hsz
        generalize cat (ss.take k) = t at HS hsz
        go_wp2
        go_round
        case rel => exact ⟨k + 1, by omega, by go_num, by rw [HS.out]⟩
        case measure => simp [intOf]; omega
    · have hrow : StrRow w2 a ss := HR.out.below hB HR.out.lt
      have HC := Lib.hid hrow
      clear hrow
      have e : ss.take k = ss := List.take_of_length_le (by omega)
      rw [e]
      clear e
      go_wp2_with (first
        | (go_at_call 10; (with_reducible refine (sum_row a ss cap _ hm HZ.out HC.out).mono ?_); rintro e w' ⟨rfl, rfl⟩)
        | (go_at_call 11; (with_reducible refine (refCrc_any (cat ss) hcs _).mono ?_); rintro e w' ⟨rfl, rfl⟩; rw [HL.out])
        | (go_at_call 10; (with_reducible refine (sum_one (cat ss) _ _ _ hcs ?c1).mono ?_); (case c1 => simp); rintro e w' ⟨rfl, rfl⟩; rw [HL.out]))
      go_ret
      exact ⟨by simp, hB.alloc hB.size _⟩

theorem bulk_strs {H : Type} (ss : List ByteArray) : Rows.uptoBulkAll (H := H) (strs ss) = (bytesOf ss).length + ss.length := by
  induction ss with
  | nil => simp [strs, Rows.uptoBulkAll, bytesOf]
  | cons s r ih =>
    have e : (bytesOf (s :: r)).length = s.size + (bytesOf r).length := by simp [bytesOf]
    have i : strs (H := H) (s :: r) = .lit (.string s.data.toList) :: strs r := rfl
    rw [i, e]
    simp only [Rows.uptoBulkAll, Rows.uptoBulk, ih, List.length_cons]
    simp; omega

theorem own : ownKnob Try.prog.godebug = none := by kernel_rfl
theorem laidOut : laidOutB Try.prog = true := by kernel_rfl
set_option linter.unusedVariables false
set_option maxRecDepth 100000 in
theorem contract (H : Type) (enc : TypeId × Value → H) (W : World) (base : Nat) (args : Array Value) (ds gs : List (DataW H)) (before : List MemPlace)
    (hval0 : ∀ (j : Nat) t v, Try.f3.params[j]? = some t → args[j]? = some v → Value.okWide Try.prog W .any base t v)
    (hW : DataW.Whole enc Try.prog Try.f3.params.toList Rows.crcTellsSpec.vars false W args.toList ds gs before)
    (hk : Rows.uptoSmall H (ds ++ gs) = true)
    (hsz : (DataW.weightsEach Try.prog (Try.f3.params.toList ++ Rows.crcTellsSpec.plain.varTypes Try.prog) (ds ++ gs)).all (· ≤ reachBytes) = true) :
    Calls Try.prog 3 args W fun e W' => ∃ v, e = .returned v ∧ Rows.crcTellsSpec.post enc Try.prog Try.f3 false true false false W args v W' := by
  have hval : ∀ (j : Nat) t v, Try.f3.params[j]? = some t → args[j]? = some v → Value.okWide Try.prog W .any base t v := hval0
  have hW' := hW
  obtain ⟨p, q, hA0, hV, rfl, hfz, hnd⟩ := hW
  have hA : DataW.TrodAll enc Try.prog W 0 (fun _ => true) true Try.f3.params.toList args.toList ds p := hA0
  rw [Try.params3] at hA hval
  obtain ⟨v0, vs0, d0, ds0, p0, q0, hargs, rfl, rfl, h0, r0⟩ := trodAll_cons hA
  obtain ⟨rfl, rfl, rfl⟩ := trodAll_nil r0
  obtain rfl : args = #[v0] := by cases args; simp_all
  obtain ⟨rfl, rfl⟩ := trodVars_none hV
  have k0 := h0
  have lt0 : ∀ x ∈ p0, x.block < W.heap.size := by obtain ⟨m, hm⟩ := k0; exact DataW.trod_lt m _ _ _ hm
  clear hA0 hval0
  obtain ⟨a, cap, ss, rfl, hrow, hl, hws, hd⟩ := open_strs Try.underlying22 Try.underlying9 (by kernel_rfl) (hval 0 22 v0 rfl rfl) h0
  have hbulk : (bytesOf ss).length + ss.length ≤ 1048576 := by
    have hk' := of_decide_eq_true hk
    rcases hd with ⟨_, rfl, _, _⟩ | ⟨sp, rfl⟩
    · simp [bytesOf]
    · simp only [List.append_nil, Rows.uptoBulkAll, Rows.uptoBulk, bulk_strs] at hk'
      omega
  refine (walk a ss cap hbulk W hrow).mono fun e W' ⟨he, bel⟩ => ?_
  subst he
  exact ⟨_, rfl, _, _, _, [], _, [], hW', trodAll_mk1 (shut_bool Try.underlying4 _), (trodAll_cons_mk (Below.trod laidOut (by kernel_rfl) (of_decide_eq_true (by kernel_rfl)) k0 bel lt0) trodAll_mk0), rfl, bel.frame _, fun h => by cases h⟩

set_option maxRecDepth 100000 in
theorem lifted (os : Os) (started : os.Started) (H : Type) (enc : TypeId × Value → H) (F : Stop.Interp) :
    ReturnsInHanded {} Try.checked os 3 .any ((Rows.OpenSpec.upto Rows.crcTellsSpec).pre6 enc Try.prog Try.f3 Rows.crcTellsUptoRow.domain false) (((Rows.OpenSpec.upto Rows.crcTellsSpec).at F).post enc Try.prog Try.f3 false true false false) := by
  refine returnsInHanded_of_cond_sized (C := Try.checked) (s := (Rows.OpenSpec.upto Rows.crcTellsSpec)) (k := Rows.uptoSmall) rfl own started (by kernel_rfl) Try.func3
    (OpenSpec.witness (enc := enc) (C := Try.checked) (s := (Rows.OpenSpec.upto Rows.crcTellsSpec)) (k := Rows.uptoSmall) rfl false ⟨#[], #[.slice none 0 0], []⟩ 8 (by kernel_rfl) (by kernel_rfl) (by kernel_rfl)
      (x := ([.nil], [], [])) (by kernel_rfl) rfl (by kernel_rfl)) ?_
  intro W base args ds gs before hval hW _ hk hsz _
  exact contract H enc W base args ds gs before hval hW hk hsz

theorem over : Rows.crcTellsUptoRow.holds Try.pinned (Rows.OpenSpec.upto Rows.crcTellsSpec) :=
  OpenClaim.holds_of_cond 3 Try.f3 rfl rfl rfl rfl rfl rfl rfl ⟨rfl, rfl, rfl, rfl, rfl⟩ rfl rfl rfl rfl rfl (by kernel_rfl) Try.func3 (by kernel_rfl)
    (of_decide_eq_true (by kernel_rfl)) (by unfold Func.isWrapper; first | (rw [if_pos (by decide +kernel)]; kernel_rfl) | (rw [if_neg (by decide +kernel)]; exact ⟨rfl, rfl⟩))
    (fun os started H enc _ F => lifted os started H enc F)

theorem proved : Rows.CrcTellsUptoSaid := over
#print axioms proved
end Go.Proofs.Ytmmbjgmcgijolaa.crcTells
