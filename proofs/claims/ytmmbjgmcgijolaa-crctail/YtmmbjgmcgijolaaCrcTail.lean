/-
  For every text s the law CrcTail answers true: a text with its own sum behind it has always the same sum. No condition.
-/
import Derived.Test.YtmmbjgmcgijolaaRows
import Derived.Test.YtmmbjgmcgijolaaCrcB
import Derived.ProofKit
import Derived.OpenShut
import Derived.ShutString
import Derived.ChangeOld
import Derived.SizedLaws
namespace Go.Proofs.Ytmmbjgmcgijolaa.crcTail
open Go.ChangeShapes Go.WideShapes Go.ChangeAt Go.RowKit
open Go.ChangeMaps (open_string shut_string)
open Crc
open CrcM (W)

theorem putS_size (x : W) : (putS x).size = 4 := by simp [putS, CrcM.put, ByteArray.size]
theorem tail_sum (s : ByteArray) : sumOf (s.data.toList ++ (putS (CrcM.sum s.data.toList)).data.toList) = 558161692 := by
  have : (putS (CrcM.sum s.data.toList)).data.toList = CrcM.put (CrcM.sum s.data.toList).toNat := by simp [putS]
  rw [this]; unfold sumOf; rw [CrcM.tail]; rfl

theorem put_sum (l : List UInt8) (w : World) :
    Calls Try.prog 14 #[.int .u32 (sumOf l)] w fun e w' => e = .returned (.string (putS (CrcM.sum l))) ∧ Below w.heap.size w w' := put_any (CrcM.sum l) w
set_option maxHeartbeats 400000 in
theorem walk (s : ByteArray) (hs : s.size ≤ maxLen) (w : World) :
    Calls Try.prog 7 #[.string s] w fun e w' => e = .returned (.bool true) ∧ Below w.heap.size w w' := by
  have ht : (putS (CrcM.sum s.data.toList)).size ≤ maxLen := by rw [putS_size]; simp [maxLen]
  have HT := Lib.hid (tail_sum s)
  go_enter Try.func7, Try.ntmps7
  go_wp2_with (first
    | (go_at_call 9; (with_reducible refine (alive_any _).mono ?_); rintro e w1 ⟨rfl, hb⟩)
    | (go_at_call 10; (with_reducible refine (sum_one s _ _ _ hs ?c1).mono ?_); (case c1 => simp); rintro e w' ⟨rfl, rfl⟩)
    | (go_at_call 10; (with_reducible refine (sum_two s _ _ _ _ hs ht ?c2 ?c3).mono ?_); (case c2 => simp); (case c3 => simp); rintro e w' ⟨rfl, rfl⟩; rw [HT.out])
    | (go_at_call 14; (with_reducible refine (put_sum s.data.toList _).mono ?_); rintro e w2 ⟨rfl, hp⟩))
  go_ret
  have h1 := hb.alloc hb.size (Obj.cells #[Value.string s] 9)
  have h2 := h1.trans (hp.mono h1.size)
  exact ⟨rfl, h2.alloc h2.size _⟩

theorem own : ownKnob Try.prog.godebug = none := by kernel_rfl
theorem laidOut : laidOutB Try.prog = true := by kernel_rfl
set_option linter.unusedVariables false
set_option maxRecDepth 100000 in
theorem contract (H : Type) (enc : TypeId × Value → H) (W : World) (base : Nat) (args : Array Value) (ds gs : List (DataW H)) (before : List MemPlace)
    (hval0 : ∀ (j : Nat) t v, Try.f7.params[j]? = some t → args[j]? = some v → Value.okWide Try.prog W .any base t v)
    (hW : DataW.Whole enc Try.prog Try.f7.params.toList Rows.crcTailSpec.vars false W args.toList ds gs before)
    (hsz : (DataW.weightsEach Try.prog (Try.f7.params.toList ++ Rows.crcTailSpec.plain.varTypes Try.prog) (ds ++ gs)).all (· ≤ reachBytes) = true) :
    Calls Try.prog 7 args W fun e W' => ∃ v, e = .returned v ∧ Rows.crcTailSpec.post enc Try.prog Try.f7 false true false false W args v W' := by
  have hval : ∀ (j : Nat) t v, Try.f7.params[j]? = some t → args[j]? = some v → Value.okWide Try.prog W .any base t v := hval0
  have hW' := hW
  obtain ⟨p, q, hA0, hV, rfl, hfz, hnd⟩ := hW
  have hA : DataW.TrodAll enc Try.prog W 0 (fun _ => true) true Try.f7.params.toList args.toList ds p := hA0
  rw [Try.params7] at hA hval
  obtain ⟨v0, vs0, d0, ds0, p0, q0, hargs, rfl, rfl, h0, r0⟩ := trodAll_cons hA
  obtain ⟨rfl, rfl, rfl⟩ := trodAll_nil r0
  obtain rfl : args = #[v0] := by cases args; simp_all
  obtain ⟨rfl, rfl⟩ := trodVars_none hV
  obtain ⟨a0, rfl, rfl, rfl, w0⟩ := open_string Try.underlying9 (hval 0 9 v0 rfl rfl) h0
  have z0 : a0.size ≤ reachBytes := by have := sized_string hsz (j := 0) (t := 9) rfl rfl; simpa using this
  clear hA0 hval0
  refine (walk a0 w0 W).mono fun e W' ⟨he, bel⟩ => ?_
  subst he
  exact ⟨_, rfl, _, _, _, [], _, [], hW', trodAll_mk1 (shut_bool Try.underlying4 _), (trodAll_cons_mk (shut_string Try.underlying9 w0) trodAll_mk0), rfl, bel.frame _, fun h => by cases h⟩

set_option maxRecDepth 100000 in
theorem lifted (os : Os) (started : os.Started) (H : Type) (enc : TypeId × Value → H) :
    ReturnsInHanded {} Try.checked os 7 .any (Rows.crcTailSpec.pre6 enc Try.prog Try.f7 Rows.crcTailRow.domain false) (Rows.crcTailSpec.post enc Try.prog Try.f7 false true false false) := by
  refine returnsInHanded_of_change_sized (C := Try.checked) own started (by kernel_rfl) Try.func7
    (ChangeSpec.witness6 (enc := enc) (C := Try.checked) false ⟨#[], #[.string ByteArray.empty], []⟩ 8 (by kernel_rfl) (by kernel_rfl) (by kernel_rfl) (by kernel_rfl)) ?_
  intro W base args ds gs before hval0 hW _ hsz _
  exact contract H enc W base args ds gs before hval0 hW hsz

theorem over : Rows.crcTailRow.holds Try.pinned (OpenSpec.ofChange Rows.crcTailSpec) :=
  OpenClaim.holds_of_wide 7 Try.f7 rfl rfl rfl rfl rfl rfl rfl ⟨rfl, rfl, rfl, rfl, rfl⟩ rfl rfl rfl rfl rfl (by kernel_rfl) Try.func7 (by kernel_rfl)
    (of_decide_eq_true (by kernel_rfl)) (by unfold Func.isWrapper; first | (rw [if_pos (by decide +kernel)]; kernel_rfl) | (rw [if_neg (by decide +kernel)]; exact ⟨rfl, rfl⟩))
    (fun os started H enc _ => lifted os started H enc)

theorem proved : Rows.CrcTailSaid := over
#print axioms proved
end Go.Proofs.Ytmmbjgmcgijolaa.crcTail
