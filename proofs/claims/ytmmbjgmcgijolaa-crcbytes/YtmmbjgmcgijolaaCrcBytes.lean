/-
  For every number c, texts ahead and behind, and place at the law CrcBytes answers true: a number's four bytes are read again as it, and elsewhere what stands there is read, or nothing. No condition.
-/
import Derived.Test.YtmmbjgmcgijolaaRows
import Derived.Test.YtmmbjgmcgijolaaCrcB
import Derived.ProofKit
import Derived.OpenShut
import Derived.ShutString
import Derived.ChangeOld
import Derived.SizedLaws
namespace Go.Proofs.Ytmmbjgmcgijolaa.crcBytes
open Go.ChangeShapes Go.WideShapes Go.ChangeAt Go.RowKit
open Go.ChangeMaps (open_string shut_string)
open Crc
open CrcM (W)

theorem putS_size (x : W) : (putS x).size = 4 := by simp [putS, CrcM.put, ByteArray.size]
theorem putS_list (x : W) : (putS x).data.toList = CrcM.put x.toNat := by simp [putS]
theorem le4_put (x : W) (a b : ByteArray) : le4 (a ++ putS x ++ b).data.toList a.size = vl x := by
  have hx := x.isLt
  have e : (a ++ putS x ++ b).data.toList = a.data.toList ++ (CrcM.put x.toNat ++ b.data.toList) := by
    rw [← putS_list]; simp [ByteArray.data_append]
  have k (i : Nat) (l : List UInt8) (h : i < 4) : (a.data.toList ++ (CrcM.put x.toNat ++ l)).getD (a.size + i) 0 = (CrcM.put x.toNat).getD i 0 := by
    have hs : a.data.toList.length = a.size := by simp
    rw [List.getD, List.getD, List.getElem?_append_right (by omega), hs, Nat.add_sub_cancel_left, List.getElem?_append_left (by simpa [CrcM.put] using h)]
  rw [e]; unfold le4
  have k0 := k 0 b.data.toList (by omega)
  rw [Nat.add_zero] at k0
  rw [k0, k 1 _ (by omega), k 2 _ (by omega), k 3 _ (by omega)]
  simp only [CrcM.put, List.getD_cons_zero, List.getD_cons_succ]
  unfold vl
  simp only [UInt8.toNat_ofNat']
  omega
theorem get_put (x : W) (a b : ByteArray) (h : (a ++ putS x ++ b).size ≤ maxLen) (w : World) :
    Calls Try.prog 15 #[.string (a ++ putS x ++ b), .int .i64 a.size] w fun e w' => e = .returned (.tuple #[.int .u32 (vl x), .bool true]) ∧ ∃ n, w' = w.drewN n := by
  have := get_yes (a ++ putS x ++ b) h a.size (by simp [putS_size]) w
  rw [le4_put] at this; exact this

set_option maxHeartbeats 400000 in
theorem walk_yes (x : W) (a b : ByteArray) (k : Nat) (ha : a.size ≤ reachBytes) (hb : b.size ≤ reachBytes) (hk : k + 4 ≤ b.size) (w : World) :
    Calls Try.prog 5 #[.int .u32 (vl x), .string a, .string b, .int .i64 k] w fun e w' => e = .returned (.bool true) ∧ Below w.heap.size w w' := by
  have hp := putS_size x
  have hr : reachBytes < 140737488355328 := reachBytes_lt
  have h1 : (a ++ putS x ++ b).size ≤ maxLen := by simp [hp, maxLen]; omega
  have h2 : b.size ≤ maxLen := by simp [maxLen]; omega
  have hB := Below.refl w.heap.size w
  have d1 : decide ((k : Int) < 0) = false := by simp
  have d2 : decide ((b.size : Int) < (k : Int)) = false := by simp; omega
  have d3 : decide ((b.size : Int) - (k : Int) < 4) = false := by simp; omega
  go_enter Try.func5, Try.ntmps5
  go_wp2_with (first
    | (go_at_call 9; (with_reducible refine (alive_any _).mono ?_); rintro e w2 ⟨rfl, hn⟩; replace hB := bel0 hB hn; clear hn)
    | (go_at_call 14; (with_reducible refine (put_any _ _).mono ?_); rintro e w2 ⟨rfl, hn⟩; replace hB := bel0 hB hn; clear hn)
    | (go_at_call 15; (with_reducible refine (get_put x a b h1 _).mono ?_); rintro e w2 ⟨rfl, hn⟩; replace hB := bel0 hB (belD hn); clear hn)
    | (go_at_call 15; (with_reducible refine (get_yes b h2 k hk _).mono ?_); rintro e w2 ⟨rfl, hn⟩; replace hB := bel0 hB (belD hn); clear hn)
    | (go_at_call 16; (with_reducible refine (refGet_any b h2 k hk _).mono ?_); rintro e w2 ⟨rfl, hn⟩; replace hB := bel0 hB (belD hn); clear hn))
  go_ret
  exact ⟨by simp, hB⟩

set_option maxHeartbeats 400000 in
theorem walk_neg (x : W) (a b : ByteArray) (k : Int) (ha : a.size ≤ reachBytes) (hb : b.size ≤ reachBytes) (hk : k < 0) (w : World) :
    Calls Try.prog 5 #[.int .u32 (vl x), .string a, .string b, .int .i64 k] w fun e w' => e = .returned (.bool true) ∧ Below w.heap.size w w' := by
  have hp := putS_size x
  have hr : reachBytes < 140737488355328 := reachBytes_lt
  have h1 : (a ++ putS x ++ b).size ≤ maxLen := by simp [hp, maxLen]; omega
  have h2 : b.size ≤ maxLen := by simp [maxLen]; omega
  have hB := Below.refl w.heap.size w
  go_enter Try.func5, Try.ntmps5
  go_wp2_with (first
    | (go_at_call 9; (with_reducible refine (alive_any _).mono ?_); rintro e w2 ⟨rfl, hn⟩; replace hB := bel0 hB hn; clear hn)
    | (go_at_call 14; (with_reducible refine (put_any _ _).mono ?_); rintro e w2 ⟨rfl, hn⟩; replace hB := bel0 hB hn; clear hn)
    | (go_at_call 15; (with_reducible refine (get_put x a b h1 _).mono ?_); rintro e w2 ⟨rfl, hn⟩; replace hB := bel0 hB (belD hn); clear hn)
    | (go_at_call 15; (with_reducible refine (get_neg b k hk _).mono ?_); rintro e w2 ⟨rfl, rfl⟩))
  go_ret
  exact ⟨by simp, hB⟩

set_option maxHeartbeats 400000 in
theorem walk_few (x : W) (a b : ByteArray) (k : Int) (ha : a.size ≤ reachBytes) (hb : b.size ≤ reachBytes) (hk : 0 ≤ k) (hk1 : k ≤ 9223372036854775807) (hf : (b.size : Int) - k < 4) (w : World) :
    Calls Try.prog 5 #[.int .u32 (vl x), .string a, .string b, .int .i64 k] w fun e w' => e = .returned (.bool true) ∧ Below w.heap.size w w' := by
  have hp := putS_size x
  have hr : reachBytes < 140737488355328 := reachBytes_lt
  have h1 : (a ++ putS x ++ b).size ≤ maxLen := by simp [hp, maxLen]; omega
  have h2 : b.size ≤ maxLen := by simp [maxLen]; omega
  have hB := Below.refl w.heap.size w
  have d1 : decide (k < 0) = false := by simp; omega
  by_cases hg : (b.size : Int) < k
  all_goals
    go_enter Try.func5, Try.ntmps5
    go_wp2_with (first
      | (go_at_call 9; (with_reducible refine (alive_any _).mono ?_); rintro e w2 ⟨rfl, hn⟩; replace hB := bel0 hB hn; clear hn)
      | (go_at_call 14; (with_reducible refine (put_any _ _).mono ?_); rintro e w2 ⟨rfl, hn⟩; replace hB := bel0 hB hn; clear hn)
      | (go_at_call 15; (with_reducible refine (get_put x a b h1 _).mono ?_); rintro e w2 ⟨rfl, hn⟩; replace hB := bel0 hB (belD hn); clear hn)
      | (go_at_call 15; (with_reducible refine (get_few b h2 k hk hk1 hf _).mono ?_); rintro e w2 ⟨rfl, rfl⟩))
    go_ret
    exact ⟨by simp, hB⟩

theorem own : ownKnob Try.prog.godebug = none := by kernel_rfl
theorem laidOut : laidOutB Try.prog = true := by kernel_rfl
set_option linter.unusedVariables false
set_option maxRecDepth 100000 in
theorem contract (H : Type) (enc : TypeId × Value → H) (W : World) (base : Nat) (args : Array Value) (ds gs : List (DataW H)) (before : List MemPlace)
    (hval0 : ∀ (j : Nat) t v, Try.f5.params[j]? = some t → args[j]? = some v → Value.okWide Try.prog W .any base t v)
    (hW : DataW.Whole enc Try.prog Try.f5.params.toList Rows.crcBytesSpec.vars false W args.toList ds gs before)
    (hsz : (DataW.weightsEach Try.prog (Try.f5.params.toList ++ Rows.crcBytesSpec.plain.varTypes Try.prog) (ds ++ gs)).all (· ≤ reachBytes) = true) :
    Calls Try.prog 5 args W fun e W' => ∃ v, e = .returned v ∧ Rows.crcBytesSpec.post enc Try.prog Try.f5 false true false false W args v W' := by
  have hval : ∀ (j : Nat) t v, Try.f5.params[j]? = some t → args[j]? = some v → Value.okWide Try.prog W .any base t v := hval0
  have hW' := hW
  obtain ⟨p, q, hA0, hV, rfl, hfz, hnd⟩ := hW
  have hA : DataW.TrodAll enc Try.prog W 0 (fun _ => true) true Try.f5.params.toList args.toList ds p := hA0
  rw [Try.params5] at hA hval
  obtain ⟨v0, vs0, d0, ds0, p0, q0, hargs, rfl, rfl, h0, r0⟩ := trodAll_cons hA
  obtain ⟨v1, vs1, d1, ds1, p1, q1, rfl, rfl, rfl, h1, r1⟩ := trodAll_cons r0
  obtain ⟨v2, vs2, d2, ds2, p2, q2, rfl, rfl, rfl, h2, r2⟩ := trodAll_cons r1
  obtain ⟨v3, vs3, d3, ds3, p3, q3, rfl, rfl, rfl, h3, r3⟩ := trodAll_cons r2
  obtain ⟨rfl, rfl, rfl⟩ := trodAll_nil r3
  obtain rfl : args = #[v0, v1, v2, v3] := by cases args; simp_all
  obtain ⟨rfl, rfl⟩ := trodVars_none hV
  obtain ⟨a0, rfl, rfl, rfl, w0⟩ := open_int Try.underlying24 (hval 0 24 v0 rfl rfl) h0
  obtain ⟨a1, rfl, rfl, rfl, w1⟩ := open_string Try.underlying9 (hval 1 9 v1 rfl rfl) h1
  have z1 : a1.size ≤ reachBytes := by have := sized_string hsz (j := 1) (t := 9) rfl rfl; simpa using this
  obtain ⟨a2, rfl, rfl, rfl, w2⟩ := open_string Try.underlying9 (hval 2 9 v2 rfl rfl) h2
  have z2 : a2.size ≤ reachBytes := by have := sized_string hsz (j := 2) (t := 9) rfl rfl; simpa using this
  obtain ⟨a3, rfl, rfl, rfl, w3⟩ := open_int Try.underlying3 (hval 3 3 v3 rfl rfl) h3
  clear hA0 hval0
  obtain ⟨x, rfl⟩ := word_of w0
  have hi := int_of w3
  have hwalk : Calls Try.prog 5 #[.int .u32 (vl x), .string a1, .string a2, .int .i64 a3] W fun e w' => e = .returned (.bool true) ∧ Below W.heap.size W w' := by
    by_cases h0 : a3 < 0
    · exact walk_neg x a1 a2 a3 z1 z2 h0 W
    · by_cases h1 : (a2.size : Int) - a3 < 4
      · exact walk_few x a1 a2 a3 z1 z2 (by omega) hi.2 h1 W
      · obtain ⟨k, rfl⟩ : ∃ k : Nat, a3 = k := ⟨a3.toNat, by omega⟩
        exact walk_yes x a1 a2 k z1 z2 (by omega) W
  refine hwalk.mono fun e W' ⟨he, bel⟩ => ?_
  subst he
  exact ⟨_, rfl, _, _, _, [], _, [], hW', trodAll_mk1 (shut_bool Try.underlying4 _), (trodAll_cons_mk (shut_int Try.underlying24 w0) (trodAll_cons_mk (shut_string Try.underlying9 w1) (trodAll_cons_mk (shut_string Try.underlying9 w2) (trodAll_cons_mk (shut_int Try.underlying3 w3) trodAll_mk0)))), rfl, bel.frame _, fun h => by cases h⟩

set_option maxRecDepth 100000 in
theorem lifted (os : Os) (started : os.Started) (H : Type) (enc : TypeId × Value → H) :
    ReturnsInHanded {} Try.checked os 5 .any (Rows.crcBytesSpec.pre6 enc Try.prog Try.f5 Rows.crcBytesRow.domain false) (Rows.crcBytesSpec.post enc Try.prog Try.f5 false true false false) := by
  refine returnsInHanded_of_change_sized (C := Try.checked) own started (by kernel_rfl) Try.func5
    (ChangeSpec.witness6 (enc := enc) (C := Try.checked) false ⟨#[], #[.int .u32 0, .string ByteArray.empty, .string ByteArray.empty, .int .i64 0], []⟩ 8 (by kernel_rfl) (by kernel_rfl) (by kernel_rfl) (by kernel_rfl)) ?_
  intro W base args ds gs before hval0 hW _ hsz _
  exact contract H enc W base args ds gs before hval0 hW hsz

theorem over : Rows.crcBytesRow.holds Try.pinned (OpenSpec.ofChange Rows.crcBytesSpec) :=
  OpenClaim.holds_of_wide 5 Try.f5 rfl rfl rfl rfl rfl rfl rfl ⟨rfl, rfl, rfl, rfl, rfl⟩ rfl rfl rfl rfl rfl (by kernel_rfl) Try.func5 (by kernel_rfl)
    (of_decide_eq_true (by kernel_rfl)) (by unfold Func.isWrapper; first | (rw [if_pos (by decide +kernel)]; kernel_rfl) | (rw [if_neg (by decide +kernel)]; exact ⟨rfl, rfl⟩))
    (fun os started H enc _ => lifted os started H enc)

theorem proved : Rows.CrcBytesSaid := over
#print axioms proved
end Go.Proofs.Ytmmbjgmcgijolaa.crcBytes
