/-
  Any texts in order, each once (KeysSorts): for every list of texts; no condition.
-/
import Derived.Test.YtejhkpdpmjhbcaaDoorKeysF
import Derived.Test.YtejhkpdpmjhbcaaDoorKeysLaws
import Derived.Test.YtejhkpdpmjhbcaaDoorTabs
import Derived.Test.YtejhkpdpmjhbcaaDoorCards
import Derived.Test.YtejhkpdpmjhbcaaDoorTie
import Derived.OpenShut
import Derived.ShutString
import Derived.SizedLaws
import Derived.JoinedCond
import Derived.ChangeOld
namespace Go.Proofs.YtejhkpdpmjhbcaaDoor.keysSorts
open Go.ChangeShapes Go.WideShapes Go.ChangeAt Go.ChangeMaps Go.RowKit
open RuneM RefRune Own RefKeys RefSort Keys Common

theorem texts_flat (a : Option Addr) (ss : List ByteArray) (cap : Nat) (hl : ss.length ≤ maxLen) (w : World) (hr : Common.StrRow w a ss) :
    Calls Tryd.prog 21 #[.slice a ss.length cap, .int .i64 30, .int .i64 40] w fun e w' =>
      ∃ v, e = .returned v ∧ Mine w' w.heap.size 9 v (strsV (textsOf ss 30 40)) ∧ Below w.heap.size w w' := texts_mine a ss cap 30 40 (by omega) hl w hr
theorem sort_flat (v : Value) (l : List ByteArray) (B : Nat) (hl : l.length ≤ 1000000) (hz : ∀ s ∈ l, s.size ≤ lim) (w : World) (hT : Tabs w) (hM : Mine w B 9 v (strsV l)) :
    Calls Tryd.prog 23 #[v] w fun e w' => ∃ b c, e = .returned (.slice b (sortedL l).length c) ∧ Cells w' b (strsV (sortedL l)) ∧ Below w.heap.size w w' := by
  refine (sort_any v l B hl hz w hT hM).mono ?_
  rintro e w' ⟨v, rfl, hv, hb⟩
  obtain ⟨b, c, rfl, hc⟩ := row_strs hv
  exact ⟨b, c, rfl, hc, hb⟩
theorem sorted_flat (v : Value) (l : List ByteArray) (B : Nat) (hl : l.length ≤ 1000000) (hz : ∀ s ∈ l, s.size ≤ 8796093022208) (w : World) (hM : Mine w B 9 v (strsV l)) :
    Calls Tryd.prog 24 #[v] w fun e w' => ∃ b c, e = .returned (.slice b (sortedL l).length c) ∧ Cells w' b (strsV (sortedL l)) ∧ Below w.heap.size w w' := by
  obtain ⟨a, cap, rfl, hc⟩ := row_strs hM.row
  refine (sorted_any a l cap hl hz w hc).mono ?_
  rintro e w' ⟨v, rfl, hv, hb⟩
  obtain ⟨b, c, rfl, hc⟩ := row_strs hv
  exact ⟨b, c, rfl, hc, hb⟩
theorem texts_small (ss : List ByteArray) : (textsOf ss 30 40).length ≤ 30 ∧ ∀ s ∈ textsOf ss 30 40, s.size ≤ 40 := by
  refine ⟨by simp [textsOf]; omega, fun s hs => ?_⟩
  simp only [textsOf, List.mem_map] at hs
  obtain ⟨x, _, rfl⟩ := hs
  unfold shortOf; simp; omega
set_option maxHeartbeats 2000000 in
theorem walk_sorts (a : Option Addr) (ss : List ByteArray) (cap : Nat) (hl : ss.length ≤ maxLen) (w : World) (hT : Tabs w) (hr : Common.StrRow w a ss) :
    Calls Tryd.prog 6 #[.slice a ss.length cap] w fun e w' => e = .returned (.bool true) ∧ Below w.heap.size w w' := by
  have hB := Below.refl w.heap.size w
  have HT := Lib.hid (texts_flat a ss cap hl w hr)
  have hsm := texts_small ss
  generalize textsOf ss 30 40 = l at HT hsm
  have h1 : l.length ≤ 1000000 := by omega
  have h2 : Hid (∀ s ∈ l, s.size ≤ lim) := fun s hs => lim_small (by have := hsm.2 s hs; omega)
  have h3 : Hid (∀ s ∈ l, s.size ≤ 8796093022208) := fun s hs => by have := hsm.2 s hs; omega
  have h4 : (sortedL l).length ≤ 1000000 := by have := sortedL_length l; omega
  clear hsm hr
  go_enter Tryd.func6, Tryd.ntmps6
  go_wp2_with (first
    | (go_at_call 21; (with_reducible refine HT.out.mono ?_); rintro e w2 ⟨v, rfl, hc, hn⟩; replace hB := bel hB hn; clear hn)
    | (go_at_call 11; (with_reducible refine (alive_any _ (hT.below hB)).mono ?_); rintro e w3 ⟨rfl, hn⟩; replace hB := bel hB hn; have hc3 := hc.below hn; clear hn)
    | (go_at_call 23; (with_reducible refine (sort_flat v l _ h1 h2.out _ (hT.below hB) hc3).mono ?_); rintro e w4 ⟨b2, c2, rfl, hs4, hn⟩; replace hB := bel hB hn; have hc4 := hc3.below hn; clear hn)
    | (go_at_call 24; (with_reducible refine (sorted_flat v l _ h1 h3.out _ hc4).mono ?_); rintro e w5 ⟨b3, c3, rfl, hs5, hn⟩; replace hB := bel hB hn; have hs45 := hs4.below hn; clear hn)
    | (go_at_call 22; (with_reducible refine (same_any b2 b3 (sortedL l) (sortedL l) c2 c3 h4 _ hs45 hs5).mono ?_); rintro e w6 ⟨rfl, hn⟩; replace hB := bel hB hn; clear hn))
  all_goals go_ret
  all_goals exact ⟨by simp, hB⟩

theorem own : ownKnob Tryd.prog.godebug = none := by kernel_rfl
theorem laidOut : laidOutB Tryd.prog = true := by kernel_rfl
set_option linter.unusedVariables false
set_option maxRecDepth 100000 in
theorem contract (H : Type) (enc : TypeId × Value → H) (W : World) (base : Nat) (args : Array Value) (ds gs : List (DataW H)) (before : List MemPlace)
    (hval0 : ∀ (j : Nat) t v, Tryd.f6.params[j]? = some t → args[j]? = some v → Value.okWide Tryd.prog W .any base t v)
    (hW : DataW.Whole enc Tryd.prog Tryd.f6.params.toList Rows.keysSortsSpec.vars false W args.toList ds gs before)
    (hsz : (DataW.weightsEach Tryd.prog (Tryd.f6.params.toList ++ Rows.keysSortsSpec.plain.varTypes Tryd.prog) (ds ++ gs)).all (· ≤ reachBytes) = true)
    (hL : laidMetH Tryd.prog Rows.keysSortsRow.laid W) :
    Calls Tryd.prog 6 args W fun e W' => ∃ v, e = .returned v ∧ Rows.keysSortsSpec.post enc Tryd.prog Tryd.f6 false true false false W args v W' := by
  have hval : ∀ (j : Nat) t v, Tryd.f6.params[j]? = some t → args[j]? = some v → Value.okWide Tryd.prog W .any base t v := hval0
  have hW' := hW
  obtain ⟨p, q, hA0, hV, rfl, hfz, hnd⟩ := hW
  have hA : DataW.TrodAll enc Tryd.prog W 0 (fun _ => true) true Tryd.f6.params.toList args.toList ds p := hA0
  rw [Tryd.params6] at hA hval
  obtain ⟨v0, vs0, d0, ds0, p0, q0, hargs, rfl, rfl, h0, r0⟩ := trodAll_cons hA
  obtain ⟨rfl, rfl, rfl⟩ := trodAll_nil r0
  obtain rfl : args = #[v0] := by cases args; simp_all
  obtain ⟨rfl, rfl⟩ := trodVars_none hV
  have k0 := h0
  have lt0 : ∀ x ∈ p0, x.block < W.heap.size := by obtain ⟨m, hm⟩ := k0; exact DataW.trod_lt m _ _ _ hm
  clear hA0 hval0
  obtain ⟨a, cap, ss, rfl, hrow, hl, _, _⟩ := open_strs Tryd.underlying32 Tryd.underlying9 (by kernel_rfl) (hval 0 32 v0 rfl rfl) h0
  have hT := Laid.tabs hL
  refine (walk_sorts a ss cap hl W hT hrow).mono fun e W' ⟨he, bel⟩ => ?_
  subst he
  exact ⟨_, rfl, _, _, _, [], _, [], hW', trodAll_mk1 (shut_bool Tryd.underlying4 _), (trodAll_cons_mk (Below.trod laidOut (by kernel_rfl) (of_decide_eq_true (by kernel_rfl)) k0 bel lt0) trodAll_mk0), rfl, bel.frame _, fun h => by cases h⟩

set_option maxRecDepth 100000
theorem reads (os : Os) {H : Type} (enc : TypeId × Value → H) : ∃ places, DataW.whole enc Tryd.prog ((World.laidAll Tryd.prog os Rows.keysSortsRow.laid).forCall (fun _ _ => 0) ⟨#[], #[.slice none 0 0], []⟩).memory Tryd.f6.params.toList Rows.keysSortsSpec.vars false #[.slice none 0 0].toList 8 = some ([.nil], [], places) :=
  ⟨[], by kernel_rfl⟩
theorem laid_met (os : Os) : laidMet Tryd.prog Rows.keysSortsRow.laid ((World.laidAll Tryd.prog os Rows.keysSortsRow.laid).forCall (fun _ _ => 0) ⟨#[], #[.slice none 0 0], []⟩).memory := laidMet_laidAll _ (by kernel_rfl) (by kernel_rfl)
theorem lifted (os : Os) (started : os.Started) (H : Type) (enc : TypeId × Value → H) (F : Stop.Interp) :
    ReturnsInHanded {} Tryd.checked os 6 .any ((OpenSpec.ofChange Rows.keysSortsSpec).preRow enc Tryd.prog Tryd.f6 Rows.keysSortsRow.domain false Rows.keysSortsRow.laid) (((OpenSpec.ofChange Rows.keysSortsSpec).at F).post enc Tryd.prog Tryd.f6 false true false false) := by
  obtain ⟨places, hx⟩ := reads os enc
  refine returnsInHanded_of_row (C := Tryd.checked) (s := (OpenSpec.ofChange Rows.keysSortsSpec)) own started (by kernel_rfl) Tryd.func6
    (Laid.witness_row_shaped (enc := enc) (C := Tryd.checked) false (World.laidAll Tryd.prog os Rows.keysSortsRow.laid) #[.slice none 0 0] (World.laidAll_os _ _ _) (World.shaped_of_ZipB (by kernel_rfl) (by kernel_rfl)) (by kernel_rfl)
      (OpenSpec.preRow_of_cond 8 hx (by kernel_rfl) (fun k hk => by cases hk) (by kernel_rfl) (laid_met os))) ?_
  intro W base args ds gs before hval hW _ hk hsz hL _ _
  exact contract H enc W base args ds gs before hval hW hsz hL

theorem over : Rows.keysSortsRow.holds Tryd.pinned (OpenSpec.ofChange Rows.keysSortsSpec) :=
  OpenClaim.holds_of_cond 6 Tryd.f6 rfl rfl rfl rfl rfl rfl rfl ⟨rfl, rfl, rfl, rfl, rfl⟩ rfl rfl rfl rfl rfl (by kernel_rfl) Tryd.func6 (by kernel_rfl)
    (of_decide_eq_true (by kernel_rfl)) (by unfold Func.isWrapper; first | (rw [if_pos (by decide +kernel)]; kernel_rfl) | (rw [if_neg (by decide +kernel)]; exact ⟨rfl, rfl⟩))
    (fun os started H enc _ F => by rw [OpenClaim.pre_eq_preRow]; exact lifted os started H enc F)

theorem plain (f : FuncId) (fn : Func) (hf : Tryd.pinned.checked.prog.funcNamed "cachepot/cachepotlaw2.KeysSorts" = some f) (hfn : Tryd.pinned.checked.prog.funcs[f]? = some fn) :
    false = Tryd.pinned.checked.prog.looks [] ∧ ∀ (j : Nat) t, fn.params[j]? = some t → Tryd.pinned.checked.prog.wantsStandIn t = false := by
  obtain rfl : f = 6 := Option.some.inj ((show Tryd.prog.funcNamed "cachepot/cachepotlaw2.KeysSorts" = some 6 by kernel_rfl).symm.trans hf) |>.symm
  obtain rfl : fn = Tryd.f6 := (Option.some.inj (Tryd.func6.symm.trans hfn)).symm
  refine ⟨by kernel_rfl, fun j t ht => ?_⟩
  rw [Tryd.params6] at ht
  have hm : t ∈ [32] := by simpa using Array.mem_of_getElem? ht
  have hall : ([32].all fun u => !Tryd.prog.wantsStandIn u) = true := by kernel_rfl
  exact (show Tryd.prog.wantsStandIn t = false by simpa using List.all_eq_true.1 hall t hm)

theorem proved : Rows.KeysSortsCardSaid :=
  Claim7.holds_tied_plain_at .later [] _ _ _ _ over (fun _ h => by cases h) (by kernel_rfl) (fun _ h => by cases h) keysSorts_row_tie rfl ⟨rfl, rfl⟩ (by kernel_rfl) rfl plain (by kernel_rfl)
#print axioms proved
end Go.Proofs.YtejhkpdpmjhbcaaDoor.keysSorts
