/-
  What package batch answers of any writes: Make.
-/
import Derived.Test.YtjbgiolcfammkaaDoorBatchXk
import Derived.Maps.Own
import Derived.Maps.OwnOps
import Derived.Maps.Views
namespace Go.Proofs.YtjbgiolcfammkaaDoor.Batch
open Go.RowKit
open Own Tup RefKeys RefSort

/-- a map's element is read as itself -/
def heldR (v : Value) : Option (DataW Value × List MemPlace) := some (.held v, [])
/-- the program's map of texts and writes, in block b -/
def Holds (w : World) (b n : Nat) (D : DataW Value) : Prop := w.ownsMap Tryd.prog 9 heldR b n D
theorem Holds.below {w w' : World} {b n : Nat} {D : DataW Value} (h : Holds w b n D) (hb : Below w.heap.size w w') : Holds w' b n D := by
  have hlt := World.ownsMap.lt h
  obtain ⟨es, clock, h1, F, hs, hD⟩ := h
  exact ⟨es, clock, (hb.block b hlt).trans h1, F, hs, hD⟩
theorem zeroV (w : World) : (zeroValue 31).run Tryd.prog w = .ok (aggW zeroW) w := by kernel_rfl
set_option maxRecDepth 100000 in
theorem lookup_held {w : World} {ops : Array Oper} {rest : List Oper} {o : Oper} {a : Act} {Q : Exit → Act → World → Prop} (hg : o.guard = none) (m x : Operand) (t : TypeId) (hop : o.op = Op.lookup t m x false)
    (ht : Tryd.prog.underlying t = some (.map 9 31)) (b n : Nat) (D : DataW Value) (hm : a.eval m = .map (some b)) (hown : Holds w b n D) (key : ByteArray) (hx : a.eval x = .string key) (hs : key.size ≤ maxLen)
    (y : Wr) (hy : D.atKey (.string key.data.toList) (.held (aggW zeroW)) = .held (aggW y))
    (hK : wpList Tryd.prog ops Q rest (a.put o.dst (.agg #[.string y.key, .bool y.del, .string y.val])) w) :
    wpList Tryd.prog ops Q (o :: rest) a w := by
  refine wpList_plain hg fun K' hK' => ?_
  obtain ⟨v, ps, hrun, hv⟩ := World.ownsMap.lookup (zd := .held (aggW zeroW)) (zp := []) hown (Maps.string_keyed Tryd.underlying9) ht (zeroV w) rfl (WideMaps.keyOf_string_mk Tryd.underlying9 hs)
  rw [hy] at hv
  have e : v = aggW y := by simp only [heldR, Option.some.injEq, Prod.mk.injEq, DataW.held.injEq] at hv; exact hv.1
  subst e
  unfold Oper.wp
  simp only [execOp, hop, hm, hx, hrun, Result.andThen, Sem.run_bind, Sem.run_pure, Result.andThen_ok]
  exact hK' _ _ hK
theorem find_snoc (p : List Wr) (x : Wr) (key : ByteArray) : findW (p ++ [x]) key = if x.key = key then some x else findW p key := by
  unfold findW
  rw [List.reverse_append]
  simp only [List.reverse_cons, List.reverse_nil, List.nil_append, List.singleton_append, List.find?_cons]
  by_cases h : x.key = key
  · simp [h]
  · simp [h]
theorem last_snoc (p : List Wr) (x : Wr) (key : ByteArray) : lastW (p ++ [x]) key = if x.key = key then cleanW x else lastW p key := by
  unfold lastW
  rw [find_snoc]
  split <;> rfl
theorem last_nil (key : ByteArray) : lastW [] key = zeroW := rfl
/-- of each text the map has the last write -/
def Tells (D : DataW Value) (p : List Wr) : Prop := Maps.IsMap D ∧ ∀ key : ByteArray, D.atKey (.string key.data.toList) (.held (aggW zeroW)) = .held (aggW (lastW p key))
theorem Tells.nil : Tells (.map []) [] := ⟨Maps.isMap_empty, fun key => by rw [last_nil]; rfl⟩
theorem Tells.put {D : DataW Value} {p : List Wr} (h : Tells D p) (x : Wr) : Tells (D.put (.string x.key.data.toList) (.held (aggW (cleanW x)))) (p ++ [x]) := by
  refine ⟨h.1.put _ _, fun key => ?_⟩
  rw [last_snoc]
  by_cases he : x.key = key
  · subst he
    rw [if_pos rfl, Maps.atKey_put_same h.1 (show WideAt.IsKeyLit (.string x.key.data.toList) from trivial)]
  · rw [if_neg he, Maps.atKey_put_other (fun e => he (by
      have : key.data.toList = x.key.data.toList := by simpa using e
      cases hk : key; cases hx : x.key
      rw [hk, hx] at this
      simp only at this
      rw [Array.toList_inj.1 this])), h.2]
structure MapAt (l : List Wr) (w : World) (k : Nat) (wr : World) : Prop where
  le : k ≤ l.length
  map : ∃ D, Holds wr w.heap.size k D ∧ Tells D (l.take k)
  below : Below w.heap.size w wr
set_option maxRecDepth 100000 in
set_option maxHeartbeats 8000000 in
theorem make_any (a : Option Addr) (l : List Wr) (cap : Nat) (hl : l.length ≤ 1000000) (hz : ∀ x ∈ l, x.key.size ≤ 8796093022208) (w : World) (hT : Tb w) (hr : WAt w a l) :
    Calls Tryd.prog 14 #[.slice a l.length cap] w fun e w' => ∃ v, e = .returned v ∧ WMine w' w.heap.size v (makeW l) ∧ Below w.heap.size w w' := by
  have HK := Lib.hid (fun w hT hr => keys_any a l cap hl hz w hT hr)
  have HR := Lib.hid hr
  have HT := Lib.hid hT
  have HZ := Lib.hid hz
  have hkl : (keysW l).length ≤ 1000000 := by have := sortedL_length (l.map (·.key)); rw [List.length_map] at this; unfold keysW; omega
  have HKZ : Hid (∀ s ∈ keysW l, s.size ≤ maxLen) := by
    intro s hs
    unfold keysW at hs
    have := sortedL_mem _ s hs
    obtain ⟨x, hx, rfl⟩ := List.mem_map.1 this
    have := hz x hx
    simp only [maxLen]; omega
  clear hr hz hT
  have hmm := @run_makeMap Tryd.prog
  go_enter Tryd.func14, Tryd.ntmps14
  go_wp2
  go_loopw [12] (fun i wr => ∃ k : Nat, i = .int .i64 (k : Int) ∧ MapAt l w k wr) (fun i _ => l.length - (intOf i).toNat)
  case atStart => exact ⟨0, rfl, ⟨Nat.zero_le _, ⟨_, World.ownsMap_made w Tryd.prog 9 heldR, Tells.nil⟩, bel_alloc _ _⟩⟩
  case round =>
    obtain ⟨k, rfl, hle, hmap, hbel⟩ := hrel
    have HB := Lib.hid hbel
    have hbs := hbel.size
    obtain ⟨D, hm, htl⟩ := hmap
    have HM := Lib.hid hm
    have HTL := Lib.hid htl
    clear hbel hm htl hmm
    by_cases hk : k < l.length
    · have d1 : decide ((k : Int) < (l.length : Int)) = true := by simp; omega
      have d2 : decide (k < l.length) = true := by simp; omega
      obtain ⟨b, off, ha, c0, c1, c2⟩ := WAt.get (Tup.At.below HR.out HB.out) (List.getElem?_eq_getElem hk)
      have HTK := Lib.hid (show l.take (k + 1) = l.take k ++ [l[k]] from List.take_succ_eq_append_getElem hk)
      have hxs : l[k].key.size ≤ maxLen := by have := HZ.out l[k] (List.getElem_mem hk); simp only [maxLen]; omega
      generalize l[k] = x at c0 c1 c2 HTK hxs
      subst ha
      clear HK HKZ HZ
      cases hdel : x.del with
      | true =>
        rw [hdel] at c1
        have HC := Lib.hid (show aggW (cleanW x) = .agg #[.string x.key, .bool true, .string ⟨#[]⟩] by unfold cleanW aggW; rw [hdel]; first | (rw [if_pos rfl]; rfl) | (rw [if_neg (by simp)]; simp [hdel]))
        have HT2 := Lib.hid (HTL.out.put x)
        rw [HC.out] at HT2
        go_wp2_with (at_mapUpdate; (refine wpList_mapUpdate_own _ rfl _ _ _ 50 rfl 9 31 (Maps.string_keyed Tryd.underlying9) Tryd.underlying50 heldR w.heap.size k D rfl ?c1 ?c2 _ _ _ rfl rfl (WideMaps.keyOf_string_mk Tryd.underlying9 hxs) _ [] rfl ?_); (case c1 => exact Holds.below HM.out (bel_alloc _ _)); (case c2 => (simp only [maxLen]; omega)); intro w2 hm2 hg2)
        have HB2 := Lib.hid (below_append (HB.out.alloc hbs (.cells #[.string x.key, .bool true, .string ⟨#[]⟩] 31)) hg2 (by simp; omega) (fun t ht => by cases ht; exact Nat.le_refl _))
        go_wp2
        refine ⟨⟨k + 1, by go_num, ⟨by omega, ⟨_, hm2, by rw [HTK.out]; exact HT2.out⟩, HB2.out⟩⟩, by simp [intOf]; omega⟩
      | false =>
        rw [hdel] at c1
        have HC := Lib.hid (show aggW (cleanW x) = .agg #[.string x.key, .bool false, .string x.val] by unfold cleanW aggW; rw [hdel]; first | (rw [if_pos rfl]; rfl) | (rw [if_neg (by simp)]; simp [hdel]))
        have HT2 := Lib.hid (HTL.out.put x)
        rw [HC.out] at HT2
        go_wp2_with (at_mapUpdate; (refine wpList_mapUpdate_own _ rfl _ _ _ 50 rfl 9 31 (Maps.string_keyed Tryd.underlying9) Tryd.underlying50 heldR w.heap.size k D rfl ?c1 ?c2 _ _ _ rfl rfl (WideMaps.keyOf_string_mk Tryd.underlying9 hxs) _ [] rfl ?_); (case c1 => exact Holds.below HM.out (bel_alloc _ _)); (case c2 => (simp only [maxLen]; omega)); intro w2 hm2 hg2)
        have HB2 := Lib.hid (below_append (HB.out.alloc hbs (.cells #[.string x.key, .bool false, .string x.val] 31)) hg2 (by simp; omega) (fun t ht => by cases ht; exact Nat.le_refl _))
        go_wp2
        refine ⟨⟨k + 1, by go_num, ⟨by omega, ⟨_, hm2, by rw [HTK.out]; exact HT2.out⟩, HB2.out⟩⟩, by simp [intOf]; omega⟩
    · have d1 : decide ((k : Int) < (l.length : Int)) = false := by simp; omega
      have d2 : decide (k < l.length) = false := by simp; omega
      rw [List.take_of_length_le (by omega)] at HTL
      have HK1 := Lib.hid (HK.out wr (HT.out.below HB.out) (Tup.At.below HR.out HB.out))
      clear HK
      go_wp2_with fail
      go_at_call 20
      with_reducible refine HK1.out.mono ?_
      rintro e w1 ⟨kv, rfl, hkrow, hb1⟩
      have HM1 := Lib.hid (Holds.below HM.out hb1)
      have HB1 := Lib.hid (HB.out.trans (hb1.mono hbs))
      have hbs1 := HB1.out.size
      with_reducible refine Exists.elim (row_strs hkrow) ?_
      intro ka hh1
      with_reducible refine Exists.elim hh1 ?_
      intro kc hh2
      have hkv := hh2.1
      have HKC := Lib.hid hh2.2
      clear hh1 hh2 hkrow hb1 HK1 HM
      subst hkv
      go_wp2
      go_loopw [6, 27] (fun v i wr => ∃ k : Nat, i = .int .i64 (k : Int) ∧ MakeAt l w1 v k wr) (fun _ i _ => (keysW l).length - (intOf i).toNat)
      case atStart => exact ⟨0, rfl, ⟨Nat.zero_le _, WMine.nil _ _, Below.refl _ _⟩⟩
      case round =>
        obtain ⟨k2, rfl, hle2, hown, hbel⟩ := hrel
        have HO := Lib.hid hown
        have HB2 := Lib.hid hbel
        have hbs2 := hbel.size
        clear hbel hown
        by_cases hk2 : k2 < (keysW l).length
        · have d3 : decide ((k2 : Int) < ((keysW l).length : Int)) = true := by simp; omega
          have d4 : decide (k2 < (keysW l).length) = true := by simp; omega
          have HS := Lib.hid (make_succ l k2 hk2)
          obtain ⟨gk, hka, ck⟩ := (HKC.out.below HB2.out).at (strsV_at (keysW l) k2 hk2)
          subst hka
          have hlen : (((keysW l).take k2).map (lastW l)).length = k2 := by simp; omega
          have hks : (keysW l)[k2].size ≤ maxLen := HKZ.out _ (List.getElem_mem hk2)
          have HY := Lib.hid (HTL.out.2 (keysW l)[k2])
          have HM2 := Lib.hid (Holds.below HM1.out HB2.out)
          generalize (keysW l)[k2] = key at *
          generalize lastW l key = y at *
          have b1 : ((((keysW l).take k2).map (lastW l)).length + 1) * 40 ≤ 140737488355328 := by omega
          have b2 : (((keysW l).take k2).map (lastW l)).length + 1 ≤ maxLen := by simp only [maxLen]; omega
          obtain ⟨L, hL⟩ : ∃ L, L = ((keysW l).take k2).map (lastW l) := ⟨_, rfl⟩
          rw [← hL] at HO HS b1 b2 hlen
          clear hL HTL HKZ
          go_wp2_with (first
            | (at_lookup; (refine lookup_held rfl _ _ 50 rfl Tryd.underlying50 w.heap.size k D rfl HM2.out key rfl hks y HY.out ?_))
            | (at_builtin; (refine append_tup rfl _ _ 22 rfl w1.heap.size 31 (.agg #[.string ⟨#[]⟩, .bool false, .string ⟨#[]⟩]) 3 40 Tryd.underlying22 infoW rfl (by decide) _ _ _ rfl (show World.ownsRow _ w1.heap.size _ 3 _ L.length (flatW L) from owns_below HO.out (bel_alloc _ _)) wr.heap.size (wrC y) rfl rfl ?c0 ?c1 b1 b2 ?c2 ?_); (case c0 => exact lies_new _ (wrC y) _); (case c1 => simp [wrC, Value.oneCell']); (case c2 => (simp; omega)); intro g cap2 w3 hown3 hgrow3 hat3 hlt3))
          have HB3 := Lib.hid (below_append (HB2.out.alloc hbs2 (.cells (wrC y).toArray 31)) hgrow3 (by simp; omega) (fun t ht => (owns_lt HO.out t ht).2))
          refine ⟨⟨k2 + 1, by go_num, ⟨by omega, ?_, HB3.out⟩⟩, by simp [intOf]; omega⟩
          rw [HS.out]
          unfold WMine
          rw [flatW_snoc, List.length_append, List.length_singleton, hlen]
          rw [hlen] at hown3
          exact hown3
        · have d3 : decide ((k2 : Int) < ((keysW l).length : Int)) = false := by simp; omega
          have d4 : decide (k2 < (keysW l).length) = false := by simp; omega
          have HE := Lib.hid (show ((keysW l).take k2).map (lastW l) = makeW l by rw [List.take_of_length_le (by omega), makeW])
          go_wp2
          go_ret
          exact ⟨_, rfl, by rw [← HE.out]; exact owns_base HO.out hbs1, HB1.out.trans (HB2.out.mono hbs1)⟩
end Go.Proofs.YtjbgiolcfammkaaDoor.Batch
