/-
  What the document's own Make answers of any writes.
-/
import Derived.Test.YtjbgiolcfammkaaDoorBatchB
namespace Go.Proofs.YtjbgiolcfammkaaDoor.Batch
open Go.RowKit
open Own Tup RefKeys RefSort

theorem bel_alloc (w : World) (o : Obj) : Below w.heap.size w (w.alloc o) := (Below.refl _ _).alloc (Nat.le_refl _) o
theorem lies_two (w : World) (o : Obj) (cs : List Value) (t : TypeId) : Lies ((w.alloc o).alloc (.cells cs.toArray t)) (w.heap.size + 1) 0 cs := by
  have h := lies_new (w.alloc o) cs t
  have e : (w.alloc o).heap.size = w.heap.size + 1 := by simp
  rw [e] at h; exact h
/-- of a Del no Val -/
def cleanW (x : Wr) : Wr := if x.del then ⟨x.key, true, ByteArray.empty⟩ else x
def lastW (l : List Wr) (key : ByteArray) : Wr := cleanW ((findW l key).getD zeroW)
def makeW (l : List Wr) : List Wr := (keysW l).map (lastW l)
theorem make_succ (l : List Wr) (k : Nat) (h : k < (keysW l).length) : ((keysW l).take (k + 1)).map (lastW l) = ((keysW l).take k).map (lastW l) ++ [lastW l (keysW l)[k]] := by
  rw [List.take_succ_eq_append_getElem h, List.map_append]; rfl
structure MakeAt (l : List Wr) (w1 : World) (v : Value) (k : Nat) (wr : World) : Prop where
  le : k ≤ (keysW l).length
  own : WMine wr w1.heap.size v (((keysW l).take k).map (lastW l))
  below : Below w1.heap.size w1 wr
set_option maxRecDepth 100000 in
set_option maxHeartbeats 4000000 in
theorem refMake_any (a : Option Addr) (l : List Wr) (cap : Nat) (hl : l.length ≤ 1000000) (hz : ∀ x ∈ l, x.key.size ≤ 8796093022208) (w : World) (hr : WAt w a l) :
    Calls Tryd.prog 16 #[.slice a l.length cap] w fun e w' => ∃ v, e = .returned v ∧ WMine w' w.heap.size v (makeW l) ∧ Below w.heap.size w w' := by
  have HK := Lib.hid (refKeys_any a l cap hl hz w hr)
  have HR := Lib.hid hr
  have hkl : (keysW l).length ≤ 1000000 := by have := sortedL_length (l.map (·.key)); rw [List.length_map] at this; unfold keysW; omega
  clear hr hz
  go_enter Tryd.func16, Tryd.ntmps16
  go_wp2_with fail
  go_at_call 21
  with_reducible refine HK.out.mono ?_
  rintro e w1 ⟨kv, rfl, hkrow, hb1⟩
  with_reducible refine Exists.elim (row_strs hkrow) ?_
  intro ka hh1
  with_reducible refine Exists.elim hh1 ?_
  intro kc hh2
  have hkv := hh2.1
  have HKC := Lib.hid hh2.2
  have HB1 := Lib.hid hb1
  have hbs1 := hb1.size
  clear hh1 hh2 hkrow hb1 HK
  subst hkv
  go_wp2
  go_loopw [4, 5] (fun v i wr => ∃ k : Nat, i = .int .i64 (k : Int) ∧ MakeAt l w1 v k wr) (fun _ i _ => (keysW l).length - (intOf i).toNat)
  case atStart => exact ⟨0, rfl, ⟨Nat.zero_le _, WMine.nil _ _, Below.refl _ _⟩⟩
  case round =>
    obtain ⟨k, rfl, hle, hown, hbel⟩ := hrel
    have HO := Lib.hid hown
    have HB := Lib.hid hbel
    have hbs := hbel.size
    clear hbel hown
    by_cases hk : k < (keysW l).length
    · have d1 : decide ((k : Int) < ((keysW l).length : Int)) = true := by simp; omega
      have HS := Lib.hid (make_succ l k hk)
      obtain ⟨gk, hka, ck⟩ := (HKC.out.below HB.out).at (strsV_at (keysW l) k hk)
      subst hka
      have hlen : (((keysW l).take k).map (lastW l)).length = k := by simp; omega
      have HF : Hid (∀ key, Calls Tryd.prog 18 #[.slice a l.length cap, .string key] wr fun e w' => e = .returned (.tuple #[.agg #[.string ((findW l key).getD zeroW).key, .bool ((findW l key).getD zeroW).del, .string ((findW l key).getD zeroW).val], .bool (findW l key).isSome]) ∧ Below wr.heap.size wr w') :=
        fun key => find_any a l cap key hl wr (Tup.At.below HR.out (HB1.out.trans (HB.out.mono hbs1)))
      have hl2 : lastW l (keysW l)[k] = cleanW ((findW l (keysW l)[k]).getD zeroW) := rfl
      rw [hl2] at HS
      clear hl2
      have HF2 := Lib.hid (HF.out (keysW l)[k])
      clear HF
      generalize (keysW l)[k] = key at *
      generalize (findW l key).getD zeroW = x at *
      generalize (findW l key).isSome = ok at *
      have b1 : ((((keysW l).take k).map (lastW l)).length + 1) * 40 ≤ 140737488355328 := by omega
      have b2 : (((keysW l).take k).map (lastW l)).length + 1 ≤ maxLen := by simp only [maxLen]; omega
      obtain ⟨L, hL⟩ : ∃ L, L = ((keysW l).take k).map (lastW l) := ⟨_, rfl⟩
      rw [← hL] at HO HS b1 b2 hlen
      clear hL
      cases hdel : x.del with
      | true =>
        have HC := Lib.hid (show cleanW x = ⟨x.key, true, ByteArray.empty⟩ by unfold cleanW; rw [hdel]; cases x; simp at hdel ⊢; try exact hdel)
        rw [hdel] at HF2
        go_wp2_with fail
        go_at_call 18
        with_reducible refine HF2.out.mono ?_
        rintro e w2 ⟨rfl, hb2⟩
        have HO2 := Lib.hid (show WMine w2 w1.heap.size u4 L from owns_below HO.out hb2)
        have HB2 := Lib.hid (HB.out.trans (hb2.mono hbs))
        have hbs2 := HB2.out.size
        clear hb2
        go_wp2_with (at_builtin; (refine append_tup rfl _ _ 22 rfl w1.heap.size 31 (.agg #[.string ⟨#[]⟩, .bool false, .string ⟨#[]⟩]) 3 40 Tryd.underlying22 infoW rfl (by decide) u4 _ _ rfl (show World.ownsRow _ w1.heap.size _ 3 u4 L.length (flatW L) from owns_below (owns_below HO2.out (bel_alloc _ _)) (bel_alloc _ _)) (w2.heap.size + 1) (wrC ⟨x.key, true, ByteArray.empty⟩) rfl rfl ?c0 ?c1 b1 b2 ?c2 ?_); (case c0 => exact lies_two w2 _ (wrC ⟨x.key, true, ByteArray.empty⟩) _); (case c1 => simp [wrC, Value.oneCell']); (case c2 => (simp; omega)); intro g cap2 w3 hown3 hgrow3 hat3 hlt3)
        have HB3 := Lib.hid (below_append ((HB2.out.alloc hbs2 (.cells (wrC ⟨x.key, true, ByteArray.empty⟩).toArray 31)).alloc (by simp; omega) (.cells (wrC ⟨x.key, true, ByteArray.empty⟩).toArray 31)) hgrow3 (by simp; omega) (fun t ht => (owns_lt HO2.out t ht).2))
        refine ⟨⟨k + 1, by go_num, ⟨by omega, ?_, HB3.out⟩⟩, by simp [intOf]; omega⟩
        rw [HS.out, HC.out]
        unfold WMine
        rw [flatW_snoc, List.length_append, List.length_singleton, hlen]
        rw [hlen] at hown3
        exact hown3
      | false =>
        have HC := Lib.hid (show cleanW x = ⟨x.key, false, x.val⟩ by unfold cleanW; rw [hdel]; cases x; simp at hdel ⊢; try exact hdel)
        rw [hdel] at HF2
        go_wp2_with fail
        go_at_call 18
        with_reducible refine HF2.out.mono ?_
        rintro e w2 ⟨rfl, hb2⟩
        have HO2 := Lib.hid (show WMine w2 w1.heap.size u4 L from owns_below HO.out hb2)
        have HB2 := Lib.hid (HB.out.trans (hb2.mono hbs))
        have hbs2 := HB2.out.size
        clear hb2
        go_wp2_with (at_builtin; (refine append_tup rfl _ _ 22 rfl w1.heap.size 31 (.agg #[.string ⟨#[]⟩, .bool false, .string ⟨#[]⟩]) 3 40 Tryd.underlying22 infoW rfl (by decide) u4 _ _ rfl (show World.ownsRow _ w1.heap.size _ 3 u4 L.length (flatW L) from owns_below (owns_below HO2.out (bel_alloc _ _)) (bel_alloc _ _)) (w2.heap.size + 1) (wrC ⟨x.key, false, x.val⟩) rfl rfl ?c0 ?c1 b1 b2 ?c2 ?_); (case c0 => exact lies_two w2 _ (wrC ⟨x.key, false, x.val⟩) _); (case c1 => simp [wrC, Value.oneCell']); (case c2 => (simp; omega)); intro g cap2 w3 hown3 hgrow3 hat3 hlt3)
        have HB3 := Lib.hid (below_append ((HB2.out.alloc hbs2 (.cells (wrC ⟨x.key, false, x.val⟩).toArray 31)).alloc (by simp; omega) (.cells (wrC ⟨x.key, false, x.val⟩).toArray 31)) hgrow3 (by simp; omega) (fun t ht => (owns_lt HO2.out t ht).2))
        refine ⟨⟨k + 1, by go_num, ⟨by omega, ?_, HB3.out⟩⟩, by simp [intOf]; omega⟩
        rw [HS.out, HC.out]
        unfold WMine
        rw [flatW_snoc, List.length_append, List.length_singleton, hlen]
        rw [hlen] at hown3
        exact hown3
    · have d1 : decide ((k : Int) < ((keysW l).length : Int)) = false := by simp; omega
      have HE := Lib.hid (show ((keysW l).take k).map (lastW l) = makeW l by rw [List.take_of_length_le (by omega), makeW])
      go_wp2
      go_ret
      exact ⟨_, rfl, by rw [← HE.out]; exact owns_base HO.out hbs1, HB1.out.trans (HB.out.mono hbs1)⟩
end Go.Proofs.YtjbgiolcfammkaaDoor.Batch
