/-
  What the document's own quoting of a text answers.
-/
import Derived.Test.YtfponjonbhnmlaaDoorRefRunes
import Derived.Test.YtfponjonbhnmlaaDoorQuoteMath
import Derived.Lib.ConvBytes
import Derived.Laws.IdiomStrings
namespace Go.Proofs.YtfponjonbhnmlaaDoor.RefGlob
open Go.RowKit
open RuneM RefRune Own RefKeys GlobM

def bs (l : List UInt8) : List Value := l.map fun b => .int .u8 (b.toNat : Int)
theorem bs_len (l : List UInt8) : (bs l).length = l.length := by simp [bs]
theorem bs_snoc (l : List UInt8) (b : UInt8) : bs (l ++ [b]) = bs l ++ [.int .u8 (b.toNat : Int)] := by simp [bs]
/-- the text of a row of bytes -/
theorem mine_text {P : Program} {w : World} {base : Nat} {v : Value} {l : List UInt8} {e : TypeId} (h : Mine w base e v (bs l)) (src dst : TypeId) (hs : P.underlying src = some (.slice e)) (he : P.underlying e = some (.int .u8)) (hd : P.underlying dst = some .string) :
    (convert src dst v).run P w = .ok (.string ⟨l.toArray⟩) w := by
  obtain ⟨a, cap, rfl, hc⟩ := h.row
  rw [bs_len]
  by_cases hl : l = []
  · subst hl
    rcases h.2 with ⟨h1, _⟩ | ⟨g, c, cur, h1, _⟩
    · simp only [Value.slice.injEq] at h1
      obtain ⟨rfl, _, rfl⟩ := h1
      rw [run_convert_bytes_string w src dst e none _ 0 hs he hd]
      simp [Conv.bytesToString, Sem.run_pure]
      rfl
    · simp only [Value.slice.injEq] at h1
      obtain ⟨rfl, _, h3⟩ := h1
      exact run_convert_bytes_back (P := P) w src dst e ⟨g, 0, none⟩ cap [] hs he hd (fun j hj => by simp at hj)
  · rcases hc with h0 | ⟨g, rfl, hc⟩
    · exact absurd (by simpa [bs] using h0) hl
    · refine run_convert_bytes_back (P := P) w src dst e ⟨g, 0, none⟩ cap l hs he hd (fun j hj => ?_)
      rw [show (⟨g, 0, none⟩ : Addr).add j = ⟨g, j, none⟩ by unfold Addr.add; split <;> simp_all]
      exact hc j _ (by simp [bs, hj])
theorem infoU8 : (Tryd.prog.info? 5).map (fun i => (i.zero, i.size, i.bytes)) = some (some (.int .u8 0), 1, 1) := by kernel_rfl
/-- where it stands -/
def QuoteIn (s : ByteArray) (w : World) (v x : Value) (wr : World) : Prop :=
  ∃ k : Nat, x = .int .i64 (k : Int) ∧ k ≤ s.size ∧ Mine wr w.heap.size 5 v (bs (quoteL (s.data.toList.take k))) ∧ Below w.heap.size w wr
set_option maxHeartbeats 4000000 in
theorem quote_any (s : ByteArray) (hs : s.size ≤ 8796093022208) (w : World) : Calls Tryd.prog 6 #[.string s] w fun e w' => e = .returned (.string (quoteB s)) ∧ Below w.heap.size w w' := by
  go_enter Tryd.func6, Tryd.ntmps6
  go_wp2
  go_loopw [3, 4] (fun v x wr => QuoteIn s w v x wr) (fun _ x _ => s.size - (intOf x).toNat)
  case atStart => exact ⟨0, rfl, Nat.zero_le _, Mine.nil _ _ _, Below.refl _ _⟩
  case round =>
    obtain ⟨k, rfl, hk, hM, hB⟩ := hrel
    have HM := Lib.hid hM
    have HB := Lib.hid hB
    clear hM hB
    by_cases hlt : k < s.size
    · have l0 : (k : Int) < (s.size : Int) := by omega
      have HT := Lib.hid (quote_take hlt)
      have hql := quote_len (s.data.toList.take k)
      have hqn : (s.data.toList.take k).length ≤ s.size := by simp; omega
      generalize quoteL (s.data.toList.take k) = q at HM HT hql
      have hbl : (bs q).length ≤ 17592186044416 := by rw [bs_len]; omega
      clear hql hqn
      generalize hc : s[k].toNat = c at HT
      have hQQ : Hid (s[k].toNat = c) := hc
      cases hm : isM c with
      | false =>
        have HQ : Hid (bs (quoteL (s.data.toList.take (k + 1))) = bs q ++ [.int .u8 (c : Int)]) := by
          show _ = _
          rw [HT.out, hm]; simp [bs, hc]
        simp only [isM, Bool.or_eq_false_iff, beq_eq_false_iff_ne] at hm
        obtain ⟨⟨⟨⟨⟨⟨n42, n63⟩, n91⟩, n93⟩, n92⟩, n94⟩, n45⟩ := hm
        have f42 : ((c : Int) == 42) = false := by simp; omega
        have f63 : ((c : Int) == 63) = false := by simp; omega
        have f91 : ((c : Int) == 91) = false := by simp; omega
        have f93 : ((c : Int) == 93) = false := by simp; omega
        have f92 : ((c : Int) == 92) = false := by simp; omega
        have f94 : ((c : Int) == 94) = false := by simp; omega
        have f45 : ((c : Int) == 45) = false := by simp; omega
        go_wp2_with (at_builtin; (refine append_one rfl _ _ 30 rfl w.heap.size 5 (.int .u8 0) 1 Tryd.underlying30 infoU8 rfl u3 (bs q) rfl (Mine.alloc HM.out _) wr.heap.size (.int .u8 (c : Int)) rfl ?c1 rfl ?c7 ?c8 ?c2 ?_); (case c1 => simp); (case c7 => omega); (case c8 => (simp only [maxLen]; omega)); (case c2 => (have := HB.out.size; simp; omega)); intro g2 cap2 w2 hm2 hgr2 _ _; have HM2 := Lib.hid hm2; have HB2 := Lib.hid (below_append (HB.out.alloc HB.out.size _) hgr2 (by have := HB.out.size; simp; omega) (fun k hk => (HM.out.lt k hk).2)))
        go_roundw
        case rel => exact ⟨k + 1, by go_num, hlt, by rw [HQ.out]; first | exact HM2.out | simpa using HM2.out, HB2.out⟩
        case measure => simp [intOf]; omega
      | true =>
        have HQ : Hid (bs (quoteL (s.data.toList.take (k + 1))) = bs q ++ [.int .u8 92] ++ [.int .u8 (c : Int)]) := by
          show _ = _
          rw [HT.out, hm]; simp [bs, hc]
        have hor : c = 42 ∨ c = 63 ∨ c = 91 ∨ c = 93 ∨ c = 92 ∨ c = 94 ∨ c = 45 := by simp [isM] at hm; omega
        clear hm HT
        rcases hor with rfl | rfl | rfl | rfl | rfl | rfl | rfl
        · skip
          go_wp2_with (first
            | (at_builtin; (refine append_one rfl _ _ 30 rfl w.heap.size 5 (.int .u8 0) 1 Tryd.underlying30 infoU8 rfl (.slice (some ⟨g1, 0, none⟩) ((bs q).length + 1) cap1) (bs q ++ [.int .u8 92]) rfl (Mine.alloc HM1.out _) w1.heap.size (.int .u8 42) rfl ?c3 rfl ?c5 ?c6 ?c4 ?_); (case c3 => simp); (case c5 => (simp only [List.length_append, List.length_cons, List.length_nil]; omega)); (case c6 => (simp only [List.length_append, List.length_cons, List.length_nil, maxLen]; omega)); (case c4 => (have := HB1.out.size; simp; omega)); intro g2 cap2 w2 hm2 hgr2 _ _
               have HM2 := Lib.hid hm2
               have HB2 := Lib.hid (below_append (HB1.out.alloc HB1.out.size _) hgr2 (by have := HB1.out.size; simp; omega) (fun k hk => (HM1.out.lt k hk).2)))
            | (at_builtin; (refine append_one rfl _ _ 30 rfl w.heap.size 5 (.int .u8 0) 1 Tryd.underlying30 infoU8 rfl u3 (bs q) rfl (Mine.alloc HM.out _) wr.heap.size (.int .u8 92) rfl ?c1 rfl ?c7 ?c8 ?c2 ?_); (case c1 => simp); (case c7 => omega); (case c8 => (simp only [maxLen]; omega)); (case c2 => (have := HB.out.size; simp; omega)); intro g1 cap1 w1 hm1 hgr1 _ _
               have HM1 := Lib.hid hm1
               have HB1 := Lib.hid (below_append (HB.out.alloc HB.out.size _) hgr1 (by have := HB.out.size; simp; omega) (fun k hk => (HM.out.lt k hk).2))))
          go_roundw
          case rel => exact ⟨k + 1, by go_num, hlt, by rw [HQ.out]; first | exact HM2.out | simpa using HM2.out, HB2.out⟩
          case measure => simp [intOf]; omega
        · skip
          go_wp2_with (first
            | (at_builtin; (refine append_one rfl _ _ 30 rfl w.heap.size 5 (.int .u8 0) 1 Tryd.underlying30 infoU8 rfl (.slice (some ⟨g1, 0, none⟩) ((bs q).length + 1) cap1) (bs q ++ [.int .u8 92]) rfl (Mine.alloc HM1.out _) w1.heap.size (.int .u8 63) rfl ?c3 rfl ?c5 ?c6 ?c4 ?_); (case c3 => simp); (case c5 => (simp only [List.length_append, List.length_cons, List.length_nil]; omega)); (case c6 => (simp only [List.length_append, List.length_cons, List.length_nil, maxLen]; omega)); (case c4 => (have := HB1.out.size; simp; omega)); intro g2 cap2 w2 hm2 hgr2 _ _
               have HM2 := Lib.hid hm2
               have HB2 := Lib.hid (below_append (HB1.out.alloc HB1.out.size _) hgr2 (by have := HB1.out.size; simp; omega) (fun k hk => (HM1.out.lt k hk).2)))
            | (at_builtin; (refine append_one rfl _ _ 30 rfl w.heap.size 5 (.int .u8 0) 1 Tryd.underlying30 infoU8 rfl u3 (bs q) rfl (Mine.alloc HM.out _) wr.heap.size (.int .u8 92) rfl ?c1 rfl ?c7 ?c8 ?c2 ?_); (case c1 => simp); (case c7 => omega); (case c8 => (simp only [maxLen]; omega)); (case c2 => (have := HB.out.size; simp; omega)); intro g1 cap1 w1 hm1 hgr1 _ _
               have HM1 := Lib.hid hm1
               have HB1 := Lib.hid (below_append (HB.out.alloc HB.out.size _) hgr1 (by have := HB.out.size; simp; omega) (fun k hk => (HM.out.lt k hk).2))))
          go_roundw
          case rel => exact ⟨k + 1, by go_num, hlt, by rw [HQ.out]; first | exact HM2.out | simpa using HM2.out, HB2.out⟩
          case measure => simp [intOf]; omega
        · skip
          go_wp2_with (first
            | (at_builtin; (refine append_one rfl _ _ 30 rfl w.heap.size 5 (.int .u8 0) 1 Tryd.underlying30 infoU8 rfl (.slice (some ⟨g1, 0, none⟩) ((bs q).length + 1) cap1) (bs q ++ [.int .u8 92]) rfl (Mine.alloc HM1.out _) w1.heap.size (.int .u8 91) rfl ?c3 rfl ?c5 ?c6 ?c4 ?_); (case c3 => simp); (case c5 => (simp only [List.length_append, List.length_cons, List.length_nil]; omega)); (case c6 => (simp only [List.length_append, List.length_cons, List.length_nil, maxLen]; omega)); (case c4 => (have := HB1.out.size; simp; omega)); intro g2 cap2 w2 hm2 hgr2 _ _
               have HM2 := Lib.hid hm2
               have HB2 := Lib.hid (below_append (HB1.out.alloc HB1.out.size _) hgr2 (by have := HB1.out.size; simp; omega) (fun k hk => (HM1.out.lt k hk).2)))
            | (at_builtin; (refine append_one rfl _ _ 30 rfl w.heap.size 5 (.int .u8 0) 1 Tryd.underlying30 infoU8 rfl u3 (bs q) rfl (Mine.alloc HM.out _) wr.heap.size (.int .u8 92) rfl ?c1 rfl ?c7 ?c8 ?c2 ?_); (case c1 => simp); (case c7 => omega); (case c8 => (simp only [maxLen]; omega)); (case c2 => (have := HB.out.size; simp; omega)); intro g1 cap1 w1 hm1 hgr1 _ _
               have HM1 := Lib.hid hm1
               have HB1 := Lib.hid (below_append (HB.out.alloc HB.out.size _) hgr1 (by have := HB.out.size; simp; omega) (fun k hk => (HM.out.lt k hk).2))))
          go_roundw
          case rel => exact ⟨k + 1, by go_num, hlt, by rw [HQ.out]; first | exact HM2.out | simpa using HM2.out, HB2.out⟩
          case measure => simp [intOf]; omega
        · skip
          go_wp2_with (first
            | (at_builtin; (refine append_one rfl _ _ 30 rfl w.heap.size 5 (.int .u8 0) 1 Tryd.underlying30 infoU8 rfl (.slice (some ⟨g1, 0, none⟩) ((bs q).length + 1) cap1) (bs q ++ [.int .u8 92]) rfl (Mine.alloc HM1.out _) w1.heap.size (.int .u8 93) rfl ?c3 rfl ?c5 ?c6 ?c4 ?_); (case c3 => simp); (case c5 => (simp only [List.length_append, List.length_cons, List.length_nil]; omega)); (case c6 => (simp only [List.length_append, List.length_cons, List.length_nil, maxLen]; omega)); (case c4 => (have := HB1.out.size; simp; omega)); intro g2 cap2 w2 hm2 hgr2 _ _
               have HM2 := Lib.hid hm2
               have HB2 := Lib.hid (below_append (HB1.out.alloc HB1.out.size _) hgr2 (by have := HB1.out.size; simp; omega) (fun k hk => (HM1.out.lt k hk).2)))
            | (at_builtin; (refine append_one rfl _ _ 30 rfl w.heap.size 5 (.int .u8 0) 1 Tryd.underlying30 infoU8 rfl u3 (bs q) rfl (Mine.alloc HM.out _) wr.heap.size (.int .u8 92) rfl ?c1 rfl ?c7 ?c8 ?c2 ?_); (case c1 => simp); (case c7 => omega); (case c8 => (simp only [maxLen]; omega)); (case c2 => (have := HB.out.size; simp; omega)); intro g1 cap1 w1 hm1 hgr1 _ _
               have HM1 := Lib.hid hm1
               have HB1 := Lib.hid (below_append (HB.out.alloc HB.out.size _) hgr1 (by have := HB.out.size; simp; omega) (fun k hk => (HM.out.lt k hk).2))))
          go_roundw
          case rel => exact ⟨k + 1, by go_num, hlt, by rw [HQ.out]; first | exact HM2.out | simpa using HM2.out, HB2.out⟩
          case measure => simp [intOf]; omega
        · skip
          go_wp2_with (first
            | (at_builtin; (refine append_one rfl _ _ 30 rfl w.heap.size 5 (.int .u8 0) 1 Tryd.underlying30 infoU8 rfl (.slice (some ⟨g1, 0, none⟩) ((bs q).length + 1) cap1) (bs q ++ [.int .u8 92]) rfl (Mine.alloc HM1.out _) w1.heap.size (.int .u8 92) rfl ?c3 rfl ?c5 ?c6 ?c4 ?_); (case c3 => simp); (case c5 => (simp only [List.length_append, List.length_cons, List.length_nil]; omega)); (case c6 => (simp only [List.length_append, List.length_cons, List.length_nil, maxLen]; omega)); (case c4 => (have := HB1.out.size; simp; omega)); intro g2 cap2 w2 hm2 hgr2 _ _
               have HM2 := Lib.hid hm2
               have HB2 := Lib.hid (below_append (HB1.out.alloc HB1.out.size _) hgr2 (by have := HB1.out.size; simp; omega) (fun k hk => (HM1.out.lt k hk).2)))
            | (at_builtin; (refine append_one rfl _ _ 30 rfl w.heap.size 5 (.int .u8 0) 1 Tryd.underlying30 infoU8 rfl u3 (bs q) rfl (Mine.alloc HM.out _) wr.heap.size (.int .u8 92) rfl ?c1 rfl ?c7 ?c8 ?c2 ?_); (case c1 => simp); (case c7 => omega); (case c8 => (simp only [maxLen]; omega)); (case c2 => (have := HB.out.size; simp; omega)); intro g1 cap1 w1 hm1 hgr1 _ _
               have HM1 := Lib.hid hm1
               have HB1 := Lib.hid (below_append (HB.out.alloc HB.out.size _) hgr1 (by have := HB.out.size; simp; omega) (fun k hk => (HM.out.lt k hk).2))))
          go_roundw
          case rel => exact ⟨k + 1, by go_num, hlt, by rw [HQ.out]; first | exact HM2.out | simpa using HM2.out, HB2.out⟩
          case measure => simp [intOf]; omega
        · skip
          go_wp2_with (first
            | (at_builtin; (refine append_one rfl _ _ 30 rfl w.heap.size 5 (.int .u8 0) 1 Tryd.underlying30 infoU8 rfl (.slice (some ⟨g1, 0, none⟩) ((bs q).length + 1) cap1) (bs q ++ [.int .u8 92]) rfl (Mine.alloc HM1.out _) w1.heap.size (.int .u8 94) rfl ?c3 rfl ?c5 ?c6 ?c4 ?_); (case c3 => simp); (case c5 => (simp only [List.length_append, List.length_cons, List.length_nil]; omega)); (case c6 => (simp only [List.length_append, List.length_cons, List.length_nil, maxLen]; omega)); (case c4 => (have := HB1.out.size; simp; omega)); intro g2 cap2 w2 hm2 hgr2 _ _
               have HM2 := Lib.hid hm2
               have HB2 := Lib.hid (below_append (HB1.out.alloc HB1.out.size _) hgr2 (by have := HB1.out.size; simp; omega) (fun k hk => (HM1.out.lt k hk).2)))
            | (at_builtin; (refine append_one rfl _ _ 30 rfl w.heap.size 5 (.int .u8 0) 1 Tryd.underlying30 infoU8 rfl u3 (bs q) rfl (Mine.alloc HM.out _) wr.heap.size (.int .u8 92) rfl ?c1 rfl ?c7 ?c8 ?c2 ?_); (case c1 => simp); (case c7 => omega); (case c8 => (simp only [maxLen]; omega)); (case c2 => (have := HB.out.size; simp; omega)); intro g1 cap1 w1 hm1 hgr1 _ _
               have HM1 := Lib.hid hm1
               have HB1 := Lib.hid (below_append (HB.out.alloc HB.out.size _) hgr1 (by have := HB.out.size; simp; omega) (fun k hk => (HM.out.lt k hk).2))))
          go_roundw
          case rel => exact ⟨k + 1, by go_num, hlt, by rw [HQ.out]; first | exact HM2.out | simpa using HM2.out, HB2.out⟩
          case measure => simp [intOf]; omega
        · skip
          go_wp2_with (first
            | (at_builtin; (refine append_one rfl _ _ 30 rfl w.heap.size 5 (.int .u8 0) 1 Tryd.underlying30 infoU8 rfl (.slice (some ⟨g1, 0, none⟩) ((bs q).length + 1) cap1) (bs q ++ [.int .u8 92]) rfl (Mine.alloc HM1.out _) w1.heap.size (.int .u8 45) rfl ?c3 rfl ?c5 ?c6 ?c4 ?_); (case c3 => simp); (case c5 => (simp only [List.length_append, List.length_cons, List.length_nil]; omega)); (case c6 => (simp only [List.length_append, List.length_cons, List.length_nil, maxLen]; omega)); (case c4 => (have := HB1.out.size; simp; omega)); intro g2 cap2 w2 hm2 hgr2 _ _
               have HM2 := Lib.hid hm2
               have HB2 := Lib.hid (below_append (HB1.out.alloc HB1.out.size _) hgr2 (by have := HB1.out.size; simp; omega) (fun k hk => (HM1.out.lt k hk).2)))
            | (at_builtin; (refine append_one rfl _ _ 30 rfl w.heap.size 5 (.int .u8 0) 1 Tryd.underlying30 infoU8 rfl u3 (bs q) rfl (Mine.alloc HM.out _) wr.heap.size (.int .u8 92) rfl ?c1 rfl ?c7 ?c8 ?c2 ?_); (case c1 => simp); (case c7 => omega); (case c8 => (simp only [maxLen]; omega)); (case c2 => (have := HB.out.size; simp; omega)); intro g1 cap1 w1 hm1 hgr1 _ _
               have HM1 := Lib.hid hm1
               have HB1 := Lib.hid (below_append (HB.out.alloc HB.out.size _) hgr1 (by have := HB.out.size; simp; omega) (fun k hk => (HM.out.lt k hk).2))))
          go_roundw
          case rel => exact ⟨k + 1, by go_num, hlt, by rw [HQ.out]; first | exact HM2.out | simpa using HM2.out, HB2.out⟩
          case measure => simp [intOf]; omega
    · have l0 : ¬ (k : Int) < (s.size : Int) := by omega
      have HE : Hid (⟨(quoteL (s.data.toList.take k)).toArray⟩ = quoteB s) := by
        show _ = _
        rw [List.take_of_length_le (by simp; omega)]; rfl
      have hcv := mine_text (P := Tryd.prog) HM.out 30 9 Tryd.underlying30 Tryd.underlying5 Tryd.underlying9
      rw [HE.out] at hcv
      go_wp2
      go_ret
      exact ⟨rfl, HB.out⟩
end Go.Proofs.YtfponjonbhnmlaaDoor.RefGlob
