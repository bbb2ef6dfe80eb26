/-
  Whether a pattern says a text, by package glob.
-/
import Derived.Test.YtfponjonbhnmlaaGlobH
namespace Go.Proofs.Ytfponjonbhnmlaa.Glob
open Go.RowKit
open RuneM RefRune Own RefKeys GlobM Keys RefGlob

theorem Bits.kept {w w' : World} {g n : Nat} {f : Nat → Bool} {row : Option Nat} (h : Bits w g n f n) (hg : w.grownBy w' row) (hne : some g ≠ row) : Bits w' g n f n := by
  have hl : ∀ j, j < n → w'.cell? ⟨g, j, none⟩ = w.cell? ⟨g, j, none⟩ ∧ w'.frozen? ⟨g, j, none⟩ = w.frozen? ⟨g, j, none⟩ := fun j hj => by
    obtain ⟨b, hc⟩ := (h.1 j hj).1
    have := block_lt_of_cell hc
    exact ⟨hg.cell_far _ this hne, hg.frozen_far _ this hne⟩
  refine ⟨fun j hj => ?_, fun j hj => ?_⟩
  · rw [(hl j hj).1, (hl j hj).2]; exact h.1 j hj
  · rw [(hl j hj).1]; exact h.2 j hj
/-- a row of parts lies below a place -/
def PartsLow (b : Nat) (v : Value) (ps : List (It × Value)) : Prop := (∀ j, b ≤ j → v.ownBlock ≠ some j) ∧ ∀ x ∈ ps, ∀ j, b ≤ j → x.2.ownBlock ≠ some j
theorem PartsM.low {w : World} {base : Nat} {v : Value} {ps : List (It × Value)} (h : PartsM w base v ps) : PartsLow w.heap.size v ps :=
  ⟨fun j hj e => by have := (owns_lt h.row j e).1; omega, fun x hx j hj e => by have := (owns_lt (h.sp x hx).1 j e).1; omega⟩
theorem PartsM.kept2 {w w' : World} {base b k : Nat} {v : Value} {ps : List (It × Value)} (h : PartsM w base v ps) (hl : PartsLow b v ps) (hk : b ≤ k) (hg : w.grownBy w' (some k)) : PartsM w' base v ps :=
  h.kept (fun x hx => hl.2 x hx k hk) (hl.1 k hk) hg
/-- where Match stands in its loop; w2: the world behind sayNothing -/
def MatchIn (k : ByteArray) (w w2 : World) (g : Nat) (v : Value) (ps : List (It × Value)) (wr : World) : Prop :=
  ∃ (pos : Nat) (done : List (Nat × Nat)), wr.heap[w2.heap.size]? = some (.stringIter k pos) ∧ Part k pos done ∧ Bits wr g (ps.length + 1) (sayB (ps.map (·.1)) (done.map (·.1))) (ps.length + 1) ∧ PartsM wr w.heap.size v ps ∧ Below w.heap.size w wr
set_option maxRecDepth 100000 in
set_option maxHeartbeats 4000000 in
theorem match_any (p k : ByteArray) (hp : p.size ≤ lim) (hk : k.size ≤ lim) (w : World) : Calls Try.prog 12 #[.string p, .string k] w fun e w' => e = .returned (.bool (globB p k)) ∧ Below w.heap.size w w' := by
  have HPA := Lib.hid (parts_any p hp w)
  cases hq : itemsL (nums p) with
  | none =>
    have HG := Lib.hid (globB_none (k := k) hq)
    go_enter Try.func12, Try.ntmps12
    go_wp2_with fail
    go_at_call 20
    with_reducible refine HPA.out.mono ?_
    rintro e w1 ⟨hb, hm⟩
    rw [hq] at hm
    subst hm
    have HB := Lib.hid hb
    clear hb hq
    go_wp2
    go_ret
    exact ⟨ret_bool HG.out.symm, HB.out⟩
  | some its =>
    have HG := Lib.hid (globB_some (k := k) hq)
    have hlen := itemsL_len hq
    go_enter Try.func12, Try.ntmps12
    go_wp2_with fail
    go_at_call 20
    with_reducible refine HPA.out.mono ?_
    rintro e w1 ⟨hb, hm⟩
    rw [hq] at hm
    obtain ⟨v, ps, rfl, hM, hps⟩ := hm
    have hl1 : ps.length ≤ 24 := by rw [← hps] at hlen; simpa using hlen.1
    have HL2 : Hid (∀ x ∈ ps, x.1.sp.length ≤ 1000) := fun x hx => by
      have := hlen.2 x.1 (by rw [← hps]; exact List.mem_map_of_mem hx)
      omega
    have HPS := Lib.hid hps
    have HB := Lib.hid hb
    have HM := Lib.hid hM
    have HLO := Lib.hid hM.low
    have HN := Lib.hid (nothing_any _ v ps (by omega) w1 hM)
    obtain ⟨pv, rfl⟩ := owns_slice hM.row
    clear hb hq hM hps hlen HPA
    go_wp2_with fail
    go_at_call 22
    with_reducible refine HN.out.mono ?_
    rintro e w2 ⟨g, rfl, hg1, hg2, hbits, hb⟩
    have HB2 := Lib.hid (HB.out.trans (hb.mono HB.out.size))
    have HM2 := Lib.hid (HM.out.below hb)
    have HBI := Lib.hid hbits
    have hwg : w.heap.size ≤ g := Nat.le_trans HB.out.size hg1
    clear hb hbits HN HM
    go_wp2
    go_loopw [] (fun wr => MatchIn k w w2 g (.slice pv.1 ps.length pv.2) ps wr) (fun wr => k.size - wr.iterPos w2.heap.size)
    case atStart => exact ⟨0, [], heap_new w2 _, Part.start k, Bits.far HBI.out (bel_alloc _ _), HM2.out.below (bel_alloc _ _), HB2.out.trans ((bel_alloc _ _).mono HB2.out.size)⟩
    case round =>
      obtain ⟨pos, done, hi, hP, hBits, hM, hBw⟩ := hrel
      have HBT := Lib.hid hBits
      have HMR := Lib.hid hM
      have HBW := Lib.hid hBw
      have HI := Lib.hid hi
      have HP := Lib.hid hP
      by_cases hlt : pos < k.size
      · have hnx : ∀ ty, (Instr.next (.pointer (some ⟨w2.heap.size, 0, none⟩)) true ty).run Try.prog wr = _ := fun ty => Lib.run_next_any_at wr w2.heap.size k pos ty hi hlt
        have hw := dec_width k pos hlt
        have HNX := Lib.hid (hP.next hlt)
        have HI2 := Lib.hid (Lib.iterAt_heap wr w2.heap.size k pos (pos + (Utf8.decode k pos).2) hi)
        have HGI := Lib.hid (grown_iterAt wr w2.heap.size k (pos + (Utf8.decode k pos).2))
        have hsz2 := HB2.out.size
        have HB3 := Lib.hid (Lib.below_iterAt hBw hsz2 k (pos + (Utf8.decode k pos).2))
        have HBT3 := Lib.hid (Bits.kept hBits HGI.out (by simp; omega))
        have HM3 := Lib.hid (hM.kept2 HLO.out (by have := hg2; omega) HGI.out)
        clear hi hP hBits hM hBw
        generalize Utf8.decode k pos = d at hnx hw HNX HI2 HGI HB3 HBT3 HM3
        have HMAP : Hid ((done ++ [d]).map (·.1) = done.map (·.1) ++ [d.1]) := by show _ = _; simp
        have HMO := Lib.hid (more_any _ _ ps (by omega) HL2.out (done.map (·.1)) d.1 g _ HM3.out (HLO.out.1 g hg1) (fun x hx => HLO.out.2 x hx g hg1) HBT3.out)
        go_wp2_with fail
        go_at_call 23
        with_reducible refine HMO.out.mono ?_
        rintro e w4 ⟨rfl, hbits4, hgr4⟩
        have HBT4 := Lib.hid hbits4
        have HM4 := Lib.hid (HM3.out.kept2 HLO.out hg1 hgr4)
        have HI4 := Lib.hid (iter_kept HI2.out hgr4 (by simp; omega))
        have HB4 := Lib.hid (HB3.out.grown hgr4 HB3.out.size (fun j hj => by cases hj; exact hwg))
        clear hbits4 hgr4 HMO
        go_wp2
        go_roundw
        case rel => exact ⟨_, _, HI4.out, HNX.out, by rw [HMAP.out]; exact HBT4.out, HM4.out, HB4.out⟩
        case measure => simp [World.iterPos, HI.out, HI4.out]; omega
      · have hnx : ∀ ty, (Instr.next (.pointer (some ⟨w2.heap.size, 0, none⟩)) true ty).run Try.prog wr = _ := fun ty => Lib.run_next_end_at wr w2.heap.size k pos ty hi hlt
        have hr := hP.done hlt
        have ce := HBT.out.2 ps.length (by omega)
        have HE : Hid (sayB (ps.map (·.1)) (done.map (·.1)) ps.length = globB p k) := by
          show _ = _
          rw [HG.out, ← HPS.out, ← hr]
          unfold sayB
          rw [List.take_of_length_le (by simp)]
          rfl
        rw [HE.out] at ce
        have l2 : (ps.length : Int) < (ps.length : Int) + 1 := by omega
        clear hi hP hBits hM hBw hr
        obtain ⟨gb, hgb⟩ : ∃ b, b = globB p k := ⟨_, rfl⟩
        rw [← hgb] at ce
        have HGB := Lib.hid hgb
        clear hgb
        go_wp2
        go_ret
        exact ⟨ret_bool HGB.out, HBW.out⟩
end Go.Proofs.Ytfponjonbhnmlaa.Glob
