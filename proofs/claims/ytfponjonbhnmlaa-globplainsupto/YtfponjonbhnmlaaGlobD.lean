/-
  What package glob reads as the first part of signs.
-/
import Derived.Test.YtfponjonbhnmlaaGlobC
namespace Go.Proofs.Ytfponjonbhnmlaa.Glob
open Go.RowKit
open RuneM RefRune Own RefKeys GlobM Keys

/-- where first stands -/
structure FirstAt (w wr : World) (s : Sg) : Prop where
  r : Three wr w.heap.size 65 (.bool false) (.bool false) (.slice none 0 0)
  x : Two wr (w.heap.size + 1) 75 (.int .i32 (s.1 : Int)) (.bool s.2)
  below : Below w.heap.size w wr
theorem FirstAt.far {w wr w' : World} {s : Sg} (h : FirstAt w wr s) (hb : Below wr.heap.size wr w') : FirstAt w w' s := by
  have hz : w.heap.size + 1 < wr.heap.size := (Array.getElem?_eq_some_iff.1 h.x).1
  exact ⟨h.r.below hb (by omega), h.x.below hb hz, h.below.trans (hb.mono h.below.size)⟩
theorem FirstAt.drew {w wr : World} {s : Sg} (h : FirstAt w wr s) : FirstAt w wr.drew s := h.far (Below.refl _ _).drew
theorem first_start (w : World) (s : Sg) : FirstAt w ((w.alloc (.cells #[.bool false, .bool false, .slice none 0 0] 65)).alloc (.cells #[.int .i32 (s.1 : Int), .bool s.2] 75)) s := by
  have s1 := size_alloc w (.cells #[.bool false, .bool false, .slice none 0 0] 65)
  refine ⟨?_, ?_, ?_⟩
  · refine Three.below (B := w.heap.size + 1) (w := w.alloc _) (heap_new w _) ?_ (by omega)
    exact (bel_alloc _ _).mono (by rw [s1]; omega)
  · have := heap_new (w.alloc (.cells #[.bool false, .bool false, .slice none 0 0] 65)) (.cells #[.int .i32 (s.1 : Int), .bool s.2] 75)
    rw [s1] at this; exact this
  · exact (bel_alloc w _).trans ((bel_alloc _ _).mono (by rw [s1]; omega))
theorem first_start2 (w : World) (s : Sg) : FirstAt w ((w.alloc (.cells #[.bool false, .bool false, .slice none 0 0] 65)).drew.alloc (.cells #[.int .i32 (s.1 : Int), .bool s.2] 75)) s := by
  have s1 := size_alloc w (.cells #[.bool false, .bool false, .slice none 0 0] 65)
  have s2 : ((w.alloc (.cells #[.bool false, .bool false, .slice none 0 0] 65)).drew).heap.size = w.heap.size + 1 := s1
  refine ⟨?_, ?_, ?_⟩
  · refine Three.below (B := w.heap.size + 1) (w := (w.alloc (.cells #[.bool false, .bool false, .slice none 0 0] 65)).drew) (heap_new w _) ?_ (by omega)
    exact (bel_alloc _ _).mono (by rw [s2]; omega)
  · have := heap_new ((w.alloc (.cells #[.bool false, .bool false, .slice none 0 0] 65)).drew) (.cells #[.int .i32 (s.1 : Int), .bool s.2] 75)
    rw [s2] at this; exact this
  · exact ((bel_alloc w _).drew).trans ((bel_alloc _ _).mono (by rw [s2]; omega))
/-- spans lie elsewhere than a part does -/
theorem spans_apart {w : World} {b k : Nat} {v a1 a2 a3 : Value} {sp : List (Nat × Nat)} (h : SpansM w b v sp) (ht : Three w k 65 a1 a2 a3) : v.ownBlock ≠ some k := by
  intro e
  rcases h.2 with ⟨rfl, _⟩ | ⟨g, cap, cur, rfl, _, hg, _⟩
  · cases e
  · cases e
    rw [ht] at hg
    simp at hg
theorem spans3 {w : World} {k : Nat} {v a1 a2 a3 : Value} {sp : List (Nat × Nat)} (h : SpansM w 0 v sp) (ht : Three w k 65 a1 a2 a3) (a b c : Value) : SpansM (((w.setCell ⟨k, 0, none⟩ a).setCell ⟨k, 1, none⟩ b).setCell ⟨k, 2, none⟩ c) 0 v sp := by
  have hn := spans_apart h ht
  have st : ∀ {w1 : World} (o : Nat) (x : Value), SpansM w1 0 v sp → SpansM (w1.setCell ⟨k, o, none⟩ x) 0 v sp := fun o x h1 => World.ownsRow.kept h1 (grown_set _ _ _) (.inr hn)
  exact st _ _ (st _ _ (st _ _ h))
theorem one_spans {w : World} {g c : Nat} (h : w.heap[g]? = some (.cells #[.int .i32 (c : Int), .int .i32 (c : Int)] 77 (0, 0))) : SpansM w 0 (.slice (some ⟨g, 0, none⟩) 1 1) [(c, c)] :=
  ⟨rfl, .inr ⟨g, 1, _, rfl, Nat.zero_le _, h, Nat.le_refl _, by simp [maxLen], rfl, rfl⟩⟩
set_option maxRecDepth 100000 in
set_option maxHeartbeats 4000000 in
theorem first_any (B : Nat) (s : Sg) (T : List Sg) (v : Value) (hl : T.length + 1 ≤ 1000) (w : World) (hB : B ≤ w.heap.size) (h : Sgn B w v (s :: T)) : Calls Try.prog 33 #[v] w (PartSays B (itemS (T.length + 2) (s :: T)) w) := by
  have HV := Lib.hid h
  have HBA := Lib.hid (fun s c ci h w => bare_any s c ci h w)
  have HST := Lib.hid (first_start w s)
  have HST2 := Lib.hid (first_start2 w s)
  obtain ⟨g, off, cap, ad, rfl, hcap, c0, c1, hg, hif, hS⟩ := h.cons
  have HS := Lib.hid hS
  have m0 : g ≠ w.heap.size := by omega
  have m1 : g ≠ w.heap.size + 1 := by omega
  have n2 : (1 : Int) ≤ ((T.length : Nat) : Int) + 1 := by omega
  have n3 : (0 : Int) < ((T.length : Nat) : Int) + 1 := by omega
  have hgw := Nat.lt_of_lt_of_le hg hB
  have cA : ∀ o v, w.cell? ⟨g, o, none⟩ = some v → (w.alloc (Obj.cells #[Value.bool false, Value.bool false, Value.slice none 0 0] 65)).cell? ⟨g, o, none⟩ = some v := fun o v hv => by rw [(bel_alloc w _).cell hgw]; exact hv
  have cB : ∀ o v, w.cell? ⟨g, o, none⟩ = some v → ((w.alloc (Obj.cells #[Value.bool false, Value.bool false, Value.slice none 0 0] 65)).alloc (Obj.cells #[Value.int IntKind.i32 0, Value.bool false] 75)).cell? ⟨g, o, none⟩ = some v := fun o v hv => by rw [(bel_alloc _ _).cell (by rw [size_alloc]; exact Nat.lt_succ_of_lt hgw)]; exact cA o v hv
  have cC : ∀ o v, w.cell? ⟨g, o, none⟩ = some v → ((w.alloc (Obj.cells #[Value.bool false, Value.bool false, Value.slice none 0 0] 65)).drew.alloc (Obj.cells #[Value.int IntKind.i32 0, Value.bool false] 75)).cell? ⟨g, o, none⟩ = some v := fun o v hv => by rw [(bel_alloc _ _).cell (show g < (w.alloc _).heap.size by rw [size_alloc]; exact Nat.lt_succ_of_lt hgw)]; exact cA o v hv
  have a0 := cA _ _ c0
  have a1 := cA _ _ c1
  have a2 := cB _ _ c0
  have a3 := cB _ _ c1
  have a4 := cC _ _ c0
  have a5 := cC _ _ c1
  clear h hS cA cB cC
  go_enter Try.func33, Try.ntmps33
  go_upto_region 1 with fail
  go_cut [5, 6] (fun s5 s6 wx => s5 = .pointer (some ⟨w.heap.size + 1, 0, none⟩) ∧ s6 = .slice ad T.length (cap - 1) ∧ FirstAt w wx s)
  case first =>
    go_wp2
    go_region
    all_goals go_wp2
    all_goals
      go_meet
      case rel => exact ⟨rfl, rfl, by first | exact HST2.out | exact HST2.out.drew | exact HST.out.drew | exact HST.out⟩
  case rest =>
    obtain ⟨rfl, rfl, hA⟩ := hcut
    have HA0 := Lib.hid hA
    obtain ⟨k0, k1, k2, k3⟩ := HA0.out.x.facts
    clear hA c0 c1 HST HST2 hif a0 a1 a2 a3 a4 a5
    by_cases b42 : bare s 42 = true
    · have HE := Lib.hid (fun w' x u => part_is (B := B) (o := itemS (T.length + 2) (s :: T)) (w := w) (w' := w') (x := x) (u := u) (it := star) (T := T) (by simp [itemS, b42]))
      go_wp2_with fail
      go_at_call 40
      with_reducible refine (HBA.out s 42 42 rfl _).mono ?_
      rintro e w1 ⟨rfl, hb⟩
      have HA1 := Lib.hid (HA0.out.far hb)
      obtain ⟨r0, r1, r2, q0, q1, q2⟩ := HA1.out.r.facts
      clear hb k0 k1 k2 k3
      rw [b42]
      clear b42
      go_wp2
      (try simp only [Exit.inBlock, Exit.then])
      refine bodyPost_ret (by simp [results, Try.results33, go_sem, r0, r1, r2]; try rfl) rfl ?_
      exact HE.out _ _ _ (below3 HA1.out.below _ _ _) (HS.out _ ((below3 HA1.out.below _ _ _).mono hB)) ⟨_, by simp [starOf, notOf, star], SpansM.nil _ _, fun h => by cases h⟩
    · have b42' : bare s 42 = false := by simpa using b42
      by_cases b63 : bare s 63 = true
      · have HE := Lib.hid (fun w' x u => part_is (B := B) (o := itemS (T.length + 2) (s :: T)) (w := w) (w' := w') (x := x) (u := u) (it := any) (T := T) (by simp [itemS, b42', b63]))
        go_wp2_with fail
        go_at_call 40
        with_reducible refine (HBA.out s 42 42 rfl _).mono ?_
        rintro e w1 ⟨rfl, hb⟩
        have HA1 := Lib.hid (HA0.out.far hb)
        clear hb k0 k1 k2 k3
        obtain ⟨k0, k1, k2, k3⟩ := HA1.out.x.facts
        rw [b42']
        clear b42 b42' HA0
        go_wp2_with fail
        go_at_call 40
        with_reducible refine (HBA.out s 63 63 rfl _).mono ?_
        rintro e w2 ⟨rfl, hb⟩
        have HA2 := Lib.hid (HA1.out.far hb)
        obtain ⟨r0, r1, r2, q0, q1, q2⟩ := HA2.out.r.facts
        clear hb k0 k1 k2 k3
        rw [b63]
        clear b63
        go_wp2
        (try simp only [Exit.inBlock, Exit.then])
        refine bodyPost_ret (by simp [results, Try.results33, go_sem, r0, r1, r2]; try rfl) rfl ?_
        exact HE.out _ _ _ (below3 HA2.out.below _ _ _) (HS.out _ ((below3 HA2.out.below _ _ _).mono hB)) ⟨_, by simp [starOf, notOf, any], SpansM.nil _ _, fun _ => rfl⟩
      · have b63' : bare s 63 = false := by simpa using b63
        have HQ : Hid (itemS (T.length + 2) (s :: T) = if bare s 91 = true then setS (T.length + 2) T else some (one s.1, T)) := by show _ = _; simp [itemS, b42', b63']
        go_wp2_with fail
        go_at_call 40
        with_reducible refine (HBA.out s 42 42 rfl _).mono ?_
        rintro e w1 ⟨rfl, hb⟩
        have HA1 := Lib.hid (HA0.out.far hb)
        clear hb k0 k1 k2 k3
        obtain ⟨k0, k1, k2, k3⟩ := HA1.out.x.facts
        rw [b42']
        clear b42 b42' HA0
        go_wp2_with fail
        go_at_call 40
        with_reducible refine (HBA.out s 63 63 rfl _).mono ?_
        rintro e w2 ⟨rfl, hb⟩
        have HA2 := Lib.hid (HA1.out.far hb)
        clear hb k0 k1 k2 k3
        obtain ⟨k0, k1, k2, k3⟩ := HA2.out.x.facts
        rw [b63']
        clear b63 b63' HA1
        go_wp2_with fail
        go_at_call 40
        with_reducible refine (HBA.out s 91 91 rfl _).mono ?_
        rintro e w3 ⟨rfl, hb⟩
        have HA3 := Lib.hid (HA2.out.far hb)
        clear hb k0 k1 k2 k3
        obtain ⟨k0, k1, k2, k3⟩ := HA3.out.x.facts
        clear HA2
        by_cases b91 : bare s 91 = true
        · rw [b91]
          rw [b91] at HQ
          have hz := HA3.out.below.size
          have HSET := Lib.hid (set_any B T (.slice ad T.length (cap - 1)) (by omega) w3 (by omega) (HS.out _ (HA3.out.below.mono hB)))
          rw [setS_two (f := T.length + 1) (g := T.length + 2) (by omega) (by omega)] at HSET
          clear b91
          go_wp2_with fail
          go_at_call 41
          with_reducible refine HSET.out.mono ?_
          rintro e w4 ⟨hb, hm⟩
          have HA4 := Lib.hid (HA3.out.far hb)
          obtain ⟨r0, r1, r2, q0, q1, q2⟩ := HA4.out.r.facts
          clear hb HSET k0 k1 k2 k3
          cases hq : setS (T.length + 2) T with
          | none =>
            rw [hq] at hm HQ
            subst hm
            have HE := Lib.hid (fun w' => part_no (B := B) (o := itemS (T.length + 2) (s :: T)) (w := w) (w' := w') (by rw [HQ.out]; rfl))
            clear hq
            go_wp2
            (try simp only [Exit.inBlock, Exit.then])
            refine bodyPost_ret (by simp [results, Try.results33, go_sem, r0, r1, r2]; try rfl) rfl ?_
            exact HE.out _ (below3 HA4.out.below _ _ _)
          | some y =>
            obtain ⟨it, U⟩ := y
            rw [hq] at hm HQ
            obtain ⟨x, u, rfl, hu, spv, rfl, hsp, hk⟩ := hm
            obtain ⟨p, rfl⟩ := owns_slice hsp
            have HE := Lib.hid (fun w' x u => part_is (B := B) (o := itemS (T.length + 2) (s :: T)) (w := w) (w' := w') (x := x) (u := u) (it := it) (T := U) (by rw [HQ.out]; rfl))
            have HSP := Lib.hid hsp
            have HU := Lib.hid hu
            have HK := Lib.hid hk
            clear hq hsp hu hk
            obtain ⟨b1, hb1⟩ : ∃ b1, b1 = starOf it := ⟨_, rfl⟩
            obtain ⟨b2, hb2⟩ : ∃ b2, b2 = notOf it := ⟨_, rfl⟩
            have HAG : Hid (Value.agg #[.bool b1, .bool b2, .slice p.1 it.sp.length p.2] = .agg #[.bool (starOf it), .bool (notOf it), .slice p.1 it.sp.length p.2]) := by rw [hb1, hb2]; rfl
            rw [← hb1, ← hb2]
            clear hb1 hb2
            go_wp2
            (try simp only [Exit.inBlock, Exit.then])
            refine bodyPost_ret (by simp [results, Try.results33, go_sem, r0, r1, r2]; try rfl) rfl ?_
            exact HE.out _ _ _ (below3 HA4.out.below _ _ _) (HU.out.below ((below3k (Below.refl w.heap.size _) _ _ _).mono hB)) ⟨_, HAG.out, spans3 HSP.out HA4.out.r _ _ _, HK.out⟩
        · have b91' : bare s 91 = false := by simpa using b91
          rw [b91']
          rw [b91'] at HQ
          have HE := Lib.hid (fun w' x u => part_is (B := B) (o := itemS (T.length + 2) (s :: T)) (w := w) (w' := w') (x := x) (u := u) (it := one s.1) (T := T) (by rw [HQ.out]; rfl))
          have hz : w.heap.size + 1 < w3.heap.size := (Array.getElem?_eq_some_iff.1 HA3.out.x).1
          have HA4 := Lib.hid (HA3.out.far (bel_alloc w3 (Obj.cells #[.int .i32 (s.1 : Int), .int .i32 (s.1 : Int)] 77)))
          obtain ⟨r0, r1, r2, q0, q1, q2⟩ := HA4.out.r.facts
          have m3 : w.heap.size ≠ w3.heap.size := by omega
          clear b91 b91'
          go_wp2
          (try simp only [Exit.inBlock, Exit.then])
          refine bodyPost_ret (by simp [results, Try.results33, go_sem, r0, r1, r2]; try rfl) rfl ?_
          exact HE.out _ _ _ (below3 HA4.out.below _ _ _) (HS.out _ ((below3 HA4.out.below _ _ _).mono hB)) ⟨_, by simp [starOf, notOf, one], spans3 (one_spans (heap_new _ _)) HA4.out.r _ _ _, fun h => by cases h⟩
end Go.Proofs.Ytfponjonbhnmlaa.Glob
