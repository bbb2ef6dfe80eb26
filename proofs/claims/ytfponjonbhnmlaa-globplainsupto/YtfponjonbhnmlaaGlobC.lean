/-
  What package glob reads of a set.
-/
import Derived.Test.YtfponjonbhnmlaaGlobB
namespace Go.Proofs.Ytfponjonbhnmlaa.Glob
open Go.RowKit
open RuneM RefRune Own RefKeys GlobM Keys

/-- where set stands in its loop -/
def SetIn (B : Nat) (L : List Sg) (neg : Bool) (w : World) (x : Value) (wr : World) : Prop :=
  ∃ L' sp f spv, Sgn B wr x L' ∧ L'.length < f ∧ sp.length + L'.length ≤ L.length ∧ setS (L.length + 1) L = (setFS f sp L').map (fun y => (⟨3, neg, y.1⟩, y.2)) ∧ SetAt w wr neg spv sp
theorem set_in0 {B : Nat} {L : List Sg} {w wr : World} {v : Value} (hn : hat L = false) (hS : Sgn B wr v L) (hA : SetAt w wr false (.slice none 0 0) []) : SetIn B L false w v wr :=
  ⟨L, [], L.length + 1, _, hS, by omega, by simp, by simp [setS, hn], hA⟩
theorem set_in1 {B : Nat} {L : List Sg} {w wr : World} {v : Value} (hn : hat L = true) (hS : Sgn B wr v L.tail) (hA : SetAt w wr true (.slice none 0 0) []) : SetIn B L true w v wr :=
  ⟨L.tail, [], L.length + 1, _, hS, by simp; omega, by simp, by simp [setS, hn], hA⟩
theorem setFS_end {f : Nat} {sp : List (Nat × Nat)} {s : Sg} {t : List Sg} (h : bare s 93 = true) : setFS (f + 1) sp (s :: t) = if sp = [] then none else some (sp, t) := by simp only [setFS, h, if_true]
theorem setFS_no {f : Nat} {sp : List (Nat × Nat)} {s : Sg} {t : List Sg} (h : bare s 93 = false) (h2 : spanS (s :: t) = none) : setFS (f + 1) sp (s :: t) = none := by simp [setFS, h, h2]
theorem setFS_go {f : Nat} {sp : List (Nat × Nat)} {s : Sg} {t : List Sg} {x : Nat × Nat} {u : List Sg} (h : bare s 93 = false) (h2 : spanS (s :: t) = some (x, u)) : setFS (f + 1) sp (s :: t) = setFS f (sp ++ [x]) u := by simp [setFS, h, h2]
theorem below3 {w wr : World} (hB : Below w.heap.size w wr) (a b c : Value) : Below w.heap.size w (((wr.setCell ⟨w.heap.size, 0, none⟩ a).setCell ⟨w.heap.size, 1, none⟩ b).setCell ⟨w.heap.size, 2, none⟩ c) :=
  ((hB.setCell (Nat.le_refl _) _).setCell (Nat.le_refl _) _).setCell (Nat.le_refl _) _
theorem below3k {k : Nat} {wa wr : World} (hB : Below k wa wr) (a b c : Value) : Below k wa (((wr.setCell ⟨k, 0, none⟩ a).setCell ⟨k, 1, none⟩ b).setCell ⟨k, 2, none⟩ c) :=
  ((hB.setCell (Nat.le_refl _) _).setCell (Nat.le_refl _) _).setCell (Nat.le_refl _) _
theorem owns3 {wr : World} {k : Nat} {e : TypeId} {size : Nat} {v : Value} {n : Nat} {xs : List Value} (h : wr.ownsRow (k + 1) e size v n xs) (a b c : Value) : (((wr.setCell ⟨k, 0, none⟩ a).setCell ⟨k, 1, none⟩ b).setCell ⟨k, 2, none⟩ c).ownsRow (k + 1) e size v n xs := by
  have st : ∀ {w1 : World} (o : Nat) (x : Value), w1.ownsRow (k + 1) e size v n xs → (w1.setCell ⟨k, o, none⟩ x).ownsRow (k + 1) e size v n xs := fun o x h1 => World.ownsRow.kept h1 (grown_set _ _ _) (by
    cases hq : v.ownBlock with
    | none => exact .inl rfl
    | some j => right; have := (owns_lt h1 j hq).2; simp; omega)
  exact st _ _ (st _ _ (st _ _ h))
theorem part_no {B : Nat} {o : Option (It × List Sg)} {w w' : World} (h : o = none) (hb : Below w.heap.size w w') : PartSays B o w (.returned (.tuple #[.agg #[.bool false, .bool false, .slice none 0 0], .slice none 0 0, .bool false])) w' := by
  subst h; exact ⟨hb, rfl⟩
theorem part_is {B : Nat} {o : Option (It × List Sg)} {w w' : World} {it : It} {T : List Sg} {x u : Value} (h : o = some (it, T)) (hb : Below w.heap.size w w') (hu : Sgn B w' u T) (hx : PartV w' x it) : PartSays B o w (.returned (.tuple #[x, u, .bool true])) w' := by
  subst h; exact ⟨hb, x, u, rfl, hu, hx⟩
theorem PartSays.drew {B : Nat} {o : Option (It × List Sg)} {w w' : World} {e : Ending} (h : PartSays B o w e w') : PartSays B o w e w'.drew := by
  refine ⟨h.1.drew, ?_⟩
  have := h.2
  cases o with
  | none => exact this
  | some y => obtain ⟨it, T⟩ := y; obtain ⟨x, u, e, h1, h2⟩ := this; exact ⟨x, u, e, h1, h2⟩
theorem new_cells (w : World) (a b : Value) (o : Obj) : ∀ j u, [a, b][j]? = some u → ((w.alloc o).alloc (.cells #[a, b] 77)).cell? ⟨w.heap.size + 1, j, none⟩ = some u := by
  intro j u hj
  have h := heap_new (w.alloc o) (.cells #[a, b] 77)
  rw [size_alloc] at h
  match j, hj with
  | 0, hj => simp at hj; subst hj; unfold World.cell?; rw [h]; rfl
  | 1, hj => simp at hj; subst hj; unfold World.cell?; rw [h]; rfl
  | j + 2, hj => simp at hj
theorem new_ones (a b : Int) : ∀ u ∈ [Value.int .i32 a, .int .i32 b], u.oneCell' = true := by
  intro u hu; simp at hu; rcases hu with rfl | rfl <;> rfl
/-- set's memory behind an append to the spans: the slice in 'out' is still the old one -/
structure SetMid (w wr : World) (neg : Bool) (spv : Value) (sp : List (Nat × Nat)) (old : Value) : Prop where
  r : Three wr w.heap.size 65 (.bool false) (.bool false) (.slice none 0 0)
  x : Three wr (w.heap.size + 1) 65 (.bool false) (.bool neg) old
  m : SpansM wr (w.heap.size + 2) spv sp
  below : Below w.heap.size w wr
theorem SetAt.app {w wr w' : World} {neg : Bool} {spv v' : Value} {sp : List (Nat × Nat)} {x : Nat × Nat} (h : SetAt w wr neg spv sp) (hg : wr.grownBy w' spv.ownBlock) (_hz : w.heap.size + 1 < wr.heap.size)
    (ho : w'.ownsRow (w.heap.size + 2) 77 2 v' (sp.length + 1) (flat sp ++ [.int .i32 (x.1 : Int), .int .i32 (x.2 : Int)])) : SetMid w w' neg v' (sp ++ [x]) spv := by
  have hlt := owns_lt h.m
  refine ⟨h.r.kept hg (fun e => by have := (hlt _ e).2; omega), h.x.kept hg (fun e => by have := (hlt _ e).2; omega), ?_, h.below.grown hg h.below.size (fun k hk => by have := (hlt k hk).2; omega)⟩
  unfold SpansM; rw [flat_snoc, List.length_append]; exact ho
theorem SetMid.done {w wr : World} {neg : Bool} {spv old : Value} {sp : List (Nat × Nat)} (h : SetMid w wr neg spv sp old) : SetAt w (wr.setCell ⟨w.heap.size + 1, 2, none⟩ spv) neg spv sp := by
  have hg := grown_set wr ⟨w.heap.size + 1, 2, none⟩ spv
  refine ⟨h.r.kept hg (by simp), h.x.set2 _, World.ownsRow.kept h.m hg ?_, h.below.setCell (Nat.le_succ _) _⟩
  cases hq : spv.ownBlock with
  | none => exact .inl rfl
  | some k => right; have := (owns_lt h.m k hq).2; simp; omega
theorem set_bel {w3 w4 : World} {B k : Nat} {e : TypeId} {size : Nat} {v : Value} {n : Nat} {xs : List Value} {o1 o2 : Obj} (hg : ((w3.alloc o1).alloc o2).grownBy w4 v.ownBlock) (hm : ((w3.alloc o1).alloc o2).ownsRow k e size v n xs) (_hz : k - 1 < w3.heap.size) (hB : B ≤ k) (hB3 : B ≤ w3.heap.size) : Below B w3 w4 := by
  have h1 : Below B w3 ((w3.alloc o1).alloc o2) := ((bel_alloc w3 o1).mono hB3).trans ((bel_alloc _ o2).mono (by rw [size_alloc]; omega))
  exact h1.grown hg (by simp only [size_alloc]; omega) (fun j hj => Nat.le_trans hB (owns_lt hm j hj).2)
set_option maxRecDepth 100000 in
set_option maxHeartbeats 4000000 in
theorem set_any (B : Nat) (L : List Sg) (v : Value) (hl : L.length ≤ 1000) (w : World) (hB : B ≤ w.heap.size) (h : Sgn B w v L) : Calls Try.prog 41 #[v] w (PartSays B (setS (L.length + 1) L) w) := by
  have HV := Lib.hid h
  have HST := Lib.hid (set_start w)
  have HBA := Lib.hid (fun s w => bare_any s 94 94 rfl w)
  have HBB := Lib.hid (fun s w => bare_any s 93 93 rfl w)
  go_enter Try.func41, Try.ntmps41
  go_upto_region 2 with fail
  go_cut [17] (fun s wx => s = .bool (hat L) ∧ SetAt w wx false (.slice none 0 0) [])
  case first =>
    cases L with
    | nil =>
      obtain ⟨a, cap, rfl⟩ := h.nil
      clear h
      go_wp2
      go_meet
      case rel => exact ⟨rfl, HST.out⟩
    | cons s T =>
      have HS1 := Lib.hid (HV.out.below (HST.out.below.mono hB))
      obtain ⟨g, off, cap, ad, rfl, hcap, c0, c1, hg, hif, hS⟩ := HS1.out.cons
      have n0 : (0 : Int) < ((T.length : Nat) : Int) + 1 := by omega
      clear hS HS1 h
      go_wp2_with fail
      go_at_call 40
      with_reducible refine (HBA.out s _).mono ?_
      rintro e w2 ⟨rfl, hb⟩
      have HB1 := Lib.hid hb
      clear hb
      go_wp2
      go_meet
      case rel => exact ⟨rfl, HST.out.far HB1.out⟩
  case rest =>
    obtain ⟨rfl, hA⟩ := hcut
    go_upto_if 17 with fail
    go_cut [0] (fun x wx => SetIn B L (hat L) w x wx)
    case first =>
      obtain ⟨x0, x1, x2, y0, y1, y2⟩ := hA.x.facts
      have HA := Lib.hid hA
      clear hA h
      cases hnn : hat L with
      | false =>
        have H0 : Hid (SetIn B L (hat L) w v wc) := by rw [hnn]; exact set_in0 hnn (HV.out.below (HA.out.below.mono hB)) HA.out
        clear hnn
        go_wp2
        go_meet
        case rel => exact H0.out
      | true =>
        have hA2 := HA.out.neg true
        cases L with
        | nil => cases hnn
        | cons s T =>
          have HS1 := Lib.hid (HV.out.below (hA2.below.mono hB))
          obtain ⟨g, off, cap, ad, rfl, hcap, c0, c1, hg, hif, hS⟩ := HS1.out.cons
          have n0 : (1 : Int) ≤ ((T.length : Nat) : Int) + 1 := by omega
          have H0 : Hid (SetIn B (s :: T) (hat (s :: T)) w (.slice ad T.length (cap - 1)) (wc.setCell ⟨w.heap.size + 1, 1, none⟩ (.bool true))) := by rw [hnn]; exact set_in1 hnn (hS _ (Below.refl _ _)) hA2
          clear hnn hS HS1 c0 c1 hA2
          go_wp2
          go_meet
          case rel => exact H0.out
    case rest =>
      have HIN := Lib.hid hcut
      clear hcut hA h
      go_wp2
      go_loopw [0] (fun x wr => SetIn B L (hat L) w x wr) (fun x _ => lenOf x)
      case atStart => exact HIN.out
      case round =>
        obtain ⟨L', sp, f, spv, hu, hf, hsl, hS, hA⟩ := hrel
        obtain ⟨f, rfl⟩ : ∃ m, f = m + 1 := ⟨f - 1, by omega⟩
        have HA := Lib.hid hA
        have HS := Lib.hid hS
        have HU := Lib.hid hu
        clear hA hS HIN
        cases L' with
        | nil =>
          have HE := Lib.hid (fun w' => part_no (B := B) (o := setS (L.length + 1) L) (w := w) (w' := w') (by rw [HS.out]; rfl))
          obtain ⟨a, cap, rfl⟩ := hu.nil
          obtain ⟨r0, r1, r2, q0, q1, q2⟩ := HA.out.r.facts
          clear hu
          go_wp2
          (try simp only [Exit.inBlock, Exit.then])
          refine bodyPost_ret (by simp [results, Try.results41, go_sem, r0, r1, r2]; try rfl) rfl ?_
          exact HE.out _ (below3 HA.out.below _ _ _)
        | cons s T =>
          obtain ⟨g, off, cap, ad, rfl, hcap, c0, c1, hg, hif, hS2⟩ := hu.cons
          have HS2 := Lib.hid hS2
          have n0 : (0 : Int) < ((T.length : Nat) : Int) + 1 := by omega
          have n1 : (((T.length : Nat) : Int) + 1 == 0) = false := by simp; omega
          have n2 : (1 : Int) ≤ ((T.length : Nat) : Int) + 1 := by omega
          have hBw := Nat.le_trans hB HA.out.below.size
          have HB93 := Lib.hid (HBB.out s)
          clear hu hS2 HBA HBB
          by_cases h93 : bare s 93 = true
          · rw [h93] at HB93
            by_cases hsp : sp = []
            · have HE := Lib.hid (fun w' => part_no (B := B) (o := setS (L.length + 1) L) (w := w) (w' := w') (by rw [HS.out, setFS_end h93, if_pos hsp]; rfl))
              go_wp2_with fail
              go_at_call 40
              with_reducible refine (HB93.out _).mono ?_
              rintro e w2 ⟨rfl, hb⟩
              have HA2 := Lib.hid (HA.out.far hb)
              obtain ⟨r0, r1, r2, q0, q1, q2⟩ := HA2.out.r.facts
              obtain ⟨x0, x1, x2, y0, y1, y2⟩ := HA2.out.x.facts
              obtain ⟨p, rfl⟩ := owns_slice HA2.out.m
              have l0 : (((sp.length : Nat) : Int) == 0) = true := by subst hsp; rfl
              clear hb h93 hsp c0 c1 HS HS2 HU
              go_wp2
              (try simp only [Exit.inBlock, Exit.then])
              refine bodyPost_ret (by simp [results, Try.results41, go_sem, r0, r1, r2]; try rfl) rfl ?_
              exact HE.out _ (below3 HA2.out.below _ _ _)
            · have HE := Lib.hid (fun w' x u => part_is (B := B) (o := setS (L.length + 1) L) (w := w) (w' := w') (x := x) (u := u) (it := ⟨3, hat L, sp⟩) (T := T) (by rw [HS.out, setFS_end h93, if_neg hsp]; rfl))
              have l0 : (((sp.length : Nat) : Int) == 0) = false := by
                have : 0 < sp.length := List.length_pos_iff.2 hsp
                simp; omega
              go_wp2_with fail
              go_at_call 40
              with_reducible refine (HB93.out _).mono ?_
              rintro e w2 ⟨rfl, hb⟩
              have HA2 := Lib.hid (HA.out.far hb)
              have HT2 := Lib.hid (HS2.out _ (hb.mono hBw))
              obtain ⟨r0, r1, r2, q0, q1, q2⟩ := HA2.out.r.facts
              obtain ⟨x0, x1, x2, y0, y1, y2⟩ := HA2.out.x.facts
              obtain ⟨p, rfl⟩ := owns_slice HA2.out.m
              clear hb h93 hsp c0 c1 HS HS2 HU
              go_wp2
              go_region
              all_goals go_wp2
              all_goals
                (try simp only [Exit.inBlock, Exit.then])
                refine bodyPost_ret (by simp [results, Try.results41, go_sem, r0, r1, r2]; try rfl) rfl ?_
                refine PartSays.drew (HE.out _ _ _ (below3 HA2.out.below _ _ _) (HT2.out.below ((below3k (Below.refl w.heap.size _) _ _ _).mono hB)) ⟨_, by simp [starOf, notOf], owns_base (owns3 (owns_base HA2.out.m (Nat.le_succ _)) _ _ _) (Nat.zero_le _), fun h => by cases h⟩)
          · have h93' : bare s 93 = false := by simpa using h93
            rw [h93'] at HB93
            have HI := Lib.hid (fun w hB v (h : Sgn B w v (s :: T)) => item_any B (s :: T) v (by simp at hsl ⊢; omega) w hB h)
            cases hsq : spanS (s :: T) with
            | none =>
              have HE := Lib.hid (fun w' => part_no (B := B) (o := setS (L.length + 1) L) (w := w) (w' := w') (by rw [HS.out, setFS_no h93' hsq]; rfl))
              go_wp2_with fail
              go_at_call 40
              with_reducible refine (HB93.out _).mono ?_
              rintro e w2 ⟨rfl, hb⟩
              have HA2 := Lib.hid (HA.out.far hb)
              have HU2 := Lib.hid (HU.out.below (hb.mono hBw))
              have hB2 := Nat.le_trans hBw hb.size
              clear hb h93 h93' c0 c1 HS HS2 HU HA
              go_wp2_with fail
              go_at_call 50
              with_reducible refine (HI.out _ hB2 _ HU2.out).mono ?_
              rintro e w3 ⟨hb, hm⟩
              rw [hsq] at hm
              subst hm
              have HA3 := Lib.hid (HA2.out.far hb)
              obtain ⟨r0, r1, r2, q0, q1, q2⟩ := HA3.out.r.facts
              have hz : w.heap.size + 1 < w3.heap.size := (Array.getElem?_eq_some_iff.1 HA3.out.x).1
              have HA4 := Lib.hid (HA3.out.far (bel_alloc w3 (Obj.cells #[.int .i32 0, .int .i32 0] 77)))
              obtain ⟨r0, r1, r2, q0, q1, q2⟩ := HA4.out.r.facts
              have m0 : w.heap.size ≠ w3.heap.size := by omega
              clear hb hsq HA2 HU2 HI
              go_wp2
              (try simp only [Exit.inBlock, Exit.then])
              refine bodyPost_ret (by simp [results, Try.results41, go_sem, r0, r1, r2]; try rfl) rfl ?_
              exact HE.out _ (below3 HA4.out.below _ _ _)
            | some y =>
              obtain ⟨x, U⟩ := y
              have hU := spanS_less hsq
              have HSF := Lib.hid (show setS (L.length + 1) L = _ by rw [HS.out, setFS_go h93' hsq])
              go_wp2_with fail
              go_at_call 40
              with_reducible refine (HB93.out _).mono ?_
              rintro e w2 ⟨rfl, hb⟩
              have HA2 := Lib.hid (HA.out.far hb)
              have HU2 := Lib.hid (HU.out.below (hb.mono hBw))
              have hB2 := Nat.le_trans hBw hb.size
              clear hb h93 h93' c0 c1 HS HS2 HU HA
              go_wp2_with fail
              go_at_call 50
              with_reducible refine (HI.out _ hB2 _ HU2.out).mono ?_
              rintro e w3 ⟨hb, hm⟩
              rw [hsq] at hm
              obtain ⟨u, rfl, hu⟩ := hm
              have HA3 := Lib.hid (HA2.out.far hb)
              have HU3 := Lib.hid hu
              obtain ⟨p, rfl⟩ := owns_slice HA3.out.m
              obtain ⟨x0, x1, x2, y0, y1, y2⟩ := HA3.out.x.facts
              have hz : w.heap.size + 1 < w3.heap.size := (Array.getElem?_eq_some_iff.1 HA3.out.x).1
              have m1 : w.heap.size + 1 ≠ w3.heap.size := by omega
              have HA5 := Lib.hid ((HA3.out.far (bel_alloc w3 (Obj.cells #[.int .i32 (x.1 : Int), .int .i32 (x.2 : Int)] 77))).far (bel_alloc _ (Obj.cells #[.int .i32 (x.1 : Int), .int .i32 (x.2 : Int)] 77)))
              have b1 : (sp.length + 1) * 8 ≤ 140737488355328 := by simp at hsl; omega
              have b2 : sp.length + 1 ≤ maxLen := by simp [maxLen] at hsl ⊢; omega
              clear hb hsq HA2 HU2 HI hu
              go_wp2_with (at_builtin; (refine appendN rfl _ _ 63 rfl (w.heap.size + 2) 77 (.agg #[.int .i32 0, .int .i32 0]) 2 8 Try.underlying63 infoSpan rfl (by omega) (.slice p.1 sp.length p.2) sp.length (flat sp) rfl HA5.out.m (w3.heap.size + 1) [.int .i32 (x.1 : Int), .int .i32 (x.2 : Int)] rfl rfl ?c1 ?c2 b1 b2 ?c3 ?_); (case c1 => exact new_cells _ _ _ _); (case c2 => exact new_ones _ _); (case c3 => (simp only [size_alloc]; omega)); intro g2 cap2 w4 hown2 hgr hat2; have HX4 := Lib.hid (HA5.out.app hgr (by simp only [size_alloc]; omega) hown2); have HU4 := Lib.hid (HU3.out.below (set_bel hgr HA5.out.m hz (Nat.le_trans hB (Nat.le_add_right _ 2)) (by omega))); have hzz := HX4.out.x.facts; (have z2 := hzz.2.2.1); (have t2 := hzz.2.2.2.2.2); clear hzz)
              go_roundw
              case rel => exact ⟨U, sp ++ [x], f, _, HU4.out.below ((Below.refl _ _).setCell (by show B ≤ w.heap.size + 1; omega) _), by simp at hU hf; omega, by simp at hU hsl ⊢; omega, HSF.out, HX4.out.done⟩
              case measure => rw [HU3.out.len]; simp [lenOf]; simp at hU; omega
end Go.Proofs.Ytfponjonbhnmlaa.Glob
