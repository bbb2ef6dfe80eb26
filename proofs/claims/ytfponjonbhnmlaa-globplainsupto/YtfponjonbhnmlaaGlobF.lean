/-
  What package glob reads as a pattern's parts; whether a text is a pattern.
-/
import Derived.Test.YtfponjonbhnmlaaGlobD
import Derived.Test.YtfponjonbhnmlaaGlobE
namespace Go.Proofs.Ytfponjonbhnmlaa.Glob
open Go.RowKit
open RuneM RefRune Own RefKeys GlobM Keys

/-- parts, each with its spans' slice, as cells -/
def flatP (ps : List (It × Value)) : List Value := ps.flatMap fun x => [.bool (starOf x.1), .bool (notOf x.1), x.2]
theorem flatP_snoc (ps : List (It × Value)) (x : It × Value) : flatP (ps ++ [x]) = flatP ps ++ [.bool (starOf x.1), .bool (notOf x.1), x.2] := by simp [flatP]
theorem flatP_at : ∀ (ps : List (It × Value)) (k : Nat) (x : It × Value), ps[k]? = some x → (flatP ps)[3 * k]? = some (.bool (starOf x.1)) ∧ (flatP ps)[3 * k + 1]? = some (.bool (notOf x.1)) ∧ (flatP ps)[3 * k + 2]? = some x.2
  | [], k, x, h => by simp at h
  | y :: ps, 0, x, h => by simp at h; subst h; exact ⟨rfl, rfl, rfl⟩
  | y :: ps, k + 1, x, h => by
    have h1 := flatP_at ps k x (by simpa using h)
    rw [show 3 * (k + 1) = 3 * k + 1 + 1 + 1 by omega]
    exact h1
/-- v is a row of parts -/
structure PartsM (w : World) (base : Nat) (v : Value) (ps : List (It × Value)) : Prop where
  row : w.ownsRow base 65 3 v ps.length (flatP ps)
  sp : ∀ x ∈ ps, SpansM w 0 x.2 x.1.sp ∧ (x.1.kind = 2 → x.1.sp = [])
theorem PartsM.nil (w : World) (base : Nat) : PartsM w base (.slice none 0 0) [] := ⟨⟨rfl, .inl ⟨rfl, rfl⟩⟩, fun _ h => by cases h⟩
theorem PartsM.below {w w' : World} {base : Nat} {v : Value} {ps : List (It × Value)} (h : PartsM w base v ps) (hb : Below w.heap.size w w') : PartsM w' base v ps :=
  ⟨owns_below h.row hb, fun x hx => ⟨owns_below (h.sp x hx).1 hb, (h.sp x hx).2⟩⟩
/-- rows of different kinds lie in different blocks -/
theorem rows_apart {w : World} {b1 b2 : Nat} {e1 e2 : TypeId} {s1 s2 : Nat} {v1 v2 : Value} {n1 n2 : Nat} {l1 l2 : List Value} (h1 : w.ownsRow b1 e1 s1 v1 n1 l1) (h2 : w.ownsRow b2 e2 s2 v2 n2 l2) (hne : e1 ≠ e2) : v1.ownBlock = none ∨ v1.ownBlock ≠ v2.ownBlock := by
  rcases h1.2 with ⟨rfl, _⟩ | ⟨g, cap, cur, rfl, _, hg, _⟩
  · exact .inl rfl
  · right
    rcases h2.2 with ⟨rfl, _⟩ | ⟨g2, cap2, cur2, rfl, _, hg2, _⟩
    · simp [Value.ownBlock]
    · simp only [Value.ownBlock, ne_eq, Option.some.injEq]
      intro e; subst e
      rw [hg] at hg2
      simp at hg2
      exact hne hg2.2
theorem PartsM.kept {w w' : World} {base : Nat} {v : Value} {ps : List (It × Value)} (h : PartsM w base v ps) {k : Nat} (hsp : ∀ x ∈ ps, x.2.ownBlock ≠ some k) (hk : v.ownBlock ≠ some k) (hg : w.grownBy w' (some k)) : PartsM w' base v ps :=
  ⟨World.ownsRow.kept h.row hg (.inr hk), fun x hx => ⟨World.ownsRow.kept (h.sp x hx).1 hg (.inr (hsp x hx)), (h.sp x hx).2⟩⟩
theorem PartsM.store {w : World} {base : Nat} {v : Value} {ps : List (It × Value)} (h : PartsM w base v ps) {k : Nat} {a1 a2 a3 : Value} (ht : Three w k 65 a1 a2 a3) (hk : v.ownBlock ≠ some k) (x y z : Value) : PartsM (((w.setCell ⟨k, 0, none⟩ x).setCell ⟨k, 1, none⟩ y).setCell ⟨k, 2, none⟩ z) base v ps := by
  have hs : ∀ x ∈ ps, x.2.ownBlock ≠ some k := fun x hx => spans_apart (h.sp x hx).1 ht
  exact ((h.kept hs hk (grown_set _ _ _)).kept hs hk (grown_set _ _ _)).kept hs hk (grown_set _ _ _)
theorem PartsM.app {w w' : World} {base : Nat} {v v' : Value} {ps : List (It × Value)} (h : PartsM w base v ps) {it : It} {spv : Value} (hs : SpansM w 0 spv it.sp) (hk : it.kind = 2 → it.sp = []) (hg : w.grownBy w' v.ownBlock)
    (ho : w'.ownsRow base 65 3 v' (ps.length + 1) (flatP ps ++ [.bool (starOf it), .bool (notOf it), spv])) : PartsM w' base v' (ps ++ [(it, spv)]) := by
  refine ⟨by rw [flatP_snoc, List.length_append]; exact ho, fun x hx => ?_⟩
  rcases List.mem_append.1 hx with hx | hx
  · exact ⟨World.ownsRow.kept (h.sp x hx).1 hg (rows_apart (h.sp x hx).1 h.row (by decide)), (h.sp x hx).2⟩
  · rcases List.mem_singleton.1 hx with rfl
    exact ⟨World.ownsRow.kept hs hg (rows_apart hs h.row (by decide)), hk⟩
theorem Three.store {w : World} {k : Nat} {t : TypeId} {a b c : Value} (h : Three w k t a b c) (x y z : Value) : Three (((w.setCell ⟨k, 0, none⟩ x).setCell ⟨k, 1, none⟩ y).setCell ⟨k, 2, none⟩ z) k t x y z := by
  unfold Three at h ⊢
  simp only [World.setCell]
  rw [Array.getElem?_modify, if_pos rfl, Array.getElem?_modify, if_pos rfl, Array.getElem?_modify, if_pos rfl, h]; rfl
theorem set3_size (w : World) (a b c : Addr) (x y z : Value) : (((w.setCell a x).setCell b y).setCell c z).heap.size = w.heap.size := by simp [World.setCell]
/-- what parts answers -/
def PartsSays (p : ByteArray) (w : World) (e : Ending) (w' : World) : Prop :=
  Below w.heap.size w w' ∧ match itemsL (nums p) with
  | none => e = .returned (.tuple #[.slice none 0 0, .bool false])
  | some its => ∃ v ps, e = .returned (.tuple #[v, .bool true]) ∧ PartsM w' w.heap.size v ps ∧ ps.map (·.1) = its
theorem parts_no {p : ByteArray} {w w' : World} (h : itemsL (nums p) = none) (hb : Below w.heap.size w w') : PartsSays p w (.returned (.tuple #[.slice none 0 0, .bool false])) w' := by
  refine ⟨hb, ?_⟩; rw [h]
theorem parts_is {p : ByteArray} {w w' : World} {v : Value} {ps : List (It × Value)} (h : itemsL (nums p) = some (ps.map (·.1))) (hb : Below w.heap.size w w') (hP : PartsM w' w.heap.size v ps) : PartsSays p w (.returned (.tuple #[v, .bool true])) w' := by
  refine ⟨hb, ?_⟩; rw [h]; exact ⟨v, ps, rfl, hP, rfl⟩
theorem itemsFS_end {f : Nat} : itemsFS (f + 1) [] = some [] := rfl
theorem itemsFS_no {f : Nat} {s : Sg} {t : List Sg} (h : itemS (t.length + 2) (s :: t) = none) : itemsFS (f + 1) (s :: t) = none := by simp [itemsFS, h]
theorem itemsFS_go {f : Nat} {s : Sg} {t : List Sg} {x : It} {u : List Sg} (h : itemS (t.length + 2) (s :: t) = some (x, u)) : itemsFS (f + 1) (s :: t) = (itemsFS f u).map (x :: ·) := by simp [itemsFS, h]
/-- where parts stands in its loop; w1: the world behind signs -/
def PartsIn (p : ByteArray) (w w1 : World) (n : Nat) (x4 x5 x6 : Value) (wr : World) : Prop :=
  ∃ L' ps f, Sgn w1.heap.size wr x4 L' ∧ x5 = .bool true ∧ PartsM wr w1.heap.size x6 ps ∧ L'.length < f ∧ ps.length + L'.length ≤ n ∧ itemsL (nums p) = (itemsFS f L').map (ps.map (·.1) ++ ·) ∧ Below w1.heap.size w1 wr
theorem owns_base' {w : World} {base b : Nat} {v : Value} {ps : List (It × Value)} (h : PartsM w base v ps) (hb : b ≤ base) : PartsM w b v ps := ⟨owns_base h.row hb, h.sp⟩
theorem new_part (w : World) (a b c : Value) : ∀ j u, [a, b, c][j]? = some u → (w.alloc (.cells #[a, b, c] 65)).cell? ⟨w.heap.size, j, none⟩ = some u := by
  intro j u hj
  have h := heap_new w (.cells #[a, b, c] 65)
  match j, hj with
  | 0, hj => simp at hj; subst hj; unfold World.cell?; rw [h]; rfl
  | 1, hj => simp at hj; subst hj; unfold World.cell?; rw [h]; rfl
  | 2, hj => simp at hj; subst hj; unfold World.cell?; rw [h]; rfl
  | j + 3, hj => simp at hj
theorem part_ones (a b : Bool) (c : Value) (hc : c.oneCell' = true) : ∀ u ∈ [Value.bool a, .bool b, c], u.oneCell' = true := by
  intro u hu; simp at hu; rcases hu with rfl | rfl | rfl
  · rfl
  · rfl
  · exact hc
set_option maxRecDepth 100000 in
set_option maxHeartbeats 4000000 in
theorem parts_any (p : ByteArray) (hp : p.size ≤ lim) (w : World) : Calls Try.prog 20 #[.string p] w (PartsSays p w) := by
  have HSG := Lib.hid (signs_any p hp w)
  by_cases h24 : 24 < (nums p).length
  · have HE := Lib.hid (fun w' => parts_no (p := p) (w := w) (w' := w') (itemsL_long _ h24))
    go_enter Try.func20, Try.ntmps20
    go_wp2_with fail
    go_at_call 32
    with_reducible refine HSG.out.mono ?_
    rintro e w1 ⟨hb, hm, _⟩
    cases hm h24
    have HB := Lib.hid hb
    clear hb hm h24
    go_wp2
    go_ret2
    exact HE.out _ HB.out
  · have HL := Lib.hid (itemsL_signs (nums p) h24)
    have hdl := sgDone_len (nums p)
    cases hs : signsL (nums p) with
    | none =>
      have HE := Lib.hid (fun w' => parts_no (p := p) (w := w) (w' := w') (by rw [HL.out, hs]; rfl))
      have HD := Lib.hid (sgDone_none hs)
      go_enter Try.func20, Try.ntmps20
      go_wp2_with fail
      go_at_call 32
      with_reducible refine HSG.out.mono ?_
      rintro e w1 ⟨hb, _, hm⟩
      obtain ⟨v, rfl, hv⟩ := hm h24
      rw [HD.out]
      have HB := Lib.hid hb
      obtain ⟨pv, rfl⟩ := owns_slice hv
      clear hb h24 hv hs hdl
      go_wp2
      go_ret2
      exact HE.out _ HB.out
    | some L =>
      have HL2 := Lib.hid (show itemsL (nums p) = itemsFS (L.length + 1) L by rw [HL.out, hs]; rfl)
      have HD := Lib.hid (sgDone_some hs)
      have hLn : L.length ≤ 24 := by rw [HD.out] at hdl; simp only at hdl; omega
      go_enter Try.func20, Try.ntmps20
      go_wp2_with fail
      go_at_call 32
      with_reducible refine HSG.out.mono ?_
      rintro e w1 ⟨hb, _, hm⟩
      obtain ⟨v, rfl, hv⟩ := hm h24
      rw [HD.out] at hv
      rw [HD.out]
      simp only at hv
      have HB := Lib.hid hb
      have HV := Lib.hid hv.sgn
      obtain ⟨pv, rfl⟩ := owns_slice hv
      clear hb h24 hv hs hdl HL HD HSG
      go_wp2
      go_loopw [4, 5, 6] (fun x4 x5 x6 wr => PartsIn p w w1 L.length x4 x5 x6 wr) (fun x4 _ _ _ => lenOf x4)
      case atStart => exact ⟨L, [], L.length + 1, HV.out, rfl, PartsM.nil _ _, by omega, by simp, by rw [HL2.out]; simp, Below.refl _ _⟩
      case round =>
        obtain ⟨L', ps, f, hS, rfl, hP, hf, hn, hQ, hbel⟩ := hrel
        obtain ⟨f, rfl⟩ : ∃ m, f = m + 1 := ⟨f - 1, by omega⟩
        have HP := Lib.hid hP
        have HQ := Lib.hid hQ
        have HBL := Lib.hid hbel
        have HS := Lib.hid hS
        clear hP hQ hbel HV HL2
        cases L' with
        | nil =>
          have HE := Lib.hid (fun w' v => parts_is (p := p) (w := w) (w' := w') (v := v) (ps := ps) (by rw [HQ.out, itemsFS_end]; simp))
          obtain ⟨a, cap, rfl⟩ := hS.nil
          obtain ⟨pv, rfl⟩ := owns_slice HP.out.row
          clear hS
          go_wp2
          go_ret2
          exact HE.out _ _ (HB.out.trans (HBL.out.mono HB.out.size)) (owns_base' HP.out HB.out.size)
        | cons s T =>
          obtain ⟨g, off, cap, ad, rfl, hcap, c0, c1, hg, hif, hS2⟩ := hS.cons
          have n0 : (0 : Int) < ((T.length : Nat) : Int) + 1 := by omega
          have hsz := HBL.out.size
          have HF := Lib.hid (fun w hB v (h : Sgn w1.heap.size w v (s :: T)) => first_any w1.heap.size s T v (by simp at hn; omega) w hB h)
          have HT : Hid (Three (wr.alloc (Obj.cells #[Value.bool false, Value.bool false, Value.slice none 0 0] 65)) wr.heap.size 65 (.bool false) (.bool false) (.slice none 0 0)) := heap_new wr _
          have HA := Lib.hid (bel_alloc wr (Obj.cells #[Value.bool false, Value.bool false, Value.slice none 0 0] 65))
          have hlw : wr.heap.size < (wr.alloc (Obj.cells #[Value.bool false, Value.bool false, Value.slice none 0 0] 65)).heap.size := by rw [size_alloc]; omega
          clear hS c0 c1 hif hS2
          go_wp2_with fail
          go_at_call 33
          with_reducible refine (HF.out _ (by omega) _ (HS.out.below (HA.out.mono hsz))).mono ?_
          rintro e w3 ⟨hb, hm⟩
          have HT3 := Lib.hid (HT.out.below hb hlw)
          have HP3 := Lib.hid ((HP.out.below HA.out).below hb)
          have HB3 := Lib.hid (HBL.out.trans ((HA.out.trans (hb.mono (Nat.le_of_lt hlw))).mono hsz))
          obtain ⟨t0, t1, t2, t3, t4, t5⟩ := HT3.out.facts
          clear hb HF HA HT
          cases hq : itemS (T.length + 2) (s :: T) with
          | none =>
            rw [hq] at hm
            subst hm
            have HE := Lib.hid (fun w' => parts_no (p := p) (w := w) (w' := w') (by rw [HQ.out, itemsFS_no hq]; rfl))
            clear hq
            go_wp2
            go_ret2
            exact HE.out _ (HB.out.trans ((((HB3.out.setCell hsz _).setCell hsz _).setCell hsz _).mono HB.out.size))
          | some y =>
            obtain ⟨it, U⟩ := y
            have hU := itemS_less hq
            rw [hq] at hm
            obtain ⟨x, u, rfl, hu, spv, rfl, hsp, hk⟩ := hm
            have HQ2 := Lib.hid (show itemsL (nums p) = _ by rw [HQ.out, itemsFS_go hq])
            have HSP := Lib.hid hsp
            have HU := Lib.hid hu
            have HK := Lib.hid hk
            have hvk : Hid (u6.ownBlock ≠ some wr.heap.size) := fun e => by have := (owns_lt HP.out.row _ e).1; omega
            have HX6 := Lib.hid (owns_slice HP.out.row)
            obtain ⟨qv, rfl⟩ := HX6.out
            obtain ⟨pv, rfl⟩ := owns_slice hsp
            obtain ⟨b1, hb1⟩ : ∃ b1, b1 = starOf it := ⟨_, rfl⟩
            obtain ⟨b2, hb2⟩ : ∃ b2, b2 = notOf it := ⟨_, rfl⟩
            rw [← hb1, ← hb2]
            have HB1 := Lib.hid hb1
            have HB2 := Lib.hid hb2
            have HT4 := Lib.hid (HT3.out.store (.bool b1) (.bool b2) (.slice pv.1 it.sp.length pv.2))
            have HP4 := Lib.hid (HP3.out.store HT3.out hvk.out (.bool b1) (.bool b2) (.slice pv.1 it.sp.length pv.2))
            have HS4 := Lib.hid (spans3 HSP.out HT3.out (.bool b1) (.bool b2) (.slice pv.1 it.sp.length pv.2))
            have HB4 := Lib.hid (((HB3.out.setCell hsz (.bool b1) (p := ⟨wr.heap.size, 0, none⟩)).setCell hsz (.bool b2) (p := ⟨wr.heap.size, 1, none⟩)).setCell hsz (.slice pv.1 it.sp.length pv.2) (p := ⟨wr.heap.size, 2, none⟩))
            have HU4 := Lib.hid (HU.out.below ((((Below.refl w1.heap.size w3).setCell hsz (.bool b1) (p := ⟨wr.heap.size, 0, none⟩)).setCell hsz (.bool b2) (p := ⟨wr.heap.size, 1, none⟩)).setCell hsz (.slice pv.1 it.sp.length pv.2) (p := ⟨wr.heap.size, 2, none⟩)))
            have z1 : (ps.length + 1) * 32 ≤ 140737488355328 := by simp at hn; omega
            have z2 : ps.length + 1 ≤ maxLen := by simp [maxLen] at hn ⊢; omega
            have hsz4 : w1.heap.size ≤ w3.heap.size := HB3.out.size
            obtain ⟨k0, k1, k2, k3, k4, k5⟩ := HT4.out.facts
            clear hq hu hsp hk hb1 hb2 HX6
            have HC : Hid (∀ j u, [Value.bool b1, .bool b2, .slice pv.1 it.sp.length pv.2][j]? = some u → ((((w3.setCell ⟨wr.heap.size, 0, none⟩ (.bool b1)).setCell ⟨wr.heap.size, 1, none⟩ (.bool b2)).setCell ⟨wr.heap.size, 2, none⟩ (.slice pv.1 it.sp.length pv.2)).alloc (.cells #[.bool b1, .bool b2, .slice pv.1 it.sp.length pv.2] 65)).cell? ⟨w3.heap.size, j, none⟩ = some u) := by
              have h := new_part (((w3.setCell ⟨wr.heap.size, 0, none⟩ (.bool b1)).setCell ⟨wr.heap.size, 1, none⟩ (.bool b2)).setCell ⟨wr.heap.size, 2, none⟩ (.slice pv.1 it.sp.length pv.2)) (.bool b1) (.bool b2) (.slice pv.1 it.sp.length pv.2)
              rw [set3_size] at h
              exact h
            have hsz5 : w1.heap.size ≤ ((((w3.setCell ⟨wr.heap.size, 0, none⟩ (.bool b1)).setCell ⟨wr.heap.size, 1, none⟩ (.bool b2)).setCell ⟨wr.heap.size, 2, none⟩ (.slice pv.1 it.sp.length pv.2)).alloc (.cells #[.bool b1, .bool b2, .slice pv.1 it.sp.length pv.2] 65)).heap.size := by rw [size_alloc, set3_size]; omega
            go_wp2_with (at_builtin; (refine appendN rfl _ _ 33 rfl w1.heap.size 65 (.agg #[.bool false, .bool false, .slice none 0 0]) 3 32 Try.underlying33 infoPart rfl (by omega) (.slice qv.1 ps.length qv.2) ps.length (flatP ps) rfl (owns_below HP4.out.row (bel_alloc _ _)) w3.heap.size [.bool b1, .bool b2, .slice pv.1 it.sp.length pv.2] rfl rfl ?c1 ?c2 z1 z2 ?c3 ?_); (case c1 => exact HC.out); (case c2 => exact part_ones _ _ _ rfl); (case c3 => exact hsz5); intro g2 cap2 w4 hown2 hgr hat2; have HX4 := Lib.hid ((HP4.out.below (bel_alloc _ _)).app (owns_below HS4.out (bel_alloc _ _)) HK.out hgr (by rw [← HB1.out, ← HB2.out]; exact hown2)); have HB5 := Lib.hid ((HB4.out.trans ((bel_alloc _ _).mono HB4.out.size)).grown hgr hsz5 (fun k hk => (owns_lt HP4.out.row k hk).2)); have HU5 := Lib.hid ((HU4.out.below ((bel_alloc _ _).mono HB4.out.size)).below ((Below.refl _ _).grown hgr hsz5 (fun k hk => (owns_lt HP4.out.row k hk).2))))
            go_roundw
            case rel => exact ⟨U, _, f, HU5.out, rfl, HX4.out, by simp at hU hf; omega, by simp at hU hn ⊢; omega, by rw [HQ2.out]; simp [Function.comp_def], HB5.out⟩
            case measure => rw [HU.out.len]; simp [lenOf]; simp at hU; omega
end Go.Proofs.Ytfponjonbhnmlaa.Glob
