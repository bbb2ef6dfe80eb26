/-
  What the document's own reading of a pattern answers.
-/
import Derived.Test.YtfponjonbhnmlaaRefParts
import Derived.Test.YtfponjonbhnmlaaRefSetB
import Derived.Test.YtfponjonbhnmlaaRegion3
namespace Go.Proofs.Ytfponjonbhnmlaa.RefGlob
open Go.RowKit
open RuneM RefRune Own RefKeys GlobM
open Go.Proofs.Ytfponjonbhnmlaa.Region

/-- what parts answers -/
def PartsSays (p : ByteArray) (w : World) (e : Ending) (w' : World) : Prop :=
  Below w.heap.size w w' ∧ match itemsL (nums p) with
  | none => e = .returned (.tuple #[.slice none 0 0, .bool false])
  | some its => ∃ v, e = .returned (.tuple #[v, .bool true]) ∧ ItemsM w' w.heap.size v its
theorem ItemsM.base {w : World} {b b' : Nat} {v : Value} {its : List It} (h : ItemsM w b v its) (hb : b' ≤ b) : ItemsM w b' v its := by
  obtain ⟨xs, h1, h2⟩ := h
  refine ⟨xs, ⟨h1.1, ?_⟩, h2⟩
  rcases h1.2 with hn | ⟨g, cap, cur, e, hg, r⟩
  · exact .inl hn
  · exact .inr ⟨g, cap, cur, e, Nat.le_trans hb hg, r⟩
/-- where parts stands in its loop -/
def PartsIn (r : List Nat) (w1 : World) (x6 x7 : Value) (wr : World) : Prop :=
  ∃ k its f, x7 = .int .i64 ((k : Nat) : Int) ∧ k ≤ r.length ∧ (r.drop k).length < f ∧ itemsL r = (itemsF f (r.drop k)).map (its ++ ·) ∧ its.length ≤ k ∧ ItemsM wr w1.heap.size x6 its ∧ Below w1.heap.size w1 wr
theorem items_step {r : List Nat} {k n f : Nat} {its : List It} {it : It} (hS : itemsL r = (itemsF (f + 1) (r.drop k)).map (its ++ ·)) (hk : k < r.length) (hi : itemL (r.drop k) = some (it, r.drop n)) : itemsL r = (itemsF f (r.drop n)).map ((its ++ [it]) ++ ·) := by
  rw [hS]
  simp only [itemsF]
  rw [if_neg (by rw [List.drop_eq_getElem_cons hk]; exact List.cons_ne_nil _ _), hi]
  simp only [Option.map_map]
  congr 1
  funext x
  simp
theorem items_stop {r : List Nat} {k f : Nat} {its : List It} (hS : itemsL r = (itemsF (f + 1) (r.drop k)).map (its ++ ·)) (hk : k < r.length) (hi : itemL (r.drop k) = none) : itemsL r = none := by
  rw [hS]
  simp only [itemsF]
  rw [if_neg (by rw [List.drop_eq_getElem_cons hk]; exact List.cons_ne_nil _ _), hi]; rfl
theorem items_end {r : List Nat} {k f : Nat} {its : List It} (hS : itemsL r = (itemsF (f + 1) (r.drop k)).map (its ++ ·)) (hk : ¬ k < r.length) : itemsL r = some its := by
  rw [hS, List.drop_of_length_le (by omega)]
  simp [itemsF]
theorem item_of {r : List Nat} {k : Nat} (hk : k < r.length) : itemL (r.drop k) = if r[k] = 42 then some (star, r.drop (k + 1)) else if r[k] = 63 then some (any, r.drop (k + 1)) else if r[k] = 92 then (match r.drop (k + 1) with
    | [] => none
    | d :: u => some (one d, u)) else if r[k] = 91 then setL (r.drop (k + 1)) else some (one r[k], r.drop (k + 1)) := by
  rw [List.drop_eq_getElem_cons hk]; rfl
theorem setF_drop : ∀ f sp l sp' t, setF f sp l = some (sp', t) → ∃ n, t = l.drop n := by
  intro f
  induction f with
  | zero => intro sp l sp' t h; simp [setF] at h
  | succ f ih =>
    intro sp l sp' t h
    simp only [setF] at h
    split at h
    · split at h
      · cases h
      · cases h; exact ⟨1, by simp⟩
    · cases hs : spanL l with
      | none => simp [hs] at h
      | some y =>
        obtain ⟨x, u⟩ := y
        simp only [hs] at h
        obtain ⟨n, rfl⟩ := ih _ _ _ _ h
        obtain ⟨m, rfl⟩ : ∃ m, u = l.drop m := by
          unfold spanL at hs
          cases he : endL l with
          | none => simp [he] at hs
          | some z =>
            obtain ⟨a, v⟩ := z
            have hv := endL_at (l := l) (k := 0) (by simpa using he)
            simp only [he] at hs
            split at hs
            · cases hf : endL v.tail with
              | none => simp [hf] at hs
              | some z2 =>
                obtain ⟨b, v2⟩ := z2
                have hv2 := endL_at (l := v.tail) (k := 0) (by simpa using hf)
                simp only [hf] at hs
                split at hs
                · cases hs
                · cases hs
                  refine ⟨l.length - v.length + 1 + (v.tail.length - u.length), ?_⟩
                  rw [← List.drop_drop, ← List.drop_drop, ← hv.1]
                  simpa using hv2.1
            · cases hs; exact ⟨_, hv.1⟩
        exact ⟨m + n, by rw [List.drop_drop]⟩
theorem setL_drop {r : List Nat} {k : Nat} {it : It} {t : List Nat} (h : setL (r.drop k) = some (it, t)) : t = r.drop (r.length - t.length) := by
  have hl := setL_less h
  unfold setL at h
  simp only [Option.map_eq_some_iff] at h
  obtain ⟨y, hy, e⟩ := h
  obtain ⟨sp, u⟩ := y
  cases e
  obtain ⟨n, hn⟩ := setF_drop _ _ _ _ _ hy
  have : ∃ m, u = r.drop m := by
    rw [hn]
    split
    · exact ⟨k + 1 + n, by rw [List.tail_drop, List.drop_drop]⟩
    · exact ⟨k + n, by rw [List.drop_drop]⟩
  obtain ⟨m, rfl⟩ := this
  by_cases hm : m ≤ r.length
  · have : r.length - (r.drop m).length = m := by simp; omega
    rw [this]
  · rw [List.drop_of_length_le (by omega)]; simp
theorem rowed_alloc {w : World} {row : Option Nat} {o : Obj} (h : Rowed w row) : Rowed (w.alloc o) row := by
  intro k hk
  obtain ⟨cur, fr, e⟩ := h k hk
  exact ⟨cur, fr, by rw [Below.heap_alloc w o k (Array.getElem?_eq_some_iff.1 e).1]; exact e⟩
set_option maxRecDepth 100000 in
set_option maxHeartbeats 8000000 in
theorem parts_any (p : ByteArray) (hp : p.size ≤ 8796093022208) (w : World) : Calls Try.prog 21 #[.string p] w (PartsSays p w) := by
  have HRU := Lib.hid (runes_flat p hp w)
  rw [ns_nums, ← nums_length p] at HRU
  have HPS : Hid (∀ e w', Below w.heap.size w w' → (∀ its, itemsL (nums p) = some its → ∃ v, e = .returned (.tuple #[v, .bool true]) ∧ ItemsM w' w.heap.size v its) → (itemsL (nums p) = none → e = .returned (.tuple #[.slice none 0 0, .bool false])) → PartsSays p w e w') := by
    intro e w' h1 h2 h3
    refine ⟨h1, ?_⟩
    cases hq : itemsL (nums p) with
    | none => exact h3 hq
    | some its => exact h2 its hq
  go_enter Try.func21, Try.ntmps21
  go_wp2_with fail
  go_at_call 24
  with_reducible refine HRU.out.mono ?_
  rintro e w1 ⟨ra, rcap, rb, rd, rfl, hca, hcb, hbw⟩
  clear hcb HRU
  generalize nums p = r at HPS hca
  have HCA := Lib.hid hca
  have HBW := Lib.hid hbw
  clear hca hbw
  by_cases hlen : 24 < r.length
  · have q1 : (24 : Int) < (r.length : Int) := by omega
    have HN := Lib.hid (show itemsL r = none by unfold itemsL; rw [if_pos hlen])
    go_wp2
    go_ret2
    exact HPS.out _ _ HBW.out (fun its h => by rw [HN.out] at h; cases h) (fun _ => rfl)
  · have q1 : ¬ (24 : Int) < (r.length : Int) := by omega
    have HST := Lib.hid (show itemsL r = (itemsF (r.length + 1) (r.drop 0)).map ([] ++ ·) by unfold itemsL; rw [if_neg hlen]; simp)
    go_wp2
    go_loopw [6, 7] (fun x6 x7 wr => PartsIn r w1 x6 x7 wr) (fun _ x7 _ => r.length - (intOf x7).toNat)
    case atStart => exact ⟨0, [], r.length + 1, rfl, Nat.zero_le _, by simp, HST.out, Nat.le_refl _, ItemsM.nil _ _, Below.refl _ _⟩
    case round =>
      obtain ⟨k, its, f, rfl, hk, hf, hS, hil, hM, hB⟩ := hrel
      obtain ⟨f, rfl⟩ : ∃ m, f = m + 1 := ⟨f - 1, by omega⟩
      have HM := Lib.hid hM
      have hBel := Lib.hid hB
      have HS := Lib.hid hS
      have HF := Lib.hid hf
      have HROW := Lib.hid hM.rowed
      have HLT := Lib.hid hM.lt
      have hcr := Lib.hid (HCA.out.below hB)
      obtain ⟨xs, hown, hX⟩ := hM
      have b1 : (its.length + 1) * 64 ≤ 140737488355328 := by omega
      have b2 : its.length + 1 ≤ maxLen := by simp only [maxLen]; omega
      have hf2 : r.length - k < f + 1 := by simpa using hf
      clear hS hf hB
      by_cases hk1 : k < r.length
      · obtain ⟨g, rfl, e2⟩ := hcr.out.at (ns_at r k hk1)
        have l2 : (k : Int) < (r.length : Int) := by omega
        have HI := Lib.hid (item_of hk1)
        have HGL := Lib.hid (show g < w1.heap.size by
          obtain ⟨g', e0, e3⟩ := HCA.out.at (ns_at r k hk1)
          cases e0; exact block_lt_of_cell e3)
        by_cases h42 : r[k] = 42
        · have HSTEP := Lib.hid (items_step (n := k + 1) HS.out hk1 (by rw [HI.out, if_pos h42]))
          have HN := Lib.hid (show k + 1 ≤ r.length ∧ (r.drop (k + 1)).length < f by simp; omega)
          rw [h42] at e2
          go_wp2_with (at_builtin; (refine append4 rfl _ _ 36 rfl w1.heap.size 46 (.agg #[.int .i64 0, .bool false, .slice none 0 0, .slice none 0 0]) 64 Try.underlying36 infoItem rfl u6 its.length xs rfl (owns_below hown ((Below.refl _ _).alloc (Nat.le_refl _) _)) wr.heap.size (.int .i64 1) (.bool false) (.slice none 0 0) (.slice none 0 0) rfl ?q0 ?q1 ?q2 ?q3 ⟨rfl, rfl, rfl, rfl⟩ b1 b2 ?q4 ?_); (case q0 => simp); (case q1 => simp); (case q2 => simp); (case q3 => simp); (case q4 => (have := hBel.out.size; simp; omega)); intro g2 cap2 w3 hown2 hgr)
          have HM2 := Lib.hid (ItemsM.snoc (it := star) (ItemsX.kept (grown_alloc _ _) (rowed_none _) hX) (rowed_alloc HROW.out) ⟨_, _, rfl, Mine.nil _ _ _, Mine.nil _ _ _⟩ hgr hown2)
          have HB2 := Lib.hid ((hBel.out.alloc hBel.out.size _).grown hgr (by have := hBel.out.size; simp; omega) (fun k hk => (HLT.out k hk).2))
          go_wp2
          go_roundw
          case rel => exact ⟨_, _, f, by first | rfl | go_num, HN.out.1, HN.out.2, HSTEP.out, by simp; omega, HM2.out, HB2.out⟩
          case measure => simp [intOf]; omega
        · by_cases h63 : r[k] = 63
          · have HSTEP := Lib.hid (items_step (n := k + 1) HS.out hk1 (by rw [HI.out, if_neg h42, if_pos h63]))
            have HN := Lib.hid (show k + 1 ≤ r.length ∧ (r.drop (k + 1)).length < f by simp; omega)
            rw [h63] at e2
            go_wp2_with (at_builtin; (refine append4 rfl _ _ 36 rfl w1.heap.size 46 (.agg #[.int .i64 0, .bool false, .slice none 0 0, .slice none 0 0]) 64 Try.underlying36 infoItem rfl u6 its.length xs rfl (owns_below hown ((Below.refl _ _).alloc (Nat.le_refl _) _)) wr.heap.size (.int .i64 2) (.bool false) (.slice none 0 0) (.slice none 0 0) rfl ?q0 ?q1 ?q2 ?q3 ⟨rfl, rfl, rfl, rfl⟩ b1 b2 ?q4 ?_); (case q0 => simp); (case q1 => simp); (case q2 => simp); (case q3 => simp); (case q4 => (have := hBel.out.size; simp; omega)); intro g2 cap2 w3 hown2 hgr)
            have HM2 := Lib.hid (ItemsM.snoc (it := any) (ItemsX.kept (grown_alloc _ _) (rowed_none _) hX) (rowed_alloc HROW.out) ⟨_, _, rfl, Mine.nil _ _ _, Mine.nil _ _ _⟩ hgr hown2)
            have HB2 := Lib.hid ((hBel.out.alloc hBel.out.size _).grown hgr (by have := hBel.out.size; simp; omega) (fun k hk => (HLT.out k hk).2))
            go_wp2
            go_roundw
            case rel => exact ⟨_, _, f, by first | rfl | go_num, HN.out.1, HN.out.2, HSTEP.out, by simp; omega, HM2.out, HB2.out⟩
            case measure => simp [intOf]; omega
          · have q42 : (((r[k] : Nat) : Int) == 42) = false := by simp; omega
            have q63 : (((r[k] : Nat) : Int) == 63) = false := by simp; omega
            by_cases h92 : r[k] = 92
            · rw [h92] at e2
              by_cases hk2 : k + 1 < r.length
              · obtain ⟨g', e0, e3⟩ := hcr.out.at (ns_at r (k + 1) hk2)
                cases e0
                have HSTEP := Lib.hid (items_step (n := k + 2) (it := one r[k + 1]) HS.out hk1 (by rw [HI.out, if_neg h42, if_neg h63, if_pos h92, List.drop_eq_getElem_cons hk2]))
                have HN := Lib.hid (show k + 2 ≤ r.length ∧ (r.drop (k + 2)).length < f by simp; omega)
                have l3 : (k : Int) + 1 < (r.length : Int) := by omega
                have HL1 := Lib.hid l3
                have HCELL := Lib.hid e3
                generalize r[k + 1] = cc at HSTEP HCELL
                clear e3 hX hown
                go_wp2
                refine wp_region_each3 [some 63, some 64, some 65, some 66, some 67, some 68, some 69, some 70, some 71, some 72, some 73, some 74, some 75, some 76, some 6] (J18 w1 u6 (.slice (some ⟨g, 0, none⟩) r.length rcap) g cc (k + 1) its) (by kernel_rfl) (by kernel_rfl) (by simp [slots]) ?start ?each ?done
                case start =>
                  exact ⟨hBel.out.drew, HCELL.out, by simp, by simp, by simp, by simp, by simp, by simp, by simp, by simp, by simp, by simp, by simp, by simp, by simp, by simp, by simp, fun _ => HM.out.below (Below.refl _ _).drew, by simp, fun _ => rfl, by simp⟩
                case each =>
                  simp only [Each2]
                  refine ⟨?o0, ?o1, ?o2, ?o3, ?o4, ?o5, ?o6, ?o7, ?o8, ?o9, ?o10, ?o11, ?o12, ?o13, ?o14, trivial⟩
                  case o0 =>
                    intro d ys wx hJ hd hw hdep
                    have e6 := hJ.y6 (hw 14 (by kernel_rfl))
                    simp only [fill, slots, List.filterMap_cons, List.filterMap_nil, id, List.foldl_cons, List.foldl_nil, Act.put, List.setIfInBounds_toArray, List.set_cons_succ, List.set_cons_zero, e6]
                    go_wp2
                    exact ⟨_, rfl, { hJ with s0 := fun _ => rfl }⟩
                  case o1 =>
                    intro d ys wx hJ hd hw hdep
                    simp only [fill, slots, List.filterMap_cons, List.filterMap_nil, id, List.foldl_cons, List.foldl_nil, Act.put, List.setIfInBounds_toArray, List.set_cons_succ, List.set_cons_zero]
                    go_wp2
                    exact ⟨_, rfl, { hJ with s1 := fun _ => rfl }⟩
                  case o2 =>
                    intro d ys wx hJ hd hw hdep
                    simp only [fill, slots, List.filterMap_cons, List.filterMap_nil, id, List.foldl_cons, List.foldl_nil, Act.put, List.setIfInBounds_toArray, List.set_cons_succ, List.set_cons_zero]
                    go_wp2
                    exact ⟨_, rfl, { hJ with s2 := fun _ => rfl }⟩
                  case o3 =>
                    intro d ys wx hJ hd hw hdep
                    have h1 : d 1 = true := by simp [Deps2, Region.binds] at hdep; simp [hdep]
                    have h2 : d 2 = true := by simp [Deps2, Region.binds] at hdep; simp [hdep]
                    have l1 := HL1.out
                    simp only [fill, slots, List.filterMap_cons, List.filterMap_nil, id, List.foldl_cons, List.foldl_nil, Act.put, List.setIfInBounds_toArray, List.set_cons_succ, List.set_cons_zero, hJ.s1 h1, hJ.s2 h2]
                    go_wp2
                    exact ⟨_, rfl, { hJ with s3 := fun _ => rfl }⟩
                  case o4 =>
                    intro d ys wx hJ hd hw hdep
                    have h3 : d 3 = true := by simp [Deps2, Region.binds] at hdep; simp [hdep]
                    have hcell := hJ.cell
                    simp only [fill, slots, List.filterMap_cons, List.filterMap_nil, id, List.foldl_cons, List.foldl_nil, Act.put, List.setIfInBounds_toArray, List.set_cons_succ, List.set_cons_zero, hJ.s3 h3]
                    go_wp2
                    exact ⟨_, rfl, { hJ with s4 := fun _ => rfl }⟩
                  case o5 =>
                    intro d ys wx hJ hd hw hdep
                    have h4 : d 4 = true := by simp [Deps2, Region.binds] at hdep; simp [hdep]
                    have h11 : d 11 = false := hw 11 (by kernel_rfl)
                    have h12 : d 12 = true → False := fun e => by have := hJ.c12 e; rw [h11] at this; cases this
                    have hG := hJ.grown (grown_alloc wx (.cells #[.int .i64 (cc : Int)] 3))
                    simp only [fill, slots, List.filterMap_cons, List.filterMap_nil, id, List.foldl_cons, List.foldl_nil, Act.put, List.setIfInBounds_toArray, List.set_cons_succ, List.set_cons_zero, hJ.s4 h4]
                    go_wp2
                    exact ⟨_, rfl, { hG with s5 := fun _ => one_mine (heap_new _ _), s11 := fun e => absurd (show d 11 = true from e) (by rw [h11]; simp), c11 := fun e => absurd (show d 11 = true from e) (by rw [h11]; simp), s12 := fun e _ => (h12 e).elim }⟩
                  case o6 =>
                    intro d ys wx hJ hd hw hdep
                    simp only [fill, slots, List.filterMap_cons, List.filterMap_nil, id, List.foldl_cons, List.foldl_nil, Act.put, List.setIfInBounds_toArray, List.set_cons_succ, List.set_cons_zero]
                    go_wp2
                    exact ⟨_, rfl, { hJ with s6 := fun _ => rfl }⟩
                  case o7 =>
                    intro d ys wx hJ hd hw hdep
                    simp only [fill, slots, List.filterMap_cons, List.filterMap_nil, id, List.foldl_cons, List.foldl_nil, Act.put, List.setIfInBounds_toArray, List.set_cons_succ, List.set_cons_zero]
                    go_wp2
                    exact ⟨_, rfl, { hJ with s7 := fun _ => rfl }⟩
                  case o8 =>
                    intro d ys wx hJ hd hw hdep
                    have h6 : d 6 = true := by simp [Deps2, Region.binds] at hdep; simp [hdep]
                    have h7 : d 7 = true := by simp [Deps2, Region.binds] at hdep; simp [hdep]
                    have l1 := HL1.out
                    simp only [fill, slots, List.filterMap_cons, List.filterMap_nil, id, List.foldl_cons, List.foldl_nil, Act.put, List.setIfInBounds_toArray, List.set_cons_succ, List.set_cons_zero, hJ.s6 h6, hJ.s7 h7]
                    go_wp2
                    exact ⟨_, rfl, { hJ with s8 := fun _ => rfl }⟩
                  case o9 =>
                    intro d ys wx hJ hd hw hdep
                    have h8 : d 8 = true := by simp [Deps2, Region.binds] at hdep; simp [hdep]
                    have hcell := hJ.cell
                    simp only [fill, slots, List.filterMap_cons, List.filterMap_nil, id, List.foldl_cons, List.foldl_nil, Act.put, List.setIfInBounds_toArray, List.set_cons_succ, List.set_cons_zero, hJ.s8 h8]
                    go_wp2
                    exact ⟨_, rfl, { hJ with s9 := fun _ => rfl }⟩
                  case o10 =>
                    intro d ys wx hJ hd hw hdep
                    have h9 : d 9 = true := by simp [Deps2, Region.binds] at hdep; simp [hdep]
                    have h11 : d 11 = false := hw 11 (by kernel_rfl)
                    have h12 : d 12 = true → False := fun e => by have := hJ.c12 e; rw [h11] at this; cases this
                    have hG := hJ.grown (grown_alloc wx (.cells #[.int .i64 (cc : Int)] 3))
                    simp only [fill, slots, List.filterMap_cons, List.filterMap_nil, id, List.foldl_cons, List.foldl_nil, Act.put, List.setIfInBounds_toArray, List.set_cons_succ, List.set_cons_zero, hJ.s9 h9]
                    go_wp2
                    exact ⟨_, rfl, { hG with s10 := fun _ => one_mine (heap_new _ _), s11 := fun e => absurd (show d 11 = true from e) (by rw [h11]; simp), c11 := fun e => absurd (show d 11 = true from e) (by rw [h11]; simp), s12 := fun e _ => (h12 e).elim }⟩
                  case o11 =>
                    intro d ys wx hJ hd hw hdep
                    have h5 : d 5 = true := by simp [Deps2, Region.binds] at hdep; simp [hdep]
                    have h10 : d 10 = true := by simp [Deps2, Region.binds] at hdep; simp [hdep]
                    with_reducible refine Exists.elim (mine_slice (hJ.s5 h5)) ?_
                    intro p5 e5
                    with_reducible refine Exists.elim (mine_slice (hJ.s10 h10)) ?_
                    intro p10 e10
                    simp only [fill, slots, List.filterMap_cons, List.filterMap_nil, id, List.foldl_cons, List.foldl_nil, Act.put, List.setIfInBounds_toArray, List.set_cons_succ, List.set_cons_zero, e5, e10]
                    go_wp2
                    exact ⟨_, rfl, { hJ with s11 := fun _ => by show _ = Value.agg #[.int .i64 0, .bool false, ys 68, ys 73]; rw [e5, e10]; rfl, c11 := fun _ => ⟨h5, h10⟩, c12 := fun _ => by simp [upd] }⟩
                  case o12 =>
                    intro d ys wx hJ hd hw hdep
                    have h11 : d 11 = true := by simp [Deps2, Region.binds] at hdep; simp [hdep]
                    have hcc := hJ.c11 h11
                    have e11 := hJ.s11 h11
                    with_reducible refine Exists.elim (mine_slice (hJ.s5 hcc.1)) ?_
                    intro p5 e5
                    with_reducible refine Exists.elim (mine_slice (hJ.s10 hcc.2)) ?_
                    intro p10 e10
                    rw [e5, e10] at e11
                    have hG := hJ.grown (grown_alloc wx (.cells #[.int .i64 0, .bool false, ys 68, ys 73] 46))
                    have hbx := boxed_new wx (ys 68) (ys 73)
                    rw [e5, e10] at hG hbx
                    simp only [fill, slots, List.filterMap_cons, List.filterMap_nil, id, List.foldl_cons, List.foldl_nil, Act.put, List.setIfInBounds_toArray, List.set_cons_succ, List.set_cons_zero, e11]
                    go_wp2
                    exact ⟨_, rfl, { hG with s12 := fun _ _ => by show Boxed _ (ys 68) (ys 73) _; rw [e5, e10]; exact hbx, c12 := fun _ => h11 }⟩
                  case o13 =>
                    intro d ys wx hJ hd hw hdep
                    have h0 : d 0 = true := by simp [Deps2, Region.binds] at hdep; simp [hdep]
                    have h12 : d 12 = true := by simp [Deps2, Region.binds] at hdep; simp [hdep]
                    have h14 : d 14 = false := hw 14 (by kernel_rfl)
                    have hcc := hJ.c11 (hJ.c12 h12)
                    have hsz := hJ.below.size
                    have o5 := mine_one (hJ.s5 hcc.1)
                    have o10 := mine_one (hJ.s10 hcc.2)
                    with_reducible refine Exists.elim (hJ.m hd).out ?_
                    intro xs hxs
                    have hown := hxs.1
                    have hX := hxs.2
                    clear hxs
                    with_reducible refine Exists.elim (hJ.s12 h12 hd).out ?_
                    intro g12 hb
                    have e12 := hb.1
                    have k0 := hb.2.1
                    have k1 := hb.2.2.1
                    have k2 := hb.2.2.2.1
                    have k3 := hb.2.2.2.2
                    clear hb
                    simp only [fill, slots, List.filterMap_cons, List.filterMap_nil, id, List.foldl_cons, List.foldl_nil, Act.put, List.setIfInBounds_toArray, List.set_cons_succ, List.set_cons_zero, hJ.s0 h0, e12]
                    go_wp2_with (at_builtin; (refine append4 rfl _ _ 36 rfl w1.heap.size 46 (.agg #[.int .i64 0, .bool false, .slice none 0 0, .slice none 0 0]) 64 Try.underlying36 infoItem rfl u6 its.length xs rfl hown g12 _ _ _ _ rfl k0 k1 k2 k3 ⟨rfl, rfl, o5, o10⟩ b1 b2 hsz ?_); intro g2 cap2 w3 hown2 hgr)
                    exact ⟨_, rfl, hJ.app HGL.out h12 hd h14 hX hgr hown2⟩
                  case o14 =>
                    intro d ys wx hJ hd hw hdep
                    have h13 : d 13 = true := by simp [Deps2, Region.binds] at hdep; simp [hdep]
                    with_reducible refine Exists.elim (items_slice (hJ.s13 h13)) ?_
                    intro p13 e13
                    simp only [fill, slots, List.filterMap_cons, List.filterMap_nil, id, List.foldl_cons, List.foldl_nil, Act.put, List.setIfInBounds_toArray, List.set_cons_succ, List.set_cons_zero, e13]
                    go_wp2
                    exact ⟨_, rfl, { hJ with s14 := fun _ => e13.symm, y6 := fun e => absurd e (by simp [upd]) }⟩
                case done =>
                  intro d ys wx hJ hd
                  have HM2 := Lib.hid (hJ.s13 (hd 13 (by decide)))
                  have HB2 := Lib.hid hJ.below
                  have e6 := hJ.s14 (hd 14 (by decide))
                  clear hJ hd
                  simp only [fill, slots, List.filterMap_cons, List.filterMap_nil, id, List.foldl_cons, List.foldl_nil, Act.put, List.setIfInBounds_toArray, List.set_cons_succ, List.set_cons_zero, e6]
                  go_wp2
                  go_roundw
                  case rel => exact ⟨_, _, f, by first | rfl | go_num, HN.out.1, HN.out.2, HSTEP.out, by simp; omega, HM2.out, HB2.out⟩
                  case measure => simp [intOf]; omega
              · have HX := Lib.hid (items_stop HS.out hk1 (by rw [HI.out, if_neg h42, if_neg h63, if_pos h92, List.drop_of_length_le (by omega)]))
                have l3 : ¬ (k : Int) + 1 < (r.length : Int) := by omega
                go_wp2
                go_ret2
                exact HPS.out _ _ (HBW.out.trans (hBel.out.mono HBW.out.size)) (fun its' h => by rw [HX.out] at h; cases h) (fun _ => rfl)
            · have q92 : (((r[k] : Nat) : Int) == 92) = false := by simp; omega
              by_cases h91 : r[k] = 91
              · rw [h91] at e2
                have hcast : ((k + 1 : Nat) : Int) = (k : Int) + 1 := by omega
                cases hset : setL (r.drop (k + 1)) with
                | none =>
                  have HSE := Lib.hid (fun w hc => set_none (some ⟨g, 0, none⟩) r rcap (k + 1) (by omega) (by omega) hset w hc)
                  rw [hcast] at HSE
                  have HX := Lib.hid (items_stop HS.out hk1 (by rw [HI.out, if_neg h42, if_neg h63, if_neg h92, if_pos h91, hset]))
                  clear hset hcast
                  go_wp2_with (go_at_call 34; (with_reducible refine (HSE.out _ hcr.out).mono ?_); rintro e w2 ⟨nb, pp, pq, nn, rfl, hn2⟩)
                  go_ret2
                  exact HPS.out _ _ (HBW.out.trans ((hBel.out.trans ((hn2.mono hBel.out.size).alloc (Nat.le_trans hBel.out.size hn2.size) _)).mono HBW.out.size)) (fun its' h => by rw [HX.out] at h; cases h) (fun _ => rfl)
                | some z =>
                  obtain ⟨it, t⟩ := z
                  have HSE := Lib.hid (fun w hc => set_some (some ⟨g, 0, none⟩) r rcap (k + 1) (by omega) (by omega) it t hset w hc)
                  rw [hcast] at HSE
                  have hless := setL_less hset
                  have htd := Lib.hid (setL_drop hset)
                  have HSTEP := Lib.hid (items_step (n := r.length - t.length) (it := it) HS.out hk1 (by rw [HI.out, if_neg h42, if_neg h63, if_neg h92, if_pos h91, hset, ← htd.out]))
                  have hlt2 : t.length + 1 ≤ r.length - (k + 1) := by simp at hless; omega
                  have HN := Lib.hid (show r.length - t.length ≤ r.length ∧ (r.drop (r.length - t.length)).length < f by simp; omega)
                  obtain ⟨nm, hnm⟩ : ∃ nm, nm = r.length - t.length - 1 := ⟨_, rfl⟩
                  have hnx : r.length - t.length = nm + 1 := by omega
                  rw [hnx] at HSTEP HN
                  rw [← hnm] at HSE
                  have hnk : k + 1 ≤ nm := by omega
                  clear hset hcast htd hlt2 hless hnx
                  have HNM := Lib.hid hnm
                  have hnb : nm + 1 ≤ r.length := by omega
                  clear hnm
                  go_wp2_with fail
                  go_at_call 34
                  with_reducible refine (HSE.out _ hcr.out).mono ?_
                  rintro e w2 ⟨pp, pq, rfl, hm1, hm2, hb2⟩
                  clear HPS HST HI HSE hX hown
                  have HMB := Lib.hid (fun B : Obj => ((HM.out.below hb2).below ((Below.refl _ _).alloc (Nat.le_refl _) B)).below ((Below.refl _ _).alloc (Nat.le_refl _) B))
                  have HCB := Lib.hid (fun B : Obj => And.intro (((hm1.alloc B)).alloc B) (((hm2.alloc B)).alloc B))
                  have HBB := Lib.hid (fun B : Obj => ((hBel.out.trans (hb2.mono hBel.out.size)).alloc (Nat.le_trans hBel.out.size hb2.size) B).alloc (show w1.heap.size ≤ (w2.alloc B).heap.size by have := hBel.out.size; have := hb2.size; simp; omega) B)
                  generalize hB0 : Obj.cells #[Value.int IntKind.i64 (it.kind : Int), Value.bool it.neg, Value.slice pp.fst pp.snd.fst pp.snd.snd, Value.slice pq.fst pq.snd.fst pq.snd.snd] 46 = B0
                  have hmb := HMB.out B0
                  have hcb := HCB.out B0
                  have hbb := HBB.out B0
                  subst hB0
                  clear hm1 hm2 hb2 HMB HCB HBB HM HROW HLT
                  have HRW := Lib.hid hmb.rowed
                  have HLT := Lib.hid hmb.lt
                  have HCB := Lib.hid hcb
                  have HBB := Lib.hid hbb
                  have hbs := hbb.size
                  have HBS := Lib.hid hbs
                  obtain ⟨xs2, hown, hX⟩ := hmb
                  have HX2 := Lib.hid hX
                  have HOW := Lib.hid hown
                  clear hcb hbb hX hown hbs
                  go_wp2_with (at_builtin; (refine append4 rfl _ _ 36 rfl w1.heap.size 46 (.agg #[.int .i64 0, .bool false, .slice none 0 0, .slice none 0 0]) 64 Try.underlying36 infoItem rfl u6 its.length xs2 rfl HOW.out (w2.heap.size + 1) (.int .i64 (it.kind : Int)) (.bool it.neg) (.slice pp.fst pp.snd.fst pp.snd.snd) (.slice pq.fst pq.snd.fst pq.snd.snd) rfl ?q0 ?q1 ?q2 ?q3 ⟨rfl, rfl, rfl, rfl⟩ b1 b2 HBS.out ?_); (case q0 => simp); (case q1 => simp); (case q2 => simp); (case q3 => simp); intro g2 cap2 w3 hown2 hgr)
                  have HM2 := Lib.hid (ItemsM.snoc (it := it) HX2.out HRW.out ⟨_, _, rfl, HCB.out.1, HCB.out.2⟩ hgr hown2)
                  have HB2 := Lib.hid (HBB.out.grown hgr HBS.out (fun k hk => (HLT.out k hk).2))
                  go_wp2
                  go_roundw
                  case rel => exact ⟨nm + 1, _, f, by first | rfl | go_num, HN.out.1, HN.out.2, HSTEP.out, by simp; omega, HM2.out, HB2.out⟩
                  case measure => simp [intOf]; omega
              · have q91 : (((r[k] : Nat) : Int) == 91) = false := by simp; omega
                have HSTEP := Lib.hid (items_step (n := k + 1) (it := one r[k]) HS.out hk1 (by rw [HI.out, if_neg h42, if_neg h63, if_neg h92, if_neg h91]))
                have HN := Lib.hid (show k + 1 ≤ r.length ∧ (r.drop (k + 1)).length < f by simp; omega)
                have HL1 := Lib.hid l2
                have HCELL := Lib.hid e2
                clear hX hown h42 h63 h92 h91 HI
                generalize r[k] = cc at HSTEP HCELL e2 q42 q63 q92 q91
                go_wp2
                refine wp_region_each3 [some 29, some 30, some 31, some 32, some 33, some 34, some 35, some 36, some 37, some 38, some 39, some 40, some 41, some 42, some 6] (J9 w1 u6 (.slice (some ⟨g, 0, none⟩) r.length rcap) g cc k its) (by kernel_rfl) (by kernel_rfl) (by simp [slots]) ?start ?each ?done
                case start =>
                  exact ⟨hBel.out.drew, HCELL.out, by simp, by simp, by simp, by simp, by simp, by simp, by simp, by simp, by simp, by simp, by simp, by simp, by simp, by simp, by simp, fun _ => HM.out.below (Below.refl _ _).drew, by simp, fun _ => rfl, by simp⟩
                case each =>
                  simp only [Each2]
                  refine ⟨?o0, ?o1, ?o2, ?o3, ?o4, ?o5, ?o6, ?o7, ?o8, ?o9, ?o10, ?o11, ?o12, ?o13, ?o14, trivial⟩
                  case o0 =>
                    intro d ys wx hJ hd hw hdep
                    have e6 := hJ.y6 (hw 14 (by kernel_rfl))
                    simp only [fill, slots, List.filterMap_cons, List.filterMap_nil, id, List.foldl_cons, List.foldl_nil, Act.put, List.setIfInBounds_toArray, List.set_cons_succ, List.set_cons_zero, e6]
                    go_wp2
                    exact ⟨_, rfl, { hJ with s0 := fun _ => rfl }⟩
                  case o1 =>
                    intro d ys wx hJ hd hw hdep
                    simp only [fill, slots, List.filterMap_cons, List.filterMap_nil, id, List.foldl_cons, List.foldl_nil, Act.put, List.setIfInBounds_toArray, List.set_cons_succ, List.set_cons_zero]
                    go_wp2
                    exact ⟨_, rfl, { hJ with s1 := fun _ => rfl }⟩
                  case o2 =>
                    intro d ys wx hJ hd hw hdep
                    simp only [fill, slots, List.filterMap_cons, List.filterMap_nil, id, List.foldl_cons, List.foldl_nil, Act.put, List.setIfInBounds_toArray, List.set_cons_succ, List.set_cons_zero]
                    go_wp2
                    exact ⟨_, rfl, { hJ with s2 := fun _ => rfl }⟩
                  case o3 =>
                    intro d ys wx hJ hd hw hdep
                    have h1 : d 1 = true := by simp [Deps2, Region.binds] at hdep; simp [hdep]
                    have h2 : d 2 = true := by simp [Deps2, Region.binds] at hdep; simp [hdep]
                    have l1 := HL1.out
                    simp only [fill, slots, List.filterMap_cons, List.filterMap_nil, id, List.foldl_cons, List.foldl_nil, Act.put, List.setIfInBounds_toArray, List.set_cons_succ, List.set_cons_zero, hJ.s1 h1, hJ.s2 h2]
                    go_wp2
                    exact ⟨_, rfl, { hJ with s3 := fun _ => rfl }⟩
                  case o4 =>
                    intro d ys wx hJ hd hw hdep
                    have h3 : d 3 = true := by simp [Deps2, Region.binds] at hdep; simp [hdep]
                    have hcell := hJ.cell
                    simp only [fill, slots, List.filterMap_cons, List.filterMap_nil, id, List.foldl_cons, List.foldl_nil, Act.put, List.setIfInBounds_toArray, List.set_cons_succ, List.set_cons_zero, hJ.s3 h3]
                    go_wp2
                    exact ⟨_, rfl, { hJ with s4 := fun _ => rfl }⟩
                  case o5 =>
                    intro d ys wx hJ hd hw hdep
                    have h4 : d 4 = true := by simp [Deps2, Region.binds] at hdep; simp [hdep]
                    have h11 : d 11 = false := hw 11 (by kernel_rfl)
                    have h12 : d 12 = true → False := fun e => by have := hJ.c12 e; rw [h11] at this; cases this
                    have hG := hJ.grown (grown_alloc wx (.cells #[.int .i64 (cc : Int)] 3))
                    simp only [fill, slots, List.filterMap_cons, List.filterMap_nil, id, List.foldl_cons, List.foldl_nil, Act.put, List.setIfInBounds_toArray, List.set_cons_succ, List.set_cons_zero, hJ.s4 h4]
                    go_wp2
                    exact ⟨_, rfl, { hG with s5 := fun _ => one_mine (heap_new _ _), s11 := fun e => absurd (show d 11 = true from e) (by rw [h11]; simp), c11 := fun e => absurd (show d 11 = true from e) (by rw [h11]; simp), s12 := fun e _ => (h12 e).elim }⟩
                  case o6 =>
                    intro d ys wx hJ hd hw hdep
                    simp only [fill, slots, List.filterMap_cons, List.filterMap_nil, id, List.foldl_cons, List.foldl_nil, Act.put, List.setIfInBounds_toArray, List.set_cons_succ, List.set_cons_zero]
                    go_wp2
                    exact ⟨_, rfl, { hJ with s6 := fun _ => rfl }⟩
                  case o7 =>
                    intro d ys wx hJ hd hw hdep
                    simp only [fill, slots, List.filterMap_cons, List.filterMap_nil, id, List.foldl_cons, List.foldl_nil, Act.put, List.setIfInBounds_toArray, List.set_cons_succ, List.set_cons_zero]
                    go_wp2
                    exact ⟨_, rfl, { hJ with s7 := fun _ => rfl }⟩
                  case o8 =>
                    intro d ys wx hJ hd hw hdep
                    have h6 : d 6 = true := by simp [Deps2, Region.binds] at hdep; simp [hdep]
                    have h7 : d 7 = true := by simp [Deps2, Region.binds] at hdep; simp [hdep]
                    have l1 := HL1.out
                    simp only [fill, slots, List.filterMap_cons, List.filterMap_nil, id, List.foldl_cons, List.foldl_nil, Act.put, List.setIfInBounds_toArray, List.set_cons_succ, List.set_cons_zero, hJ.s6 h6, hJ.s7 h7]
                    go_wp2
                    exact ⟨_, rfl, { hJ with s8 := fun _ => rfl }⟩
                  case o9 =>
                    intro d ys wx hJ hd hw hdep
                    have h8 : d 8 = true := by simp [Deps2, Region.binds] at hdep; simp [hdep]
                    have hcell := hJ.cell
                    simp only [fill, slots, List.filterMap_cons, List.filterMap_nil, id, List.foldl_cons, List.foldl_nil, Act.put, List.setIfInBounds_toArray, List.set_cons_succ, List.set_cons_zero, hJ.s8 h8]
                    go_wp2
                    exact ⟨_, rfl, { hJ with s9 := fun _ => rfl }⟩
                  case o10 =>
                    intro d ys wx hJ hd hw hdep
                    have h9 : d 9 = true := by simp [Deps2, Region.binds] at hdep; simp [hdep]
                    have h11 : d 11 = false := hw 11 (by kernel_rfl)
                    have h12 : d 12 = true → False := fun e => by have := hJ.c12 e; rw [h11] at this; cases this
                    have hG := hJ.grown (grown_alloc wx (.cells #[.int .i64 (cc : Int)] 3))
                    simp only [fill, slots, List.filterMap_cons, List.filterMap_nil, id, List.foldl_cons, List.foldl_nil, Act.put, List.setIfInBounds_toArray, List.set_cons_succ, List.set_cons_zero, hJ.s9 h9]
                    go_wp2
                    exact ⟨_, rfl, { hG with s10 := fun _ => one_mine (heap_new _ _), s11 := fun e => absurd (show d 11 = true from e) (by rw [h11]; simp), c11 := fun e => absurd (show d 11 = true from e) (by rw [h11]; simp), s12 := fun e _ => (h12 e).elim }⟩
                  case o11 =>
                    intro d ys wx hJ hd hw hdep
                    have h5 : d 5 = true := by simp [Deps2, Region.binds] at hdep; simp [hdep]
                    have h10 : d 10 = true := by simp [Deps2, Region.binds] at hdep; simp [hdep]
                    with_reducible refine Exists.elim (mine_slice (hJ.s5 h5)) ?_
                    intro p5 e5
                    with_reducible refine Exists.elim (mine_slice (hJ.s10 h10)) ?_
                    intro p10 e10
                    simp only [fill, slots, List.filterMap_cons, List.filterMap_nil, id, List.foldl_cons, List.foldl_nil, Act.put, List.setIfInBounds_toArray, List.set_cons_succ, List.set_cons_zero, e5, e10]
                    go_wp2
                    exact ⟨_, rfl, { hJ with s11 := fun _ => by show _ = Value.agg #[.int .i64 0, .bool false, ys 34, ys 39]; rw [e5, e10]; rfl, c11 := fun _ => ⟨h5, h10⟩, c12 := fun _ => by simp [upd] }⟩
                  case o12 =>
                    intro d ys wx hJ hd hw hdep
                    have h11 : d 11 = true := by simp [Deps2, Region.binds] at hdep; simp [hdep]
                    have hcc := hJ.c11 h11
                    have e11 := hJ.s11 h11
                    with_reducible refine Exists.elim (mine_slice (hJ.s5 hcc.1)) ?_
                    intro p5 e5
                    with_reducible refine Exists.elim (mine_slice (hJ.s10 hcc.2)) ?_
                    intro p10 e10
                    rw [e5, e10] at e11
                    have hG := hJ.grown (grown_alloc wx (.cells #[.int .i64 0, .bool false, ys 34, ys 39] 46))
                    have hbx := boxed_new wx (ys 34) (ys 39)
                    rw [e5, e10] at hG hbx
                    simp only [fill, slots, List.filterMap_cons, List.filterMap_nil, id, List.foldl_cons, List.foldl_nil, Act.put, List.setIfInBounds_toArray, List.set_cons_succ, List.set_cons_zero, e11]
                    go_wp2
                    exact ⟨_, rfl, { hG with s12 := fun _ _ => by show Boxed _ (ys 34) (ys 39) _; rw [e5, e10]; exact hbx, c12 := fun _ => h11 }⟩
                  case o13 =>
                    intro d ys wx hJ hd hw hdep
                    have h0 : d 0 = true := by simp [Deps2, Region.binds] at hdep; simp [hdep]
                    have h12 : d 12 = true := by simp [Deps2, Region.binds] at hdep; simp [hdep]
                    have h14 : d 14 = false := hw 14 (by kernel_rfl)
                    have hcc := hJ.c11 (hJ.c12 h12)
                    have hsz := hJ.below.size
                    have o5 := mine_one (hJ.s5 hcc.1)
                    have o10 := mine_one (hJ.s10 hcc.2)
                    with_reducible refine Exists.elim (hJ.m hd).out ?_
                    intro xs hxs
                    have hown := hxs.1
                    have hX := hxs.2
                    clear hxs
                    with_reducible refine Exists.elim (hJ.s12 h12 hd).out ?_
                    intro g12 hb
                    have e12 := hb.1
                    have k0 := hb.2.1
                    have k1 := hb.2.2.1
                    have k2 := hb.2.2.2.1
                    have k3 := hb.2.2.2.2
                    clear hb
                    simp only [fill, slots, List.filterMap_cons, List.filterMap_nil, id, List.foldl_cons, List.foldl_nil, Act.put, List.setIfInBounds_toArray, List.set_cons_succ, List.set_cons_zero, hJ.s0 h0, e12]
                    go_wp2_with (at_builtin; (refine append4 rfl _ _ 36 rfl w1.heap.size 46 (.agg #[.int .i64 0, .bool false, .slice none 0 0, .slice none 0 0]) 64 Try.underlying36 infoItem rfl u6 its.length xs rfl hown g12 _ _ _ _ rfl k0 k1 k2 k3 ⟨rfl, rfl, o5, o10⟩ b1 b2 hsz ?_); intro g2 cap2 w3 hown2 hgr)
                    exact ⟨_, rfl, hJ.app HGL.out h12 hd h14 hX hgr hown2⟩
                  case o14 =>
                    intro d ys wx hJ hd hw hdep
                    have h13 : d 13 = true := by simp [Deps2, Region.binds] at hdep; simp [hdep]
                    with_reducible refine Exists.elim (items_slice (hJ.s13 h13)) ?_
                    intro p13 e13
                    simp only [fill, slots, List.filterMap_cons, List.filterMap_nil, id, List.foldl_cons, List.foldl_nil, Act.put, List.setIfInBounds_toArray, List.set_cons_succ, List.set_cons_zero, e13]
                    go_wp2
                    exact ⟨_, rfl, { hJ with s14 := fun _ => e13.symm, y6 := fun e => absurd e (by simp [upd]) }⟩
                case done =>
                  intro d ys wx hJ hd
                  have HM2 := Lib.hid (hJ.s13 (hd 13 (by decide)))
                  have HB2 := Lib.hid hJ.below
                  have e6 := hJ.s14 (hd 14 (by decide))
                  clear hJ hd
                  simp only [fill, slots, List.filterMap_cons, List.filterMap_nil, id, List.foldl_cons, List.foldl_nil, Act.put, List.setIfInBounds_toArray, List.set_cons_succ, List.set_cons_zero, e6]
                  go_wp2
                  go_roundw
                  case rel => exact ⟨_, _, f, by first | rfl | go_num, HN.out.1, HN.out.2, HSTEP.out, by simp; omega, HM2.out, HB2.out⟩
                  case measure => simp [intOf]; omega
      · have l2 : ¬ (k : Int) < (r.length : Int) := by omega
        have HE := Lib.hid (items_end HS.out hk1)
        go_wp2
        go_ret2
        exact HPS.out _ _ (HBW.out.trans (hBel.out.mono HBW.out.size)) (fun its' h => by rw [HE.out] at h; cases h; exact ⟨_, rfl, HM.out.base HBW.out.size⟩) (fun h => by rw [HE.out] at h; cases h)
end Go.Proofs.Ytfponjonbhnmlaa.RefGlob
