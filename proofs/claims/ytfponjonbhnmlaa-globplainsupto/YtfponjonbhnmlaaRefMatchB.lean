/-
  What the document's own matching answers.
-/
import Derived.Test.YtfponjonbhnmlaaRefMatchJ
import Derived.Test.YtfponjonbhnmlaaRegion3
namespace Go.Proofs.Ytfponjonbhnmlaa.RefGlob
open Go.RowKit
open RuneM RefRune Own RefKeys GlobM

/-- where it stands behind some of the items -/
def MatchIn (r : List Nat) (its : List It) (w : World) (x9 x10 : Value) (wr : World) : Prop :=
  ∃ i g, x10 = .int .i64 ((i : Nat) : Int) ∧ i ≤ its.length ∧ x9 = .slice (some ⟨g, 0, none⟩) (r.length + 1) (r.length + 1) ∧ Bits wr g (r.length + 1) (rowB r (its.take i)) (r.length + 1) ∧ w.heap.size ≤ g ∧ Below w.heap.size w wr
/-- where it stands behind some of the places -/
def PlaceIn (r : List Nat) (it : It) (f : Nat → Bool) (w : World) (x12 : Value) (wr : World) : Prop :=
  ∃ j, x12 = .int .i64 ((j : Nat) : Int) ∧ j ≤ r.length + 1 ∧ Bits wr w.heap.size (r.length + 1) (stepB it r f) j ∧ Below w.heap.size w wr
set_option maxRecDepth 100000 in
set_option maxHeartbeats 8000000 in
theorem match_any (p k : ByteArray) (hp : p.size ≤ 8796093022208) (hk : k.size ≤ 8796093022208) (w : World) : Calls Try.prog 13 #[.string p, .string k] w fun e w' => e = .returned (.bool (globB p k)) ∧ Below w.heap.size w w' := by
  have HPA := Lib.hid (parts_any p hp w)
  obtain ⟨i0, hi0, hz0, hz1, hz2⟩ := info_parts infoBool
  cases hq : itemsL (nums p) with
  | none =>
    have HG := Lib.hid (globB_none (k := k) hq)
    go_enter Try.func13, Try.ntmps13
    go_wp2_with fail
    go_at_call 21
    with_reducible refine HPA.out.mono ?_
    rintro e w1 ⟨hb, hm⟩
    rw [hq] at hm
    subst hm
    have HB := Lib.hid hb
    clear hb hq
    go_wp2
    go_ret
    exact ⟨ret_bool HG.out.symm, HB.out⟩
  | some its =>
    have HG := Lib.hid (globB_some (k := k) hq)
    have hL := itemsL_len hq
    have h24 := hL.1
    have HSP := Lib.hid hL.2
    clear hL
    have HRU := Lib.hid (fun w => runes_flat k hk w)
    rw [ns_nums, ← nums_length k] at HRU
    have hrl : (nums k).length ≤ 8796093022208 := by rw [nums_length]; exact Nat.le_trans (runes_length k) hk
    generalize nums k = r at HG HRU hrl
    go_enter Try.func13, Try.ntmps13
    go_wp2_with fail
    go_at_call 21
    with_reducible refine HPA.out.mono ?_
    rintro e w1 ⟨hb, hm⟩
    rw [hq] at hm
    obtain ⟨v, rfl, hM⟩ := hm
    obtain ⟨⟨va, vn, vc⟩, rfl⟩ := items_slice hM
    have hvn : vn = its.length := by
      obtain ⟨xs, h, _⟩ := hM
      rcases h.2 with ⟨h1, h2⟩ | ⟨g, cap, cur, h1, _⟩
      · simp only [Value.slice.injEq] at h1; omega
      · simp only [Value.slice.injEq] at h1; omega
    subst hvn
    have HB := Lib.hid hb
    have HM := Lib.hid hM
    clear hb hq hM HPA
    go_wp2_with fail
    go_at_call 24
    with_reducible refine (HRU.out _).mono ?_
    rintro e w2 ⟨ra, rcap, rb, rd, rfl, hca, hcb, hbw⟩
    clear hcb HRU
    have HM2 := Lib.hid (HM.out.below hbw)
    have HCA := Lib.hid hca
    have HBW := Lib.hid (HB.out.trans (hbw.mono HB.out.size))
    clear hca hbw HM HB
    go_wp2_with (at_make; refine wpList_make_full _ rfl _ _ 39 rfl w2.heap.size 4 i0 (.bool false) 1 Try.underlying39 hi0 hz0 hz1 .i64 .i64 _ _ (r.length + 1) rfl rfl (by omega) (by omega) (by rw [hz2]; omega) (by simp [maxLen]; omega) (Nat.le_refl _) ?_; intro w3 hown hgrow; have c0 := (Bits.of_make hown (rowB r [])).1 0 (by omega); obtain ⟨⟨c0b, c0c⟩, c0f⟩ := c0)
    have HBI := Lib.hid ((Bits.of_make hown (rowB r (its.take 0))))
    have HB3 := Lib.hid ((Below.refl w2.heap.size w2).grown hgrow (Nat.le_refl _) (fun k hk => by cases hk))
    have hst : Hid (Bits (w3.setCell ⟨w2.heap.size, 0, none⟩ (.bool true)) w2.heap.size (r.length + 1) (rowB r (its.take 0)) (r.length + 1) ∧ Below w2.heap.size w2 (w3.setCell ⟨w2.heap.size, 0, none⟩ (.bool true))) := by
      exact ⟨Bits.start hown (by omega), HB3.out.setCell (Nat.le_refl _) _⟩
    clear hown hgrow HBI HB3 c0c c0f
    go_loopw [9, 10] (fun x9 x10 wr => MatchIn r its w2 x9 x10 wr) (fun _ x10 _ => its.length - (intOf x10).toNat)
    case atStart => exact ⟨0, w2.heap.size, rfl, Nat.zero_le _, rfl, hst.out.1, Nat.le_refl _, hst.out.2⟩
    case round =>
      obtain ⟨i, g, rfl, hi, rfl, hBits, hg, hB⟩ := hrel
      have HBT := Lib.hid hBits
      have HBR := Lib.hid hB
      clear hBits hB
      by_cases hil : i < its.length
      · obtain ⟨gi, icap, lo, hi2, hva, k0, k1, k2, k3, m1, m2⟩ := items_at (HM2.out.below HBR.out) hil
        simp only [Value.slice.injEq] at hva
        obtain ⟨rfl, _, rfl⟩ := hva
        have HROW := Lib.hid (rowB_take (r := r) hil)
        have l1 : (i : Int) < (its.length : Int) := by omega
        have hsl : its[i].sp.length ≤ 1000000 := by have := HSP.out its[i] (List.getElem_mem hil); omega
        generalize its[i] = it at k0 k1 m1 m2 HROW hsl
        generalize rowB r (its.take i) = f at HBT HROW
        have HK0 := Lib.hid k0
        have HK1 := Lib.hid k1
        have HK2 := Lib.hid k2
        have HK3 := Lib.hid k3
        have HM1 := Lib.hid m1
        have HM3 := Lib.hid m2
        clear k0 k1 k2 k3 m1 m2
        go_wp2_with (at_make; refine wpList_make_full _ rfl _ _ 39 rfl wr.heap.size 4 i0 (.bool false) 1 Try.underlying39 hi0 hz0 hz1 .i64 .i64 _ _ (r.length + 1) rfl rfl (by omega) (by omega) (by rw [hz2]; omega) (by simp [maxLen]; omega) (Nat.le_refl _) ?_; intro w4 hown2 hgrow2)
        obtain ⟨wo, hwo⟩ : ∃ wo, wo = wr := ⟨_, rfl⟩
        subst hwo
        have HS2 := Lib.hid (And.intro (Bits.of_make hown2 (stepB it r f)) ((Below.refl wo.heap.size wo).grown hgrow2 (Nat.le_refl _) (fun k hk => by cases hk)))
        clear hown2 hgrow2
        go_loopw [12] (fun x12 wi => PlaceIn r it f wo x12 wi) (fun x12 _ => r.length + 1 - (intOf x12).toNat)
        case atStart => exact ⟨0, rfl, Nat.zero_le _, HS2.out.1, HS2.out.2⟩
        case round =>
          clear HS2
          obtain ⟨j, rfl, hj, hT, hBi⟩ := hrel
          by_cases hjl : j ≤ r.length
          · have lj : (j : Int) ≤ (r.length : Int) := by omega
            have lj2 : (j : Int) < (r.length : Int) + 1 := by omega
            have HTT := Lib.hid hT
            have HBI := Lib.hid hBi
            have k0 : wr.cell? ⟨gi, i * 4, none⟩ = some (.int .i64 (it.kind : Int)) := by rw [hBi.cell (block_lt_of_cell HK0.out)]; exact HK0.out
            have ca : wr.cell? ⟨g, j, none⟩ = some (.bool (f j)) := (HBT.out.below (Nat.le_refl _) hBi).2 j (by omega)
            obtain ⟨⟨bt, ct⟩, cf⟩ := hT.1 j (by omega)
            by_cases hk1 : it.kind = 1
            · have qk : ((it.kind : Int) == 1) = true := by simp; omega
              cases hf : f j with
              | true =>
                rw [hf] at ca
                have HV : Hid (true = stepB it r f j) := by show _ = _; cases j <;> simp [stepB, hk1, hf]
                clear hT hBi hf hk1
                go_wp2
                go_roundw
                case rel => exact ⟨j + 1, by go_num, by omega, HTT.out.set (by omega) HV.out, HBI.out.setCell (Nat.le_refl _) _⟩
                case measure => simp [intOf]; omega
              | false =>
                rw [hf] at ca
                cases j with
                | zero =>
                  have HV : Hid (false = stepB it r f 0) := by show _ = _; simp [stepB, hf]
                  clear hT hBi hf hk1
                  go_wp2
                  go_roundw
                  case rel => exact ⟨1, by go_num, by omega, HTT.out.set (by omega) HV.out, HBI.out.setCell (Nat.le_refl _) _⟩
                  case measure => simp [intOf]
                | succ j =>
                  have cp : wr.cell? ⟨wo.heap.size, j, none⟩ = some (.bool (stepB it r f j)) := hT.2 j (by omega)
                  have HV : Hid (stepB it r f j = stepB it r f (j + 1)) := by show _ = _; simp [stepB, hk1, hf]
                  have l9 : (0 : Int) < (j : Int) + 1 := by omega
                  have l8 : (j : Int) < (r.length : Int) + 1 := by omega
                  generalize stepB it r f j = bv at cp HV
                  clear hT hBi hf hk1
                  go_wp2
                  go_roundw
                  case rel => exact ⟨j + 2, by go_num, by omega, HTT.out.set (by omega) HV.out, HBI.out.setCell (Nat.le_refl _) _⟩
                  case measure => simp [intOf]; omega
            · have qk : ((it.kind : Int) == 1) = false := by simp; omega
              cases j with
              | zero =>
                have HV : Hid (false = stepB it r f 0) := by show _ = _; simp [stepB, hk1]
                clear hT hBi hk1
                go_upto_region 16 with fail
                refine Region.wp_region_each3 [some 71, some 72, some 73, some 74, some 75, some 76, some 77, some 78, some 79, some 80, some 81, some 82, some 83, some 84, some 85, some 86, some 87, some 88, some 89, some 90, some 91, some 92, some 93, some 94, none] (J16 wr (.slice (some ⟨g, 0, none⟩) (r.length + 1) (r.length + 1)) (.slice (some ⟨wo.heap.size, 0, none⟩) (r.length + 1) (r.length + 1)) (.slice (some ⟨gi, 0, none⟩) its.length vc) (.slice ra r.length rcap) (.bool false) (i : Int) 0 0 0 ⟨g, 0, none⟩ ⟨g, 0, none⟩ ⟨g, 0, none⟩ ⟨wo.heap.size, 0, none⟩ false false false) (by kernel_rfl) (by kernel_rfl) (by simp [Region.slots]) ?start ?each ?done
                case start => exact { pre := fun _ => (Below.refl _ _).drew, s0 := by simp, s1 := by simp, s2 := by simp, s3 := by simp, s4 := by simp, s5 := by simp, s6 := by simp, s7 := by simp, s8 := by simp, s9 := by simp, s10 := by simp, s11 := by simp, s12 := by simp, s13 := by simp, s14 := by simp, s15 := by simp, s16 := by simp, s17 := by simp, s18 := by simp, s19 := by simp, s20 := by simp, s21 := by simp, s22 := by simp, s23 := by simp, post := by simp }
                case each =>
                  simp only [Region.Each2]
                  refine ⟨?o0, ?o1, ?o2, ?o3, ?o4, ?o5, ?o6, ?o7, ?o8, ?o9, ?o10, ?o11, ?o12, ?o13, ?o14, ?o15, ?o16, ?o17, ?o18, ?o19, ?o20, ?o21, ?o22, ?o23, ?o24, trivial⟩
                  case o0 =>
                    intro d ys wx hJ hd hw hdep
                    have h24 : d 24 = false := hw 24 (by kernel_rfl)
                    have hbel := Lib.hid (hJ.pre h24)
                    simp only [Region.fill, Region.slots, List.filterMap_cons, List.filterMap_nil, id, List.foldl_cons, List.foldl_nil, Act.put, List.setIfInBounds_toArray, List.set_cons_succ, List.set_cons_zero]
                    go_wp2
                    exact ⟨_, rfl, { hJ with s0 := fun _ => by first | rfl | (simp; done) | (simp; omega) }⟩
                  case o1 =>
                    intro d ys wx hJ hd hw hdep
                    have h24 : d 24 = false := hw 24 (by kernel_rfl)
                    have hbel := Lib.hid (hJ.pre h24)
                    simp only [Region.fill, Region.slots, List.filterMap_cons, List.filterMap_nil, id, List.foldl_cons, List.foldl_nil, Act.put, List.setIfInBounds_toArray, List.set_cons_succ, List.set_cons_zero]
                    go_wp2
                    exact ⟨_, rfl, { hJ with s1 := fun _ => by first | rfl | (simp; done) | (simp; omega) }⟩
                  case o2 =>
                    intro d ys wx hJ hd hw hdep
                    have h24 : d 24 = false := hw 24 (by kernel_rfl)
                    have hbel := Lib.hid (hJ.pre h24)
                    simp only [Region.fill, Region.slots, List.filterMap_cons, List.filterMap_nil, id, List.foldl_cons, List.foldl_nil, Act.put, List.setIfInBounds_toArray, List.set_cons_succ, List.set_cons_zero]
                    go_wp2
                    exact ⟨_, rfl, { hJ with s2 := fun _ => by first | rfl | (simp; done) | (simp; omega) }⟩
                  case o3 =>
                    intro d ys wx hJ hd hw hdep
                    have h24 : d 24 = false := hw 24 (by kernel_rfl)
                    have hbel := Lib.hid (hJ.pre h24)
                    have h2 : d 2 = true := by simp [Region.Deps2, Go.Region.binds] at hdep; simp [hdep]
                    simp only [Region.fill, Region.slots, List.filterMap_cons, List.filterMap_nil, id, List.foldl_cons, List.foldl_nil, Act.put, List.setIfInBounds_toArray, List.set_cons_succ, List.set_cons_zero, hJ.s2 h2]
                    go_wp2
                    exact ⟨_, rfl, { hJ with s3 := fun _ => by first | rfl | (simp; done) | (simp; omega) }⟩
                  case o4 =>
                    intro d ys wx hJ hd hw hdep
                    have h24 : d 24 = false := hw 24 (by kernel_rfl)
                    have hbel := Lib.hid (hJ.pre h24)
                    have h3 : d 3 = true := by simp [Region.Deps2, Go.Region.binds] at hdep; simp [hdep]
                    simp only [Region.fill, Region.slots, List.filterMap_cons, List.filterMap_nil, id, List.foldl_cons, List.foldl_nil, Act.put, List.setIfInBounds_toArray, List.set_cons_succ, List.set_cons_zero, hJ.s3 h3]
                    go_wp2
                    exact ⟨_, rfl, { hJ with s4 := fun _ => by first | rfl | (simp; done) | (simp; omega) }⟩
                  case o5 =>
                    intro d ys wx hJ hd hw hdep
                    have h24 : d 24 = false := hw 24 (by kernel_rfl)
                    have hbel := Lib.hid (hJ.pre h24)
                    have h4 : d 4 = true := by simp [Region.Deps2, Go.Region.binds] at hdep; simp [hdep]
                    simp only [Region.fill, Region.slots, List.filterMap_cons, List.filterMap_nil, id, List.foldl_cons, List.foldl_nil, Act.put, List.setIfInBounds_toArray, List.set_cons_succ, List.set_cons_zero, hJ.s4 h4]
                    go_wp2
                    exact ⟨_, rfl, { hJ with s5 := fun _ h => by cases h }⟩
                  case o6 =>
                    intro d ys wx hJ hd hw hdep
                    have h24 : d 24 = false := hw 24 (by kernel_rfl)
                    have hbel := Lib.hid (hJ.pre h24)
                    have h4 : d 4 = true := by simp [Region.Deps2, Go.Region.binds] at hdep; simp [hdep]
                    simp only [Region.fill, Region.slots, List.filterMap_cons, List.filterMap_nil, id, List.foldl_cons, List.foldl_nil, Act.put, List.setIfInBounds_toArray, List.set_cons_succ, List.set_cons_zero, hJ.s4 h4]
                    go_wp2
                    exact ⟨_, rfl, { hJ with s6 := fun _ h => by cases h }⟩
                  case o7 =>
                    intro d ys wx hJ hd hw hdep
                    have h24 : d 24 = false := hw 24 (by kernel_rfl)
                    have hbel := Lib.hid (hJ.pre h24)
                    have h4 : d 4 = true := by simp [Region.Deps2, Go.Region.binds] at hdep; simp [hdep]
                    simp only [Region.fill, Region.slots, List.filterMap_cons, List.filterMap_nil, id, List.foldl_cons, List.foldl_nil, Act.put, List.setIfInBounds_toArray, List.set_cons_succ, List.set_cons_zero, hJ.s4 h4]
                    go_wp2
                    exact ⟨_, rfl, { hJ with s7 := fun _ h => by cases h }⟩
                  case o8 =>
                    intro d ys wx hJ hd hw hdep
                    have h24 : d 24 = false := hw 24 (by kernel_rfl)
                    have hbel := Lib.hid (hJ.pre h24)
                    have h4 : d 4 = true := by simp [Region.Deps2, Go.Region.binds] at hdep; simp [hdep]
                    simp only [Region.fill, Region.slots, List.filterMap_cons, List.filterMap_nil, id, List.foldl_cons, List.foldl_nil, Act.put, List.setIfInBounds_toArray, List.set_cons_succ, List.set_cons_zero, hJ.s4 h4]
                    go_wp2
                    exact ⟨_, rfl, { hJ with s8 := fun _ h => by cases h }⟩
                  case o9 =>
                    intro d ys wx hJ hd hw hdep
                    have h24 : d 24 = false := hw 24 (by kernel_rfl)
                    have hbel := Lib.hid (hJ.pre h24)
                    have h4 : d 4 = true := by simp [Region.Deps2, Go.Region.binds] at hdep; simp [hdep]
                    simp only [Region.fill, Region.slots, List.filterMap_cons, List.filterMap_nil, id, List.foldl_cons, List.foldl_nil, Act.put, List.setIfInBounds_toArray, List.set_cons_succ, List.set_cons_zero, hJ.s4 h4]
                    go_wp2
                    exact ⟨_, rfl, { hJ with s9 := fun _ h => by cases h }⟩
                  case o10 =>
                    intro d ys wx hJ hd hw hdep
                    have h24 : d 24 = false := hw 24 (by kernel_rfl)
                    have hbel := Lib.hid (hJ.pre h24)
                    have h4 : d 4 = true := by simp [Region.Deps2, Go.Region.binds] at hdep; simp [hdep]
                    simp only [Region.fill, Region.slots, List.filterMap_cons, List.filterMap_nil, id, List.foldl_cons, List.foldl_nil, Act.put, List.setIfInBounds_toArray, List.set_cons_succ, List.set_cons_zero, hJ.s4 h4]
                    go_wp2
                    exact ⟨_, rfl, { hJ with s10 := fun _ => by first | rfl | (simp; done) | (simp; omega) }⟩
                  case o11 =>
                    intro d ys wx hJ hd hw hdep
                    have h24 : d 24 = false := hw 24 (by kernel_rfl)
                    have hbel := Lib.hid (hJ.pre h24)
                    have h10 : d 10 = true := by simp [Region.Deps2, Go.Region.binds] at hdep; simp [hdep]
                    simp only [Region.fill, Region.slots, List.filterMap_cons, List.filterMap_nil, id, List.foldl_cons, List.foldl_nil, Act.put, List.setIfInBounds_toArray, List.set_cons_succ, List.set_cons_zero, hJ.s10 h10]
                    go_wp2
                    exact ⟨_, rfl, { hJ with s11 := fun _ => by first | rfl | (simp; done) | (simp; omega) }⟩
                  case o12 =>
                    intro d ys wx hJ hd hw hdep
                    have h24 : d 24 = false := hw 24 (by kernel_rfl)
                    have hbel := Lib.hid (hJ.pre h24)
                    have h11 : d 11 = true := by simp [Region.Deps2, Go.Region.binds] at hdep; simp [hdep]
                    simp only [Region.fill, Region.slots, List.filterMap_cons, List.filterMap_nil, id, List.foldl_cons, List.foldl_nil, Act.put, List.setIfInBounds_toArray, List.set_cons_succ, List.set_cons_zero, hJ.s11 h11]
                    go_wp2
                    exact ⟨_, rfl, { hJ with s12 := fun _ h => by cases h }⟩
                  case o13 =>
                    intro d ys wx hJ hd hw hdep
                    have h24 : d 24 = false := hw 24 (by kernel_rfl)
                    have hbel := Lib.hid (hJ.pre h24)
                    have h11 : d 11 = true := by simp [Region.Deps2, Go.Region.binds] at hdep; simp [hdep]
                    simp only [Region.fill, Region.slots, List.filterMap_cons, List.filterMap_nil, id, List.foldl_cons, List.foldl_nil, Act.put, List.setIfInBounds_toArray, List.set_cons_succ, List.set_cons_zero, hJ.s11 h11]
                    go_wp2
                    exact ⟨_, rfl, { hJ with s13 := fun _ h => by cases h }⟩
                  case o14 =>
                    intro d ys wx hJ hd hw hdep
                    have h24 : d 24 = false := hw 24 (by kernel_rfl)
                    have hbel := Lib.hid (hJ.pre h24)
                    have h11 : d 11 = true := by simp [Region.Deps2, Go.Region.binds] at hdep; simp [hdep]
                    simp only [Region.fill, Region.slots, List.filterMap_cons, List.filterMap_nil, id, List.foldl_cons, List.foldl_nil, Act.put, List.setIfInBounds_toArray, List.set_cons_succ, List.set_cons_zero, hJ.s11 h11]
                    go_wp2
                    exact ⟨_, rfl, { hJ with s14 := fun _ h => by cases h }⟩
                  case o15 =>
                    intro d ys wx hJ hd hw hdep
                    have h24 : d 24 = false := hw 24 (by kernel_rfl)
                    have hbel := Lib.hid (hJ.pre h24)
                    have h11 : d 11 = true := by simp [Region.Deps2, Go.Region.binds] at hdep; simp [hdep]
                    simp only [Region.fill, Region.slots, List.filterMap_cons, List.filterMap_nil, id, List.foldl_cons, List.foldl_nil, Act.put, List.setIfInBounds_toArray, List.set_cons_succ, List.set_cons_zero, hJ.s11 h11]
                    go_wp2
                    exact ⟨_, rfl, { hJ with s15 := fun _ h => by cases h }⟩
                  case o16 =>
                    intro d ys wx hJ hd hw hdep
                    have h24 : d 24 = false := hw 24 (by kernel_rfl)
                    have hbel := Lib.hid (hJ.pre h24)
                    have h11 : d 11 = true := by simp [Region.Deps2, Go.Region.binds] at hdep; simp [hdep]
                    simp only [Region.fill, Region.slots, List.filterMap_cons, List.filterMap_nil, id, List.foldl_cons, List.foldl_nil, Act.put, List.setIfInBounds_toArray, List.set_cons_succ, List.set_cons_zero, hJ.s11 h11]
                    go_wp2
                    exact ⟨_, rfl, { hJ with s16 := fun _ h => by cases h }⟩
                  case o17 =>
                    intro d ys wx hJ hd hw hdep
                    have h24 : d 24 = false := hw 24 (by kernel_rfl)
                    have hbel := Lib.hid (hJ.pre h24)
                    have h11 : d 11 = true := by simp [Region.Deps2, Go.Region.binds] at hdep; simp [hdep]
                    simp only [Region.fill, Region.slots, List.filterMap_cons, List.filterMap_nil, id, List.foldl_cons, List.foldl_nil, Act.put, List.setIfInBounds_toArray, List.set_cons_succ, List.set_cons_zero, hJ.s11 h11]
                    go_wp2
                    exact ⟨_, rfl, { hJ with s17 := fun _ h => by cases h }⟩
                  case o18 =>
                    intro d ys wx hJ hd hw hdep
                    have h24 : d 24 = false := hw 24 (by kernel_rfl)
                    have hbel := Lib.hid (hJ.pre h24)
                    have h11 : d 11 = true := by simp [Region.Deps2, Go.Region.binds] at hdep; simp [hdep]
                    simp only [Region.fill, Region.slots, List.filterMap_cons, List.filterMap_nil, id, List.foldl_cons, List.foldl_nil, Act.put, List.setIfInBounds_toArray, List.set_cons_succ, List.set_cons_zero, hJ.s11 h11]
                    go_wp2
                    exact ⟨_, rfl, { hJ with s18 := fun _ h => by cases h }⟩
                  case o19 =>
                    intro d ys wx hJ hd hw hdep
                    have h24 : d 24 = false := hw 24 (by kernel_rfl)
                    have hbel := Lib.hid (hJ.pre h24)
                    have h11 : d 11 = true := by simp [Region.Deps2, Go.Region.binds] at hdep; simp [hdep]
                    simp only [Region.fill, Region.slots, List.filterMap_cons, List.filterMap_nil, id, List.foldl_cons, List.foldl_nil, Act.put, List.setIfInBounds_toArray, List.set_cons_succ, List.set_cons_zero, hJ.s11 h11]
                    go_wp2
                    exact ⟨_, rfl, { hJ with s19 := fun _ h => by cases h }⟩
                  case o20 =>
                    intro d ys wx hJ hd hw hdep
                    have h24 : d 24 = false := hw 24 (by kernel_rfl)
                    have hbel := Lib.hid (hJ.pre h24)
                    have h11 : d 11 = true := by simp [Region.Deps2, Go.Region.binds] at hdep; simp [hdep]
                    simp only [Region.fill, Region.slots, List.filterMap_cons, List.filterMap_nil, id, List.foldl_cons, List.foldl_nil, Act.put, List.setIfInBounds_toArray, List.set_cons_succ, List.set_cons_zero, hJ.s11 h11]
                    go_wp2
                    exact ⟨_, rfl, { hJ with s20 := fun _ h => by cases h }⟩
                  case o21 =>
                    intro d ys wx hJ hd hw hdep
                    have h24 : d 24 = false := hw 24 (by kernel_rfl)
                    have hbel := Lib.hid (hJ.pre h24)
                    have h11 : d 11 = true := by simp [Region.Deps2, Go.Region.binds] at hdep; simp [hdep]
                    simp only [Region.fill, Region.slots, List.filterMap_cons, List.filterMap_nil, id, List.foldl_cons, List.foldl_nil, Act.put, List.setIfInBounds_toArray, List.set_cons_succ, List.set_cons_zero, hJ.s11 h11]
                    go_wp2
                    exact ⟨_, rfl, { hJ with s21 := fun _ h => by cases h }⟩
                  case o22 =>
                    intro d ys wx hJ hd hw hdep
                    have h24 : d 24 = false := hw 24 (by kernel_rfl)
                    have hbel := Lib.hid (hJ.pre h24)
                    have h11 : d 11 = true := by simp [Region.Deps2, Go.Region.binds] at hdep; simp [hdep]
                    simp only [Region.fill, Region.slots, List.filterMap_cons, List.filterMap_nil, id, List.foldl_cons, List.foldl_nil, Act.put, List.setIfInBounds_toArray, List.set_cons_succ, List.set_cons_zero, hJ.s11 h11]
                    go_wp2
                    exact ⟨_, rfl, { hJ with s22 := fun _ => by first | rfl | (simp; done) | (simp; omega) }⟩
                  case o23 =>
                    intro d ys wx hJ hd hw hdep
                    have h24 : d 24 = false := hw 24 (by kernel_rfl)
                    have hbel := Lib.hid (hJ.pre h24)
                    have h0 : d 0 = true := by simp [Region.Deps2, Go.Region.binds] at hdep; simp [hdep]
                    have h1 : d 1 = true := by simp [Region.Deps2, Go.Region.binds] at hdep; simp [hdep]
                    simp only [Region.fill, Region.slots, List.filterMap_cons, List.filterMap_nil, id, List.foldl_cons, List.foldl_nil, Act.put, List.setIfInBounds_toArray, List.set_cons_succ, List.set_cons_zero, hJ.s0 h0, hJ.s1 h1]
                    go_wp2
                    exact ⟨_, rfl, { hJ with s23 := fun _ => by first | rfl | (simp; done) | (simp; omega) }⟩
                  case o24 =>
                    intro d ys wx hJ hd hw hdep
                    have hbel := Lib.hid (hJ.pre hd)
                    have h22 : d 22 = true := by simp [Region.Deps2, Go.Region.binds] at hdep; simp [hdep]
                    have h23 : d 23 = true := by simp [Region.Deps2, Go.Region.binds] at hdep; simp [hdep]
                    simp only [Region.fill, Region.slots, List.filterMap_cons, List.filterMap_nil, id, List.foldl_cons, List.foldl_nil, Act.put, List.setIfInBounds_toArray, List.set_cons_succ, List.set_cons_zero, hJ.s22 h22, hJ.s23 h23]
                    have ct2 : wx.cell? ⟨wo.heap.size, 0, none⟩ = some (.bool bt) := by rw [hbel.out.cell (block_lt_of_cell ct)]; exact ct
                    have cf2 : wx.frozen? ⟨wo.heap.size, 0, none⟩ = false := by rw [hbel.out.frozen (block_lt_of_cell ct)]; exact cf
                    go_wp2
                    exact ⟨rfl, undef, { hJ with pre := fun h => absurd h (by simp [Region.upd]), post := fun _ => ⟨wx, hbel.out, rfl⟩ }⟩
                case done =>
                  intro d ys wx hJ hall
                  obtain ⟨wy, hby, rfl⟩ := hJ.post (hall 24 (by simp))
                  have HBY := Lib.hid hby
                  clear hby hJ hall
                  simp only [Region.fill, Region.slots, List.filterMap_cons, List.filterMap_nil, id, List.foldl_cons, List.foldl_nil, Act.put, List.setIfInBounds_toArray, List.set_cons_succ, List.set_cons_zero]
                  go_wp2
                  go_roundw
                  case rel => exact ⟨1, by go_num, by omega, ((HTT.out.below (by omega) HBY.out).set (by omega) HV.out), (HBI.out.trans (HBY.out.mono HBI.out.size)).setCell (Nat.le_refl _) _⟩
                  case measure => simp [intOf]
              | succ j =>
                have l9 : (0 : Int) < (j : Int) + 1 := by omega
                have l8 : (j : Int) < (r.length : Int) + 1 := by omega
                have cb : wr.cell? ⟨g, j, none⟩ = some (.bool (f j)) := (HBT.out.below (Nat.le_refl _) hBi).2 j (by omega)
                cases hf : f j with
                | false =>
                  rw [hf] at cb
                  have HV : Hid ((false && false) = stepB it r f (j + 1)) := by show _ = _; simp [stepB, hk1, hf]
                  clear hT hBi hf hk1
                  go_upto_region 16 with fail
                  refine Region.wp_region_each3 [some 71, some 72, some 73, some 74, some 75, some 76, some 77, some 78, some 79, some 80, some 81, some 82, some 83, some 84, some 85, some 86, some 87, some 88, some 89, some 90, some 91, some 92, some 93, some 94, none] (J16 wr (.slice (some ⟨g, 0, none⟩) (r.length + 1) (r.length + 1)) (.slice (some ⟨wo.heap.size, 0, none⟩) (r.length + 1) (r.length + 1)) (.slice (some ⟨gi, 0, none⟩) its.length vc) (.slice ra r.length rcap) (.bool false) (i : Int) ((j : Int) + 1) (j : Int) 0 ⟨g, j, none⟩ ⟨gi, i * 4, none⟩ ⟨g, 0, none⟩ ⟨wo.heap.size, j + 1, none⟩ true false false) (by kernel_rfl) (by kernel_rfl) (by simp [Region.slots]) ?start ?each ?done
                  case start => exact { pre := fun _ => (Below.refl _ _).drew, s0 := by simp, s1 := by simp, s2 := by simp, s3 := by simp, s4 := by simp, s5 := by simp, s6 := by simp, s7 := by simp, s8 := by simp, s9 := by simp, s10 := by simp, s11 := by simp, s12 := by simp, s13 := by simp, s14 := by simp, s15 := by simp, s16 := by simp, s17 := by simp, s18 := by simp, s19 := by simp, s20 := by simp, s21 := by simp, s22 := by simp, s23 := by simp, post := by simp }
                  case each =>
                    simp only [Region.Each2]
                    refine ⟨?o0, ?o1, ?o2, ?o3, ?o4, ?o5, ?o6, ?o7, ?o8, ?o9, ?o10, ?o11, ?o12, ?o13, ?o14, ?o15, ?o16, ?o17, ?o18, ?o19, ?o20, ?o21, ?o22, ?o23, ?o24, trivial⟩
                    case o0 =>
                      intro d ys wx hJ hd hw hdep
                      have h24 : d 24 = false := hw 24 (by kernel_rfl)
                      have hbel := Lib.hid (hJ.pre h24)
                      simp only [Region.fill, Region.slots, List.filterMap_cons, List.filterMap_nil, id, List.foldl_cons, List.foldl_nil, Act.put, List.setIfInBounds_toArray, List.set_cons_succ, List.set_cons_zero]
                      go_wp2
                      exact ⟨_, rfl, { hJ with s0 := fun _ => by first | rfl | (simp; done) | (simp; omega) }⟩
                    case o1 =>
                      intro d ys wx hJ hd hw hdep
                      have h24 : d 24 = false := hw 24 (by kernel_rfl)
                      have hbel := Lib.hid (hJ.pre h24)
                      simp only [Region.fill, Region.slots, List.filterMap_cons, List.filterMap_nil, id, List.foldl_cons, List.foldl_nil, Act.put, List.setIfInBounds_toArray, List.set_cons_succ, List.set_cons_zero]
                      go_wp2
                      exact ⟨_, rfl, { hJ with s1 := fun _ => by first | rfl | (simp; done) | (simp; omega) }⟩
                    case o2 =>
                      intro d ys wx hJ hd hw hdep
                      have h24 : d 24 = false := hw 24 (by kernel_rfl)
                      have hbel := Lib.hid (hJ.pre h24)
                      simp only [Region.fill, Region.slots, List.filterMap_cons, List.filterMap_nil, id, List.foldl_cons, List.foldl_nil, Act.put, List.setIfInBounds_toArray, List.set_cons_succ, List.set_cons_zero]
                      go_wp2
                      exact ⟨_, rfl, { hJ with s2 := fun _ => by first | rfl | (simp; done) | (simp; omega) }⟩
                    case o3 =>
                      intro d ys wx hJ hd hw hdep
                      have h24 : d 24 = false := hw 24 (by kernel_rfl)
                      have hbel := Lib.hid (hJ.pre h24)
                      have h2 : d 2 = true := by simp [Region.Deps2, Go.Region.binds] at hdep; simp [hdep]
                      simp only [Region.fill, Region.slots, List.filterMap_cons, List.filterMap_nil, id, List.foldl_cons, List.foldl_nil, Act.put, List.setIfInBounds_toArray, List.set_cons_succ, List.set_cons_zero, hJ.s2 h2]
                      go_wp2
                      exact ⟨_, rfl, { hJ with s3 := fun _ => by first | rfl | (simp; done) | (simp; omega) }⟩
                    case o4 =>
                      intro d ys wx hJ hd hw hdep
                      have h24 : d 24 = false := hw 24 (by kernel_rfl)
                      have hbel := Lib.hid (hJ.pre h24)
                      have h3 : d 3 = true := by simp [Region.Deps2, Go.Region.binds] at hdep; simp [hdep]
                      simp only [Region.fill, Region.slots, List.filterMap_cons, List.filterMap_nil, id, List.foldl_cons, List.foldl_nil, Act.put, List.setIfInBounds_toArray, List.set_cons_succ, List.set_cons_zero, hJ.s3 h3]
                      go_wp2
                      exact ⟨_, rfl, { hJ with s4 := fun _ => by first | rfl | (simp; done) | (simp; omega) }⟩
                    case o5 =>
                      intro d ys wx hJ hd hw hdep
                      have h24 : d 24 = false := hw 24 (by kernel_rfl)
                      have hbel := Lib.hid (hJ.pre h24)
                      have h4 : d 4 = true := by simp [Region.Deps2, Go.Region.binds] at hdep; simp [hdep]
                      simp only [Region.fill, Region.slots, List.filterMap_cons, List.filterMap_nil, id, List.foldl_cons, List.foldl_nil, Act.put, List.setIfInBounds_toArray, List.set_cons_succ, List.set_cons_zero, hJ.s4 h4]
                      go_wp2
                      exact ⟨_, rfl, { hJ with s5 := fun _ _ => by first | rfl | (simp; done) | (simp; omega) }⟩
                    case o6 =>
                      intro d ys wx hJ hd hw hdep
                      have h24 : d 24 = false := hw 24 (by kernel_rfl)
                      have hbel := Lib.hid (hJ.pre h24)
                      have h4 : d 4 = true := by simp [Region.Deps2, Go.Region.binds] at hdep; simp [hdep]
                      simp only [Region.fill, Region.slots, List.filterMap_cons, List.filterMap_nil, id, List.foldl_cons, List.foldl_nil, Act.put, List.setIfInBounds_toArray, List.set_cons_succ, List.set_cons_zero, hJ.s4 h4]
                      go_wp2
                      exact ⟨_, rfl, { hJ with s6 := fun _ _ => by first | rfl | (simp; done) | (simp; omega) }⟩
                    case o7 =>
                      intro d ys wx hJ hd hw hdep
                      have h24 : d 24 = false := hw 24 (by kernel_rfl)
                      have hbel := Lib.hid (hJ.pre h24)
                      have h4 : d 4 = true := by simp [Region.Deps2, Go.Region.binds] at hdep; simp [hdep]
                      have h6 : d 6 = true := by simp [Region.Deps2, Go.Region.binds] at hdep; simp [hdep]
                      simp only [Region.fill, Region.slots, List.filterMap_cons, List.filterMap_nil, id, List.foldl_cons, List.foldl_nil, Act.put, List.setIfInBounds_toArray, List.set_cons_succ, List.set_cons_zero, hJ.s4 h4, hJ.s6 h6 rfl]
                      go_wp2
                      exact ⟨_, rfl, { hJ with s7 := fun _ _ => by first | rfl | (simp; done) | (simp; omega) }⟩
                    case o8 =>
                      intro d ys wx hJ hd hw hdep
                      have h24 : d 24 = false := hw 24 (by kernel_rfl)
                      have hbel := Lib.hid (hJ.pre h24)
                      have h4 : d 4 = true := by simp [Region.Deps2, Go.Region.binds] at hdep; simp [hdep]
                      have h5 : d 5 = true := by simp [Region.Deps2, Go.Region.binds] at hdep; simp [hdep]
                      have h7 : d 7 = true := by simp [Region.Deps2, Go.Region.binds] at hdep; simp [hdep]
                      have l8' := l8
                      simp only [Region.fill, Region.slots, List.filterMap_cons, List.filterMap_nil, id, List.foldl_cons, List.foldl_nil, Act.put, List.setIfInBounds_toArray, List.set_cons_succ, List.set_cons_zero, hJ.s4 h4, hJ.s5 h5 rfl, hJ.s7 h7 rfl]
                      go_wp2
                      exact ⟨_, rfl, { hJ with s8 := fun _ _ => by first | rfl | (simp; done) | (simp; omega) }⟩
                    case o9 =>
                      intro d ys wx hJ hd hw hdep
                      have h24 : d 24 = false := hw 24 (by kernel_rfl)
                      have hbel := Lib.hid (hJ.pre h24)
                      have h4 : d 4 = true := by simp [Region.Deps2, Go.Region.binds] at hdep; simp [hdep]
                      have h8 : d 8 = true := by simp [Region.Deps2, Go.Region.binds] at hdep; simp [hdep]
                      have ca2 : wx.cell? ⟨g, j, none⟩ = some (.bool false) := by rw [hbel.out.cell (block_lt_of_cell cb)]; exact cb
                      simp only [Region.fill, Region.slots, List.filterMap_cons, List.filterMap_nil, id, List.foldl_cons, List.foldl_nil, Act.put, List.setIfInBounds_toArray, List.set_cons_succ, List.set_cons_zero, hJ.s4 h4, hJ.s8 h8 rfl]
                      go_wp2
                      exact ⟨_, rfl, { hJ with s9 := fun _ _ => by first | rfl | (simp; done) | (simp; omega) }⟩
                    case o10 =>
                      intro d ys wx hJ hd hw hdep
                      have h24 : d 24 = false := hw 24 (by kernel_rfl)
                      have hbel := Lib.hid (hJ.pre h24)
                      have h4 : d 4 = true := by simp [Region.Deps2, Go.Region.binds] at hdep; simp [hdep]
                      have h9 : d 9 = true := by simp [Region.Deps2, Go.Region.binds] at hdep; simp [hdep]
                      simp only [Region.fill, Region.slots, List.filterMap_cons, List.filterMap_nil, id, List.foldl_cons, List.foldl_nil, Act.put, List.setIfInBounds_toArray, List.set_cons_succ, List.set_cons_zero, hJ.s4 h4, hJ.s9 h9 rfl]
                      go_wp2
                      exact ⟨_, rfl, { hJ with s10 := fun _ => by first | rfl | (simp; done) | (simp; omega) }⟩
                    case o11 =>
                      intro d ys wx hJ hd hw hdep
                      have h24 : d 24 = false := hw 24 (by kernel_rfl)
                      have hbel := Lib.hid (hJ.pre h24)
                      have h10 : d 10 = true := by simp [Region.Deps2, Go.Region.binds] at hdep; simp [hdep]
                      simp only [Region.fill, Region.slots, List.filterMap_cons, List.filterMap_nil, id, List.foldl_cons, List.foldl_nil, Act.put, List.setIfInBounds_toArray, List.set_cons_succ, List.set_cons_zero, hJ.s10 h10]
                      go_wp2
                      exact ⟨_, rfl, { hJ with s11 := fun _ => by first | rfl | (simp; done) | (simp; omega) }⟩
                    case o12 =>
                      intro d ys wx hJ hd hw hdep
                      have h24 : d 24 = false := hw 24 (by kernel_rfl)
                      have hbel := Lib.hid (hJ.pre h24)
                      have h11 : d 11 = true := by simp [Region.Deps2, Go.Region.binds] at hdep; simp [hdep]
                      simp only [Region.fill, Region.slots, List.filterMap_cons, List.filterMap_nil, id, List.foldl_cons, List.foldl_nil, Act.put, List.setIfInBounds_toArray, List.set_cons_succ, List.set_cons_zero, hJ.s11 h11]
                      go_wp2
                      exact ⟨_, rfl, { hJ with s12 := fun _ h => by cases h }⟩
                    case o13 =>
                      intro d ys wx hJ hd hw hdep
                      have h24 : d 24 = false := hw 24 (by kernel_rfl)
                      have hbel := Lib.hid (hJ.pre h24)
                      have h11 : d 11 = true := by simp [Region.Deps2, Go.Region.binds] at hdep; simp [hdep]
                      simp only [Region.fill, Region.slots, List.filterMap_cons, List.filterMap_nil, id, List.foldl_cons, List.foldl_nil, Act.put, List.setIfInBounds_toArray, List.set_cons_succ, List.set_cons_zero, hJ.s11 h11]
                      go_wp2
                      exact ⟨_, rfl, { hJ with s13 := fun _ h => by cases h }⟩
                    case o14 =>
                      intro d ys wx hJ hd hw hdep
                      have h24 : d 24 = false := hw 24 (by kernel_rfl)
                      have hbel := Lib.hid (hJ.pre h24)
                      have h11 : d 11 = true := by simp [Region.Deps2, Go.Region.binds] at hdep; simp [hdep]
                      simp only [Region.fill, Region.slots, List.filterMap_cons, List.filterMap_nil, id, List.foldl_cons, List.foldl_nil, Act.put, List.setIfInBounds_toArray, List.set_cons_succ, List.set_cons_zero, hJ.s11 h11]
                      go_wp2
                      exact ⟨_, rfl, { hJ with s14 := fun _ h => by cases h }⟩
                    case o15 =>
                      intro d ys wx hJ hd hw hdep
                      have h24 : d 24 = false := hw 24 (by kernel_rfl)
                      have hbel := Lib.hid (hJ.pre h24)
                      have h11 : d 11 = true := by simp [Region.Deps2, Go.Region.binds] at hdep; simp [hdep]
                      simp only [Region.fill, Region.slots, List.filterMap_cons, List.filterMap_nil, id, List.foldl_cons, List.foldl_nil, Act.put, List.setIfInBounds_toArray, List.set_cons_succ, List.set_cons_zero, hJ.s11 h11]
                      go_wp2
                      exact ⟨_, rfl, { hJ with s15 := fun _ h => by cases h }⟩
                    case o16 =>
                      intro d ys wx hJ hd hw hdep
                      have h24 : d 24 = false := hw 24 (by kernel_rfl)
                      have hbel := Lib.hid (hJ.pre h24)
                      have h11 : d 11 = true := by simp [Region.Deps2, Go.Region.binds] at hdep; simp [hdep]
                      simp only [Region.fill, Region.slots, List.filterMap_cons, List.filterMap_nil, id, List.foldl_cons, List.foldl_nil, Act.put, List.setIfInBounds_toArray, List.set_cons_succ, List.set_cons_zero, hJ.s11 h11]
                      go_wp2
                      exact ⟨_, rfl, { hJ with s16 := fun _ h => by cases h }⟩
                    case o17 =>
                      intro d ys wx hJ hd hw hdep
                      have h24 : d 24 = false := hw 24 (by kernel_rfl)
                      have hbel := Lib.hid (hJ.pre h24)
                      have h11 : d 11 = true := by simp [Region.Deps2, Go.Region.binds] at hdep; simp [hdep]
                      simp only [Region.fill, Region.slots, List.filterMap_cons, List.filterMap_nil, id, List.foldl_cons, List.foldl_nil, Act.put, List.setIfInBounds_toArray, List.set_cons_succ, List.set_cons_zero, hJ.s11 h11]
                      go_wp2
                      exact ⟨_, rfl, { hJ with s17 := fun _ h => by cases h }⟩
                    case o18 =>
                      intro d ys wx hJ hd hw hdep
                      have h24 : d 24 = false := hw 24 (by kernel_rfl)
                      have hbel := Lib.hid (hJ.pre h24)
                      have h11 : d 11 = true := by simp [Region.Deps2, Go.Region.binds] at hdep; simp [hdep]
                      simp only [Region.fill, Region.slots, List.filterMap_cons, List.filterMap_nil, id, List.foldl_cons, List.foldl_nil, Act.put, List.setIfInBounds_toArray, List.set_cons_succ, List.set_cons_zero, hJ.s11 h11]
                      go_wp2
                      exact ⟨_, rfl, { hJ with s18 := fun _ h => by cases h }⟩
                    case o19 =>
                      intro d ys wx hJ hd hw hdep
                      have h24 : d 24 = false := hw 24 (by kernel_rfl)
                      have hbel := Lib.hid (hJ.pre h24)
                      have h11 : d 11 = true := by simp [Region.Deps2, Go.Region.binds] at hdep; simp [hdep]
                      simp only [Region.fill, Region.slots, List.filterMap_cons, List.filterMap_nil, id, List.foldl_cons, List.foldl_nil, Act.put, List.setIfInBounds_toArray, List.set_cons_succ, List.set_cons_zero, hJ.s11 h11]
                      go_wp2
                      exact ⟨_, rfl, { hJ with s19 := fun _ h => by cases h }⟩
                    case o20 =>
                      intro d ys wx hJ hd hw hdep
                      have h24 : d 24 = false := hw 24 (by kernel_rfl)
                      have hbel := Lib.hid (hJ.pre h24)
                      have h11 : d 11 = true := by simp [Region.Deps2, Go.Region.binds] at hdep; simp [hdep]
                      simp only [Region.fill, Region.slots, List.filterMap_cons, List.filterMap_nil, id, List.foldl_cons, List.foldl_nil, Act.put, List.setIfInBounds_toArray, List.set_cons_succ, List.set_cons_zero, hJ.s11 h11]
                      go_wp2
                      exact ⟨_, rfl, { hJ with s20 := fun _ h => by cases h }⟩
                    case o21 =>
                      intro d ys wx hJ hd hw hdep
                      have h24 : d 24 = false := hw 24 (by kernel_rfl)
                      have hbel := Lib.hid (hJ.pre h24)
                      have h11 : d 11 = true := by simp [Region.Deps2, Go.Region.binds] at hdep; simp [hdep]
                      simp only [Region.fill, Region.slots, List.filterMap_cons, List.filterMap_nil, id, List.foldl_cons, List.foldl_nil, Act.put, List.setIfInBounds_toArray, List.set_cons_succ, List.set_cons_zero, hJ.s11 h11]
                      go_wp2
                      exact ⟨_, rfl, { hJ with s21 := fun _ h => by cases h }⟩
                    case o22 =>
                      intro d ys wx hJ hd hw hdep
                      have h24 : d 24 = false := hw 24 (by kernel_rfl)
                      have hbel := Lib.hid (hJ.pre h24)
                      have h11 : d 11 = true := by simp [Region.Deps2, Go.Region.binds] at hdep; simp [hdep]
                      simp only [Region.fill, Region.slots, List.filterMap_cons, List.filterMap_nil, id, List.foldl_cons, List.foldl_nil, Act.put, List.setIfInBounds_toArray, List.set_cons_succ, List.set_cons_zero, hJ.s11 h11]
                      go_wp2
                      exact ⟨_, rfl, { hJ with s22 := fun _ => by first | rfl | (simp; done) | (simp; omega) }⟩
                    case o23 =>
                      intro d ys wx hJ hd hw hdep
                      have h24 : d 24 = false := hw 24 (by kernel_rfl)
                      have hbel := Lib.hid (hJ.pre h24)
                      have h0 : d 0 = true := by simp [Region.Deps2, Go.Region.binds] at hdep; simp [hdep]
                      have h1 : d 1 = true := by simp [Region.Deps2, Go.Region.binds] at hdep; simp [hdep]
                      simp only [Region.fill, Region.slots, List.filterMap_cons, List.filterMap_nil, id, List.foldl_cons, List.foldl_nil, Act.put, List.setIfInBounds_toArray, List.set_cons_succ, List.set_cons_zero, hJ.s0 h0, hJ.s1 h1]
                      go_wp2
                      exact ⟨_, rfl, { hJ with s23 := fun _ => by first | rfl | (simp; done) | (simp; omega) }⟩
                    case o24 =>
                      intro d ys wx hJ hd hw hdep
                      have hbel := Lib.hid (hJ.pre hd)
                      have h22 : d 22 = true := by simp [Region.Deps2, Go.Region.binds] at hdep; simp [hdep]
                      have h23 : d 23 = true := by simp [Region.Deps2, Go.Region.binds] at hdep; simp [hdep]
                      simp only [Region.fill, Region.slots, List.filterMap_cons, List.filterMap_nil, id, List.foldl_cons, List.foldl_nil, Act.put, List.setIfInBounds_toArray, List.set_cons_succ, List.set_cons_zero, hJ.s22 h22, hJ.s23 h23]
                      have ct2 : wx.cell? ⟨wo.heap.size, j + 1, none⟩ = some (.bool bt) := by rw [hbel.out.cell (block_lt_of_cell ct)]; exact ct
                      have cf2 : wx.frozen? ⟨wo.heap.size, j + 1, none⟩ = false := by rw [hbel.out.frozen (block_lt_of_cell ct)]; exact cf
                      go_wp2
                      exact ⟨rfl, undef, { hJ with pre := fun h => absurd h (by simp [Region.upd]), post := fun _ => ⟨wx, hbel.out, rfl⟩ }⟩
                  case done =>
                    intro d ys wx hJ hall
                    obtain ⟨wy, hby, rfl⟩ := hJ.post (hall 24 (by simp))
                    have HBY := Lib.hid hby
                    clear hby hJ hall
                    simp only [Region.fill, Region.slots, List.filterMap_cons, List.filterMap_nil, id, List.foldl_cons, List.foldl_nil, Act.put, List.setIfInBounds_toArray, List.set_cons_succ, List.set_cons_zero]
                    go_wp2
                    go_roundw
                    case rel => exact ⟨j + 2, by go_num, by omega, ((HTT.out.below (by omega) HBY.out).set (by omega) HV.out), (HBI.out.trans (HBY.out.mono HBI.out.size)).setCell (Nat.le_refl _) _⟩
                    case measure => simp [intOf]; omega
                | true =>
                  rw [hf] at cb
                  have hjr : j < r.length := by omega
                  have l7 : (j : Int) < (r.length : Int) := by omega
                  obtain ⟨gr, rfl, cr⟩ := ((HCA.out.below HBR.out).below hBi).at (ns_at r j hjr)
                  have HV : Hid ((true && hasI it r[j]) = stepB it r f (j + 1)) := by show _ = _; simp [stepB, hk1, hf, hjr]
                  generalize r[j] = rj at cr HV
                  have k1 : wr.cell? ⟨gi, i * 4 + 1, none⟩ = some (.bool it.neg) := by rw [hBi.cell (block_lt_of_cell HK1.out)]; exact HK1.out
                  have hm1 := HM1.out.below hBi
                  have hm2 := HM3.out.below hBi
                  obtain ⟨pp, rfl⟩ := mine_slice hm1
                  obtain ⟨pq, rfl⟩ := mine_slice hm2
                  have k2 : wr.cell? ⟨gi, i * 4 + 2, none⟩ = some (.slice pp.1 pp.2.1 pp.2.2) := by rw [hBi.cell (block_lt_of_cell HK2.out)]; exact HK2.out
                  have k3 : wr.cell? ⟨gi, i * 4 + 3, none⟩ = some (.slice pq.1 pq.2.1 pq.2.2) := by rw [hBi.cell (block_lt_of_cell HK3.out)]; exact HK3.out
                  clear hT hBi hf hk1
                  go_upto_region 16 with fail
                  refine Region.wp_region_each3 [some 71, some 72, some 73, some 74, some 75, some 76, some 77, some 78, some 79, some 80, some 81, some 82, some 83, some 84, some 85, some 86, some 87, some 88, some 89, some 90, some 91, some 92, some 93, some 94, none] (J16 wr (.slice (some ⟨g, 0, none⟩) (r.length + 1) (r.length + 1)) (.slice (some ⟨wo.heap.size, 0, none⟩) (r.length + 1) (r.length + 1)) (.slice (some ⟨gi, 0, none⟩) its.length vc) (.slice (some ⟨gr, 0, none⟩) r.length rcap) (.agg #[.int .i64 (it.kind : Int), .bool it.neg, .slice pp.1 pp.2.1 pp.2.2, .slice pq.1 pq.2.1 pq.2.2]) (i : Int) ((j : Int) + 1) (j : Int) (rj : Int) ⟨g, j, none⟩ ⟨gi, i * 4, none⟩ ⟨gr, j, none⟩ ⟨wo.heap.size, j + 1, none⟩ true true (hasI it rj)) (by kernel_rfl) (by kernel_rfl) (by simp [Region.slots]) ?start ?each ?done
                  case start => exact { pre := fun _ => (Below.refl _ _).drew, s0 := by simp, s1 := by simp, s2 := by simp, s3 := by simp, s4 := by simp, s5 := by simp, s6 := by simp, s7 := by simp, s8 := by simp, s9 := by simp, s10 := by simp, s11 := by simp, s12 := by simp, s13 := by simp, s14 := by simp, s15 := by simp, s16 := by simp, s17 := by simp, s18 := by simp, s19 := by simp, s20 := by simp, s21 := by simp, s22 := by simp, s23 := by simp, post := by simp }
                  case each =>
                    simp only [Region.Each2]
                    refine ⟨?o0, ?o1, ?o2, ?o3, ?o4, ?o5, ?o6, ?o7, ?o8, ?o9, ?o10, ?o11, ?o12, ?o13, ?o14, ?o15, ?o16, ?o17, ?o18, ?o19, ?o20, ?o21, ?o22, ?o23, ?o24, trivial⟩
                    case o0 =>
                      intro d ys wx hJ hd hw hdep
                      have h24 : d 24 = false := hw 24 (by kernel_rfl)
                      have hbel := Lib.hid (hJ.pre h24)
                      simp only [Region.fill, Region.slots, List.filterMap_cons, List.filterMap_nil, id, List.foldl_cons, List.foldl_nil, Act.put, List.setIfInBounds_toArray, List.set_cons_succ, List.set_cons_zero]
                      go_wp2
                      exact ⟨_, rfl, { hJ with s0 := fun _ => by first | rfl | (simp; done) | (simp; omega) }⟩
                    case o1 =>
                      intro d ys wx hJ hd hw hdep
                      have h24 : d 24 = false := hw 24 (by kernel_rfl)
                      have hbel := Lib.hid (hJ.pre h24)
                      simp only [Region.fill, Region.slots, List.filterMap_cons, List.filterMap_nil, id, List.foldl_cons, List.foldl_nil, Act.put, List.setIfInBounds_toArray, List.set_cons_succ, List.set_cons_zero]
                      go_wp2
                      exact ⟨_, rfl, { hJ with s1 := fun _ => by first | rfl | (simp; done) | (simp; omega) }⟩
                    case o2 =>
                      intro d ys wx hJ hd hw hdep
                      have h24 : d 24 = false := hw 24 (by kernel_rfl)
                      have hbel := Lib.hid (hJ.pre h24)
                      simp only [Region.fill, Region.slots, List.filterMap_cons, List.filterMap_nil, id, List.foldl_cons, List.foldl_nil, Act.put, List.setIfInBounds_toArray, List.set_cons_succ, List.set_cons_zero]
                      go_wp2
                      exact ⟨_, rfl, { hJ with s2 := fun _ => by first | rfl | (simp; done) | (simp; omega) }⟩
                    case o3 =>
                      intro d ys wx hJ hd hw hdep
                      have h24 : d 24 = false := hw 24 (by kernel_rfl)
                      have hbel := Lib.hid (hJ.pre h24)
                      have h2 : d 2 = true := by simp [Region.Deps2, Go.Region.binds] at hdep; simp [hdep]
                      simp only [Region.fill, Region.slots, List.filterMap_cons, List.filterMap_nil, id, List.foldl_cons, List.foldl_nil, Act.put, List.setIfInBounds_toArray, List.set_cons_succ, List.set_cons_zero, hJ.s2 h2]
                      go_wp2
                      exact ⟨_, rfl, { hJ with s3 := fun _ => by first | rfl | (simp; done) | (simp; omega) }⟩
                    case o4 =>
                      intro d ys wx hJ hd hw hdep
                      have h24 : d 24 = false := hw 24 (by kernel_rfl)
                      have hbel := Lib.hid (hJ.pre h24)
                      have h3 : d 3 = true := by simp [Region.Deps2, Go.Region.binds] at hdep; simp [hdep]
                      simp only [Region.fill, Region.slots, List.filterMap_cons, List.filterMap_nil, id, List.foldl_cons, List.foldl_nil, Act.put, List.setIfInBounds_toArray, List.set_cons_succ, List.set_cons_zero, hJ.s3 h3]
                      go_wp2
                      exact ⟨_, rfl, { hJ with s4 := fun _ => by first | rfl | (simp; done) | (simp; omega) }⟩
                    case o5 =>
                      intro d ys wx hJ hd hw hdep
                      have h24 : d 24 = false := hw 24 (by kernel_rfl)
                      have hbel := Lib.hid (hJ.pre h24)
                      have h4 : d 4 = true := by simp [Region.Deps2, Go.Region.binds] at hdep; simp [hdep]
                      simp only [Region.fill, Region.slots, List.filterMap_cons, List.filterMap_nil, id, List.foldl_cons, List.foldl_nil, Act.put, List.setIfInBounds_toArray, List.set_cons_succ, List.set_cons_zero, hJ.s4 h4]
                      go_wp2
                      exact ⟨_, rfl, { hJ with s5 := fun _ _ => by first | rfl | (simp; done) | (simp; omega) }⟩
                    case o6 =>
                      intro d ys wx hJ hd hw hdep
                      have h24 : d 24 = false := hw 24 (by kernel_rfl)
                      have hbel := Lib.hid (hJ.pre h24)
                      have h4 : d 4 = true := by simp [Region.Deps2, Go.Region.binds] at hdep; simp [hdep]
                      simp only [Region.fill, Region.slots, List.filterMap_cons, List.filterMap_nil, id, List.foldl_cons, List.foldl_nil, Act.put, List.setIfInBounds_toArray, List.set_cons_succ, List.set_cons_zero, hJ.s4 h4]
                      go_wp2
                      exact ⟨_, rfl, { hJ with s6 := fun _ _ => by first | rfl | (simp; done) | (simp; omega) }⟩
                    case o7 =>
                      intro d ys wx hJ hd hw hdep
                      have h24 : d 24 = false := hw 24 (by kernel_rfl)
                      have hbel := Lib.hid (hJ.pre h24)
                      have h4 : d 4 = true := by simp [Region.Deps2, Go.Region.binds] at hdep; simp [hdep]
                      have h6 : d 6 = true := by simp [Region.Deps2, Go.Region.binds] at hdep; simp [hdep]
                      simp only [Region.fill, Region.slots, List.filterMap_cons, List.filterMap_nil, id, List.foldl_cons, List.foldl_nil, Act.put, List.setIfInBounds_toArray, List.set_cons_succ, List.set_cons_zero, hJ.s4 h4, hJ.s6 h6 rfl]
                      go_wp2
                      exact ⟨_, rfl, { hJ with s7 := fun _ _ => by first | rfl | (simp; done) | (simp; omega) }⟩
                    case o8 =>
                      intro d ys wx hJ hd hw hdep
                      have h24 : d 24 = false := hw 24 (by kernel_rfl)
                      have hbel := Lib.hid (hJ.pre h24)
                      have h4 : d 4 = true := by simp [Region.Deps2, Go.Region.binds] at hdep; simp [hdep]
                      have h5 : d 5 = true := by simp [Region.Deps2, Go.Region.binds] at hdep; simp [hdep]
                      have h7 : d 7 = true := by simp [Region.Deps2, Go.Region.binds] at hdep; simp [hdep]
                      have l8' := l8
                      simp only [Region.fill, Region.slots, List.filterMap_cons, List.filterMap_nil, id, List.foldl_cons, List.foldl_nil, Act.put, List.setIfInBounds_toArray, List.set_cons_succ, List.set_cons_zero, hJ.s4 h4, hJ.s5 h5 rfl, hJ.s7 h7 rfl]
                      go_wp2
                      exact ⟨_, rfl, { hJ with s8 := fun _ _ => by first | rfl | (simp; done) | (simp; omega) }⟩
                    case o9 =>
                      intro d ys wx hJ hd hw hdep
                      have h24 : d 24 = false := hw 24 (by kernel_rfl)
                      have hbel := Lib.hid (hJ.pre h24)
                      have h4 : d 4 = true := by simp [Region.Deps2, Go.Region.binds] at hdep; simp [hdep]
                      have h8 : d 8 = true := by simp [Region.Deps2, Go.Region.binds] at hdep; simp [hdep]
                      have ca2 : wx.cell? ⟨g, j, none⟩ = some (.bool true) := by rw [hbel.out.cell (block_lt_of_cell cb)]; exact cb
                      simp only [Region.fill, Region.slots, List.filterMap_cons, List.filterMap_nil, id, List.foldl_cons, List.foldl_nil, Act.put, List.setIfInBounds_toArray, List.set_cons_succ, List.set_cons_zero, hJ.s4 h4, hJ.s8 h8 rfl]
                      go_wp2
                      exact ⟨_, rfl, { hJ with s9 := fun _ _ => by first | rfl | (simp; done) | (simp; omega) }⟩
                    case o10 =>
                      intro d ys wx hJ hd hw hdep
                      have h24 : d 24 = false := hw 24 (by kernel_rfl)
                      have hbel := Lib.hid (hJ.pre h24)
                      have h4 : d 4 = true := by simp [Region.Deps2, Go.Region.binds] at hdep; simp [hdep]
                      have h9 : d 9 = true := by simp [Region.Deps2, Go.Region.binds] at hdep; simp [hdep]
                      simp only [Region.fill, Region.slots, List.filterMap_cons, List.filterMap_nil, id, List.foldl_cons, List.foldl_nil, Act.put, List.setIfInBounds_toArray, List.set_cons_succ, List.set_cons_zero, hJ.s4 h4, hJ.s9 h9 rfl]
                      go_wp2
                      exact ⟨_, rfl, { hJ with s10 := fun _ => by first | rfl | (simp; done) | (simp; omega) }⟩
                    case o11 =>
                      intro d ys wx hJ hd hw hdep
                      have h24 : d 24 = false := hw 24 (by kernel_rfl)
                      have hbel := Lib.hid (hJ.pre h24)
                      have h10 : d 10 = true := by simp [Region.Deps2, Go.Region.binds] at hdep; simp [hdep]
                      simp only [Region.fill, Region.slots, List.filterMap_cons, List.filterMap_nil, id, List.foldl_cons, List.foldl_nil, Act.put, List.setIfInBounds_toArray, List.set_cons_succ, List.set_cons_zero, hJ.s10 h10]
                      go_wp2
                      exact ⟨_, rfl, { hJ with s11 := fun _ => by first | rfl | (simp; done) | (simp; omega) }⟩
                    case o12 =>
                      intro d ys wx hJ hd hw hdep
                      have h24 : d 24 = false := hw 24 (by kernel_rfl)
                      have hbel := Lib.hid (hJ.pre h24)
                      have h11 : d 11 = true := by simp [Region.Deps2, Go.Region.binds] at hdep; simp [hdep]
                      simp only [Region.fill, Region.slots, List.filterMap_cons, List.filterMap_nil, id, List.foldl_cons, List.foldl_nil, Act.put, List.setIfInBounds_toArray, List.set_cons_succ, List.set_cons_zero, hJ.s11 h11]
                      go_wp2
                      exact ⟨_, rfl, { hJ with s12 := fun _ _ => by first | rfl | (simp; done) | (simp; omega) }⟩
                    case o13 =>
                      intro d ys wx hJ hd hw hdep
                      have h24 : d 24 = false := hw 24 (by kernel_rfl)
                      have hbel := Lib.hid (hJ.pre h24)
                      have h11 : d 11 = true := by simp [Region.Deps2, Go.Region.binds] at hdep; simp [hdep]
                      simp only [Region.fill, Region.slots, List.filterMap_cons, List.filterMap_nil, id, List.foldl_cons, List.foldl_nil, Act.put, List.setIfInBounds_toArray, List.set_cons_succ, List.set_cons_zero, hJ.s11 h11]
                      go_wp2
                      exact ⟨_, rfl, { hJ with s13 := fun _ _ => by first | rfl | (simp; done) | (simp; omega) }⟩
                    case o14 =>
                      intro d ys wx hJ hd hw hdep
                      have h24 : d 24 = false := hw 24 (by kernel_rfl)
                      have hbel := Lib.hid (hJ.pre h24)
                      have h11 : d 11 = true := by simp [Region.Deps2, Go.Region.binds] at hdep; simp [hdep]
                      have h12 : d 12 = true := by simp [Region.Deps2, Go.Region.binds] at hdep; simp [hdep]
                      have h13 : d 13 = true := by simp [Region.Deps2, Go.Region.binds] at hdep; simp [hdep]
                      simp only [Region.fill, Region.slots, List.filterMap_cons, List.filterMap_nil, id, List.foldl_cons, List.foldl_nil, Act.put, List.setIfInBounds_toArray, List.set_cons_succ, List.set_cons_zero, hJ.s11 h11, hJ.s12 h12 rfl, hJ.s13 h13 rfl]
                      go_wp2
                      exact ⟨_, rfl, { hJ with s14 := fun _ _ => by first | rfl | (simp; done) | (simp; omega) }⟩
                    case o15 =>
                      intro d ys wx hJ hd hw hdep
                      have h24 : d 24 = false := hw 24 (by kernel_rfl)
                      have hbel := Lib.hid (hJ.pre h24)
                      have h11 : d 11 = true := by simp [Region.Deps2, Go.Region.binds] at hdep; simp [hdep]
                      have h14 : d 14 = true := by simp [Region.Deps2, Go.Region.binds] at hdep; simp [hdep]
                      have q0 : wx.cell? ⟨gi, i * 4, none⟩ = some (.int .i64 (it.kind : Int)) := by rw [hbel.out.cell (block_lt_of_cell k0)]; exact k0
                      have q1 : wx.cell? ⟨gi, i * 4 + 1, none⟩ = some (.bool it.neg) := by rw [hbel.out.cell (block_lt_of_cell k1)]; exact k1
                      have q2 : wx.cell? ⟨gi, i * 4 + 2, none⟩ = some (.slice pp.1 pp.2.1 pp.2.2) := by rw [hbel.out.cell (block_lt_of_cell k2)]; exact k2
                      have q3 : wx.cell? ⟨gi, i * 4 + 3, none⟩ = some (.slice pq.1 pq.2.1 pq.2.2) := by rw [hbel.out.cell (block_lt_of_cell k3)]; exact k3
                      simp only [Region.fill, Region.slots, List.filterMap_cons, List.filterMap_nil, id, List.foldl_cons, List.foldl_nil, Act.put, List.setIfInBounds_toArray, List.set_cons_succ, List.set_cons_zero, hJ.s11 h11, hJ.s14 h14 rfl]
                      go_wp2
                      exact ⟨_, rfl, { hJ with s15 := fun _ _ => by first | rfl | (simp; done) | (simp; omega) }⟩
                    case o16 =>
                      intro d ys wx hJ hd hw hdep
                      have h24 : d 24 = false := hw 24 (by kernel_rfl)
                      have hbel := Lib.hid (hJ.pre h24)
                      have h11 : d 11 = true := by simp [Region.Deps2, Go.Region.binds] at hdep; simp [hdep]
                      simp only [Region.fill, Region.slots, List.filterMap_cons, List.filterMap_nil, id, List.foldl_cons, List.foldl_nil, Act.put, List.setIfInBounds_toArray, List.set_cons_succ, List.set_cons_zero, hJ.s11 h11]
                      go_wp2
                      exact ⟨_, rfl, { hJ with s16 := fun _ _ => by first | rfl | (simp; done) | (simp; omega) }⟩
                    case o17 =>
                      intro d ys wx hJ hd hw hdep
                      have h24 : d 24 = false := hw 24 (by kernel_rfl)
                      have hbel := Lib.hid (hJ.pre h24)
                      have h11 : d 11 = true := by simp [Region.Deps2, Go.Region.binds] at hdep; simp [hdep]
                      simp only [Region.fill, Region.slots, List.filterMap_cons, List.filterMap_nil, id, List.foldl_cons, List.foldl_nil, Act.put, List.setIfInBounds_toArray, List.set_cons_succ, List.set_cons_zero, hJ.s11 h11]
                      go_wp2
                      exact ⟨_, rfl, { hJ with s17 := fun _ _ => by first | rfl | (simp; done) | (simp; omega) }⟩
                    case o18 =>
                      intro d ys wx hJ hd hw hdep
                      have h24 : d 24 = false := hw 24 (by kernel_rfl)
                      have hbel := Lib.hid (hJ.pre h24)
                      have h11 : d 11 = true := by simp [Region.Deps2, Go.Region.binds] at hdep; simp [hdep]
                      have h17 : d 17 = true := by simp [Region.Deps2, Go.Region.binds] at hdep; simp [hdep]
                      simp only [Region.fill, Region.slots, List.filterMap_cons, List.filterMap_nil, id, List.foldl_cons, List.foldl_nil, Act.put, List.setIfInBounds_toArray, List.set_cons_succ, List.set_cons_zero, hJ.s11 h11, hJ.s17 h17 rfl]
                      go_wp2
                      exact ⟨_, rfl, { hJ with s18 := fun _ _ => by first | rfl | (simp; done) | (simp; omega) }⟩
                    case o19 =>
                      intro d ys wx hJ hd hw hdep
                      have h24 : d 24 = false := hw 24 (by kernel_rfl)
                      have hbel := Lib.hid (hJ.pre h24)
                      have h11 : d 11 = true := by simp [Region.Deps2, Go.Region.binds] at hdep; simp [hdep]
                      have h16 : d 16 = true := by simp [Region.Deps2, Go.Region.binds] at hdep; simp [hdep]
                      have h18 : d 18 = true := by simp [Region.Deps2, Go.Region.binds] at hdep; simp [hdep]
                      simp only [Region.fill, Region.slots, List.filterMap_cons, List.filterMap_nil, id, List.foldl_cons, List.foldl_nil, Act.put, List.setIfInBounds_toArray, List.set_cons_succ, List.set_cons_zero, hJ.s11 h11, hJ.s16 h16 rfl, hJ.s18 h18 rfl]
                      go_wp2
                      exact ⟨_, rfl, { hJ with s19 := fun _ _ => by first | rfl | (simp; done) | (simp; omega) }⟩
                    case o20 =>
                      intro d ys wx hJ hd hw hdep
                      have h24 : d 24 = false := hw 24 (by kernel_rfl)
                      have hbel := Lib.hid (hJ.pre h24)
                      have h11 : d 11 = true := by simp [Region.Deps2, Go.Region.binds] at hdep; simp [hdep]
                      have h19 : d 19 = true := by simp [Region.Deps2, Go.Region.binds] at hdep; simp [hdep]
                      have cr2 : wx.cell? ⟨gr, j, none⟩ = some (.int .i64 (rj : Int)) := by rw [hbel.out.cell (block_lt_of_cell cr)]; exact cr
                      simp only [Region.fill, Region.slots, List.filterMap_cons, List.filterMap_nil, id, List.foldl_cons, List.foldl_nil, Act.put, List.setIfInBounds_toArray, List.set_cons_succ, List.set_cons_zero, hJ.s11 h11, hJ.s19 h19 rfl]
                      go_wp2
                      exact ⟨_, rfl, { hJ with s20 := fun _ _ => by first | rfl | (simp; done) | (simp; omega) }⟩
                    case o21 =>
                      intro d ys wx hJ hd hw hdep
                      have h24 : d 24 = false := hw 24 (by kernel_rfl)
                      have hbel := Lib.hid (hJ.pre h24)
                      have h11 : d 11 = true := by simp [Region.Deps2, Go.Region.binds] at hdep; simp [hdep]
                      have h15 : d 15 = true := by simp [Region.Deps2, Go.Region.binds] at hdep; simp [hdep]
                      have h20 : d 20 = true := by simp [Region.Deps2, Go.Region.binds] at hdep; simp [hdep]
                      have hcj : ((j + 1 : Nat) : Int) = (j : Int) + 1 := by omega
                      have hdec : decide ((j : Int) + 1 ≤ (r.length : Int)) = true := by simp; omega
                      simp only [Region.fill, Region.slots, List.filterMap_cons, List.filterMap_nil, id, List.foldl_cons, List.foldl_nil, Act.put, List.setIfInBounds_toArray, List.set_cons_succ, List.set_cons_zero, List.getD_cons_succ, List.getD_cons_zero, hcj, hdec, hJ.s11 h11, hJ.s15 h15 rfl, hJ.s20 h20 rfl]
                      clear hcj
                      go_wp2_with fail
                      go_at_call 25
                      with_reducible refine (has_any it pp pq rj _ (hm1.below (hbel.out)) (hm2.below (hbel.out)) hsl).mono ?_
                      rintro e w5 ⟨rfl, hn⟩
                      go_wp2
                      exact ⟨_, rfl, { hJ with pre := fun _ => hbel.out.trans (hn.mono hbel.out.size), s21 := fun _ _ => rfl, post := fun h => absurd (show d 24 = true from h) (by rw [h24]; simp) }⟩
                    case o22 =>
                      intro d ys wx hJ hd hw hdep
                      have h24 : d 24 = false := hw 24 (by kernel_rfl)
                      have hbel := Lib.hid (hJ.pre h24)
                      have h11 : d 11 = true := by simp [Region.Deps2, Go.Region.binds] at hdep; simp [hdep]
                      have h21 : d 21 = true := by simp [Region.Deps2, Go.Region.binds] at hdep; simp [hdep]
                      simp only [Region.fill, Region.slots, List.filterMap_cons, List.filterMap_nil, id, List.foldl_cons, List.foldl_nil, Act.put, List.setIfInBounds_toArray, List.set_cons_succ, List.set_cons_zero, hJ.s11 h11, hJ.s21 h21 rfl]
                      go_wp2
                      exact ⟨_, rfl, { hJ with s22 := fun _ => by first | rfl | (simp; done) | (simp; omega) }⟩
                    case o23 =>
                      intro d ys wx hJ hd hw hdep
                      have h24 : d 24 = false := hw 24 (by kernel_rfl)
                      have hbel := Lib.hid (hJ.pre h24)
                      have h0 : d 0 = true := by simp [Region.Deps2, Go.Region.binds] at hdep; simp [hdep]
                      have h1 : d 1 = true := by simp [Region.Deps2, Go.Region.binds] at hdep; simp [hdep]
                      simp only [Region.fill, Region.slots, List.filterMap_cons, List.filterMap_nil, id, List.foldl_cons, List.foldl_nil, Act.put, List.setIfInBounds_toArray, List.set_cons_succ, List.set_cons_zero, hJ.s0 h0, hJ.s1 h1]
                      go_wp2
                      exact ⟨_, rfl, { hJ with s23 := fun _ => by first | rfl | (simp; done) | (simp; omega) }⟩
                    case o24 =>
                      intro d ys wx hJ hd hw hdep
                      have hbel := Lib.hid (hJ.pre hd)
                      have h22 : d 22 = true := by simp [Region.Deps2, Go.Region.binds] at hdep; simp [hdep]
                      have h23 : d 23 = true := by simp [Region.Deps2, Go.Region.binds] at hdep; simp [hdep]
                      simp only [Region.fill, Region.slots, List.filterMap_cons, List.filterMap_nil, id, List.foldl_cons, List.foldl_nil, Act.put, List.setIfInBounds_toArray, List.set_cons_succ, List.set_cons_zero, hJ.s22 h22, hJ.s23 h23]
                      have ct2 : wx.cell? ⟨wo.heap.size, j + 1, none⟩ = some (.bool bt) := by rw [hbel.out.cell (block_lt_of_cell ct)]; exact ct
                      have cf2 : wx.frozen? ⟨wo.heap.size, j + 1, none⟩ = false := by rw [hbel.out.frozen (block_lt_of_cell ct)]; exact cf
                      go_wp2
                      exact ⟨rfl, undef, { hJ with pre := fun h => absurd h (by simp [Region.upd]), post := fun _ => ⟨wx, hbel.out, rfl⟩ }⟩
                  case done =>
                    intro d ys wx hJ hall
                    obtain ⟨wy, hby, rfl⟩ := hJ.post (hall 24 (by simp))
                    have HBY := Lib.hid hby
                    clear hby hJ hall
                    simp only [Region.fill, Region.slots, List.filterMap_cons, List.filterMap_nil, id, List.foldl_cons, List.foldl_nil, Act.put, List.setIfInBounds_toArray, List.set_cons_succ, List.set_cons_zero]
                    go_wp2
                    go_roundw
                    case rel => exact ⟨j + 2, by go_num, by omega, ((HTT.out.below (by omega) HBY.out).set (by omega) HV.out), (HBI.out.trans (HBY.out.mono HBI.out.size)).setCell (Nat.le_refl _) _⟩
                    case measure => simp [intOf]; omega
          · have lj : ¬ (j : Int) ≤ (r.length : Int) := by omega
            have hje : j = r.length + 1 := by omega
            have HTT := Lib.hid hT
            have HBI := Lib.hid hBi
            clear hT hBi
            go_wp2
            go_roundw
            case rel => exact ⟨i + 1, wo.heap.size, by go_num, by omega, rfl, by rw [HROW.out]; rw [hje] at HTT; exact HTT.out, HBR.out.size, HBR.out.trans (HBI.out.mono HBR.out.size)⟩
            case measure => simp [intOf]; omega
      · have l1 : ¬ (i : Int) < (its.length : Int) := by omega
        have ce := HBT.out.2 r.length (by omega)
        rw [List.take_of_length_le (by omega), ← HG.out] at ce
        have hrl2 : (r.length : Int) < (r.length : Int) + 1 := by omega
        go_wp2
        go_ret
        exact ⟨rfl, HBW.out.trans (HBR.out.mono HBW.out.size)⟩
end Go.Proofs.Ytfponjonbhnmlaa.RefGlob
