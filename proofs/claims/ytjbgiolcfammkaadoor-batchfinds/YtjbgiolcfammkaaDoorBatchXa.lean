/-
  What package batch answers of any writes: rightAlone, Right.
-/
import Derived.Test.YtjbgiolcfammkaaDoorBatchT
import Derived.Test.YtjbgiolcfammkaaDoorKeysB
namespace Go.Proofs.YtjbgiolcfammkaaDoor.Batch
open Go.RowKit
open Own Tup RefKeys RefSort
open Go.Proofs.YtjbgiolcfammkaaDoor.Region (fill Then Deps Each wp_region_is)

theorem cellX {w w' : World} {a : Addr} {x : Value} (h : w.cell? a = some x) (hb : Below w.heap.size w w') : w'.cell? a = some x := by rw [hb.cell (block_lt_of_cell h)]; exact h
theorem belX {a w1 w2 : World} (h : Below a.heap.size a w1) (k : Below w1.heap.size w1 w2) : Below a.heap.size a w2 := h.trans (k.mono h.size)
theorem plain_whole {x : Nat × Nat} (h : RefKeys.plainB x = true) : RuneM.whole x := by
  unfold RefKeys.plainB at h
  simp only [Bool.and_eq_true, Bool.not_eq_true', Bool.and_eq_false_imp, decide_eq_true_eq, decide_eq_false_iff_not] at h
  intro hx
  exact h.2 hx.1 hx.2
theorem key_whole {s : ByteArray} (h : keyRight s = true) : ∀ x ∈ RuneM.runes s, RuneM.whole x := by
  unfold keyRight at h
  simp only [Bool.and_eq_true, List.all_eq_true, decide_eq_true_eq] at h
  exact fun x hx => plain_whole (h.1.1 x hx)
theorem ahead_keys {a b : ByteArray} (ha : keyRight a = true) (hb : keyRight b = true) : aheadB a b = decide (cmpS a b < 0) := by
  unfold aheadB
  have h : Op.bytesLess a.toList b.toList = decide (cmpS a b < 0) := by
    rw [ByteArray.toList_eq, ByteArray.toList_eq]; exact RuneM.less_whole a b (key_whole ha) (key_whole hb)
  rw [h]
  cases decide (cmpS a b < 0) <;> simp
def aloneW (x : Wr) : Nat := if keyRight x.key = false then 10 else if 48 < x.val.size then 11 else if x.del && !decide (x.val = ByteArray.empty) then 2 else 0
set_option maxRecDepth 100000 in
set_option maxHeartbeats 4000000 in
theorem alone_any (x : Wr) (hx : x.key.size ≤ 8796093022208) (w : World) :
    Calls Tryd.prog 28 #[aggW x] w fun e w' => e = .returned (.int .i64 ((aloneW x : Nat) : Int)) ∧ Below w.heap.size w w' := by
  have HKR := Lib.hid (fun w => Keys.right_any x.key (by unfold Keys.lim; omega) w)
  have HA : Hid (aloneW x = if keyRight x.key = false then 10 else if 48 < x.val.size then 11 else if x.del && !decide (x.val = ByteArray.empty) then 2 else 0) := rfl
  have HV := Lib.hid (Var.new w 31 [.string x.key, .bool x.del, .string x.val])
  have c0 := HV.out.cell (j := 0) rfl
  have HB0 := Lib.hid ((Below.refl w.heap.size w).alloc (Nat.le_refl _) (.cells #[.string x.key, .bool x.del, .string x.val] 31))
  unfold aggW
  cases hkr : keyRight x.key with
  | false =>
    rw [hkr] at HKR HA
    go_enter Tryd.func28, Tryd.ntmps28
    go_wp2_with (go_at_call 27; (with_reducible refine (HKR.out _).mono ?_); rintro e w2 ⟨rfl, hb2⟩)
    go_ret
    exact ⟨by rw [HA.out]; rfl, belX HB0.out hb2⟩
  | true =>
    rw [hkr] at HKR HA
    go_enter Tryd.func28, Tryd.ntmps28
    go_wp2_with fail
    go_at_call 27
    with_reducible refine (HKR.out _).mono ?_
    rintro e w2 ⟨rfl, hb2⟩
    have c1 := cellX (HV.out.cell (j := 1) rfl) hb2
    have c2 := cellX (HV.out.cell (j := 2) rfl) hb2
    have HB2 := Lib.hid (belX HB0.out hb2)
    clear hb2 c0 HV
    by_cases hv : 48 < x.val.size
    · have HE := Lib.hid (show aloneW x = 11 by rw [HA.out, if_neg (by simp), if_pos hv])
      have d1 : decide ((48 : Int) < (x.val.size : Int)) = true := by simp; omega
      clear HA
      go_wp2
      go_ret
      exact ⟨by rw [HE.out]; rfl, HB2.out⟩
    · have d1 : decide ((48 : Int) < (x.val.size : Int)) = false := by simp; omega
      rw [if_neg (by simp), if_neg hv] at HA
      clear hv
      cases hd : x.del with
      | false =>
        rw [hd] at c1 HA
        have HE := Lib.hid (show aloneW x = 0 by rw [HA.out]; rfl)
        clear HA
        go_wp2
        go_ret
        exact ⟨by rw [HE.out]; rfl, HB2.out⟩
      | true =>
        rw [hd] at c1 HA
        have hem := eq_empty x.val
        by_cases he : x.val = ByteArray.empty
        · have HE := Lib.hid (show aloneW x = 0 by rw [HA.out, if_neg (by simp [he])])
          rw [decide_eq_true he] at hem
          clear HA he
          go_wp2
          go_ret
          exact ⟨by rw [HE.out]; rfl, HB2.out⟩
        · have HE := Lib.hid (show aloneW x = 2 by rw [HA.out, if_pos (by simp [he])])
          rw [decide_eq_false he] at hem
          clear HA he
          go_wp2
          go_ret
          exact ⟨by rw [HE.out]; rfl, HB2.out⟩
theorem bad_prev {l : List Wr} {k : Nat} (x : Wr) (hd : (x.del && !decide (x.val = ByteArray.empty)) = false) : badW (prevOf l k) x = (match prevOf l k with | none => false | some p => !aheadB p x.key) := by
  unfold badW; rw [hd, Bool.false_or]; rfl
theorem prev_some {l : List Wr} {k : Nat} (h0 : 0 < k) (h : k ≤ l.length) : prevOf l k = some (l[k - 1]'(by omega)).key := by
  unfold prevOf; rw [if_neg (by omega), List.getElem?_eq_getElem (by omega)]; rfl
set_option maxRecDepth 100000 in
set_option maxHeartbeats 8000000 in
theorem right_any (a : Option Addr) (l : List Wr) (cap : Nat) (hl : l.length ≤ maxLen) (hz : ∀ x ∈ l, x.key.size ≤ 8796093022208) (w : World) (hT : Tb w) (hr : WAt w a l) :
    Calls Tryd.prog 11 #[.slice a l.length cap] w fun e w' => e = .returned (.int .i64 ((rightW l : Nat) : Int)) ∧ Below w.heap.size w w' := by
  unfold maxLen at hl
  have HR := Lib.hid hr
  have HZ := Lib.hid hz
  have HT := Lib.hid hT
  clear hr hz hT
  by_cases hn : l.length < 1 ∨ 8 < l.length
  · have HE := Lib.hid (show rightW l = 12 by unfold rightW; rw [if_pos hn])
    rcases hn with hn | hn
    · have d1 : decide ((l.length : Int) < 1) = true := by simp; omega
      go_enter Tryd.func11, Tryd.ntmps11
      go_wp2
      go_ret
      exact ⟨by rw [HE.out]; rfl, Below.refl _ _⟩
    · have d1 : decide ((l.length : Int) < 1) = false := by simp; omega
      have d2 : decide ((8 : Int) < (l.length : Int)) = true := by simp; omega
      go_enter Tryd.func11, Tryd.ntmps11
      go_wp2
      go_ret
      exact ⟨by rw [HE.out]; rfl, Below.refl _ _⟩
  · have HE := Lib.hid (show rightW l = rightGo (prevOf l 0) (l.drop 0) by unfold rightW; rw [if_neg hn]; rfl)
    obtain ⟨n, hnn⟩ : ∃ n, n = l.length := ⟨_, rfl⟩
    rw [← hnn] at hn ⊢
    have HNL := Lib.hid hnn
    clear hl hnn
    have d1 : decide ((n : Int) < 1) = false := by simp; omega
    have d2 : decide ((8 : Int) < (n : Int)) = false := by simp; omega
    have hn8 : n ≤ 8 := by omega
    clear hn
    go_enter Tryd.func11, Tryd.ntmps11
    go_wp2
    go_loopw [16] (fun i wr => ∃ k : Nat, i = .int .i64 (k : Int) ∧ k ≤ n ∧ (∀ x ∈ l.take k, keyRight x.key = true) ∧ rightW l = rightGo (prevOf l k) (l.drop k) ∧ Below w.heap.size w wr) (fun i _ => n - (intOf i).toNat)
    case atStart => exact ⟨0, rfl, Nat.zero_le _, by simp, HE.out, Below.refl _ _⟩
    case round =>
      obtain ⟨k, rfl, hk, hall, hg, hbel⟩ := hrel
      have HG := Lib.hid hg
      have HB := Lib.hid hbel
      have HALL := Lib.hid hall
      have hbs := hbel.size
      clear hg hbel HE hall
      by_cases hlt : k < n
      · have h1 : k < l.length := by rw [← HNL.out]; exact hlt
        have d3 : decide ((k : Int) < (n : Int)) = true := by simp; omega
        have d4 : decide (k < n) = true := by simp; omega
        obtain ⟨b, off, ha, c0, c1, c2⟩ := WAt.get (Tup.At.below HR.out HB.out) (List.getElem?_eq_getElem h1)
        have HK1 := Lib.hid (fun h => right_key h1 h)
        have HK2 := Lib.hid (fun h h' => right_val h1 h h')
        have HK3 := Lib.hid (fun h h' h'' => right_bad h1 h h' h'')
        have HK4 := Lib.hid (fun h h' h'' => right_next h1 h h' h'')
        have hxz := HZ.out _ (List.getElem_mem h1)
        have HAL := Lib.hid (fun w => alone_any l[k] hxz w)
        have HTK := Lib.hid (List.take_succ_eq_append_getElem h1)
        have HBP := Lib.hid (bad_prev (l := l) (k := k) l[k])
        generalize hx : l[k] = x at *
        clear hx h1
        subst ha
        have HC0 := Lib.hid (And.intro c0 (And.intro c1 c2))
        have HA : Hid (aloneW x = if keyRight x.key = false then 10 else if 48 < x.val.size then 11 else if x.del && !decide (x.val = ByteArray.empty) then 2 else 0) := rfl
        unfold aggW at HAL
        generalize haw : aloneW x = aw at *
        by_cases ha0 : aw = 0
        · subst ha0
          have hkr : keyRight x.key = true := by
            have h := HA.out; cases hc : keyRight x.key with
            | true => rfl
            | false => rw [hc] at h; simp at h
          have hv : ¬ 48 < x.val.size := by
            intro hv; have h := HA.out; rw [if_neg (by simp [hkr]), if_pos hv] at h; simp at h
          have hdl : (x.del && !decide (x.val = ByteArray.empty)) = false := by
            have h := HA.out; rw [if_neg (by simp [hkr]), if_neg hv] at h
            cases hc : (x.del && !decide (x.val = ByteArray.empty)) with
            | false => rfl
            | true => rw [hc] at h; simp at h
          have HNB := Lib.hid (fun h => HK4.out hkr hv h)
          have HBD := Lib.hid (fun h => HK3.out hkr hv h)
          have HBP2 := Lib.hid (HBP.out hdl)
          have HALL2 : Hid (∀ y ∈ l.take (k + 1), keyRight y.key = true) := by
            intro y hy
            rw [HTK.out] at hy
            rcases List.mem_append.1 hy with hy | hy
            · exact HALL.out y hy
            · rw [List.mem_singleton.1 hy]; exact hkr
          clear HA haw HBP HK1 HK2 HK3 HK4 hv hdl HTK
          have HV := Lib.hid (Var.new wr 31 [.string x.key, .bool x.del, .string x.val])
          have HBA := Lib.hid ((Below.refl wr.heap.size wr).alloc (Nat.le_refl _) (.cells #[.string x.key, .bool x.del, .string x.val] 31))
          go_wp2_with fail
          go_at_call 28
          with_reducible refine (HAL.out _).mono ?_
          rintro e w2 ⟨rfl, hb2⟩
          have k0 := cellX (HV.out.cell (j := 0) rfl) hb2
          have HB2 := Lib.hid (belX HBA.out hb2)
          clear hb2 c0 c1 c2 HAL
          by_cases h0 : k = 0
          · have HX := Lib.hid (HNB.out (by rw [HBP2.out]; simp [prevOf, h0]))
            have d5 : decide ((0 : Int) < (k : Int)) = false := by simp; omega
            have d6 : decide (0 < k) = false := by simp; omega
            go_wp2
            go_quiet (fail)
            go_wp2
            go_roundw
            case rel => exact ⟨k + 1, by go_num, by omega, HALL2.out, by rw [HG.out, HX.out], below_drewN (belX HB.out HB2.out) _⟩
            case measure => simp [intOf]; omega
          · obtain ⟨j, hj⟩ : ∃ j, k = j + 1 := ⟨k - 1, by omega⟩
            have h2 : j < l.length := by rw [← HNL.out]; omega
            have HP := Lib.hid (show prevOf l k = some l[j].key by rw [prev_some (by omega) (by rw [← HNL.out]; omega)]; simp [hj])
            have hyr : keyRight l[j].key = true := HALL.out _ (by rw [List.mem_take_iff_getElem]; exact ⟨j, by omega, rfl⟩)
            obtain ⟨b2, off2, ha2, f0, -, -⟩ := WAt.get (Tup.At.below HR.out (belX HB.out HB2.out)) (List.getElem?_eq_getElem h2)
            simp only [Option.some.injEq, Addr.mk.injEq, and_true] at ha2
            obtain ⟨rfl, rfl⟩ := ha2
            have hyz := HZ.out _ (List.getElem_mem h2)
            generalize l[j] = y at *
            have HT2 := Lib.hid (HT.out.below (belX HB.out HB2.out))
            have HCM := Lib.hid (fun w (h : Tb w) => Keys.cmp_any y.key x.key (by unfold Keys.lim; omega) (by unfold Keys.lim; omega) w h)
            have HAH := Lib.hid (ahead_keys hyr hkr)
            rw [HP.out] at HBP2
            have hkj : (k : Int) - 1 = (j : Int) := by omega
            have hjn : j < n := by omega
            have hk0 : decide ((0 : Int) < (k : Int)) = true := by simp; omega
            have hk1 : decide (0 < k) = true := by simp; omega
            clear h2 hj h0 hyr
            go_wp2
            by_cases hc : 0 ≤ cmpS y.key x.key
            · have HX := Lib.hid (HBD.out (by rw [HP.out, HBP2.out]; simp [HAH.out]; omega))
              have HDC : Hid (decide (0 ≤ cmpS y.key x.key) = true) := by show _ = _; simpa using hc
              clear hc
              refine wp_region_is [26, 27, 28, 29, 30, 31, 32, 33, 34, 35, 36, 37, 38, 39] (fun w' => Below w2.heap.size w2 w')
                [.int .i64 (k : Int), .bool true, .bool true, .slice (some ⟨b, off, none⟩) n cap, .int .i64 (k : Int), .int .i64 (j : Int), .pointer (some ⟨b, off + j * 3, none⟩), .pointer (some ⟨b, off + j * 3, none⟩), .string y.key, .pointer (some ⟨wr.heap.size, 0, none⟩), .string x.key, .int .i64 (cmpS y.key x.key), .bool true, .bool true] (by kernel_rfl) (by kernel_rfl) rfl (by decide) (by simp) (Below.refl _ _).drew ?each ?done
              case each =>
                simp only [Each]
                repeat' (first | exact trivial | refine And.intro ?_ ?_)
                all_goals
                  intro ys wx hBx hdeps
                  simp only [Deps, Region.binds, List.getD_cons_zero, List.getD_cons_succ, forall_const, and_true] at hdeps
                  have c0 := cellX k0 hBx
                  have e0 := cellX f0 hBx
                  have d9 := HDC.out
                  simp only [hdeps, fill, List.foldl_cons, List.foldl_nil, Act.put, List.setIfInBounds_toArray, List.set_cons_succ, List.set_cons_zero]
                  first
                    | (go_wp2_with fail; exact ⟨_, rfl, rfl, hBx, Below.refl _ _⟩)
                    | (go_wp2_with (go_at_call 29; (with_reducible refine (HCM.out _ (HT2.out.below hBx)).mono ?_); rintro e w3 ⟨rfl, hn⟩); exact ⟨_, rfl, rfl, hBx.trans (hn.mono hBx.size), hn⟩)
              case done =>
                intro ys wx hBx hV
                have h39 : ys 39 = .bool true := hV 13 (by decide)
                simp only [h39, fill, List.drop_succ_cons, List.drop_zero, List.foldl_cons, List.foldl_nil, Act.put, List.setIfInBounds_toArray, List.set_cons_succ, List.set_cons_zero]
                go_wp2
                go_ret
                exact ⟨by rw [HG.out, HX.out]; rfl, belX (belX HB.out HB2.out) hBx⟩
            · have HX := Lib.hid (HNB.out (by rw [HP.out, HBP2.out]; simp [HAH.out]; omega))
              have HDC : Hid (decide (0 ≤ cmpS y.key x.key) = false) := by show _ = _; simpa using hc
              clear hc
              refine wp_region_is [26, 27, 28, 29, 30, 31, 32, 33, 34, 35, 36, 37, 38, 39] (fun w' => Below w2.heap.size w2 w')
                [.int .i64 (k : Int), .bool true, .bool true, .slice (some ⟨b, off, none⟩) n cap, .int .i64 (k : Int), .int .i64 (j : Int), .pointer (some ⟨b, off + j * 3, none⟩), .pointer (some ⟨b, off + j * 3, none⟩), .string y.key, .pointer (some ⟨wr.heap.size, 0, none⟩), .string x.key, .int .i64 (cmpS y.key x.key), .bool false, .bool false] (by kernel_rfl) (by kernel_rfl) rfl (by decide) (by simp) (Below.refl _ _).drew ?each ?done
              case each =>
                simp only [Each]
                repeat' (first | exact trivial | refine And.intro ?_ ?_)
                all_goals
                  intro ys wx hBx hdeps
                  simp only [Deps, Region.binds, List.getD_cons_zero, List.getD_cons_succ, forall_const, and_true] at hdeps
                  have c0 := cellX k0 hBx
                  have e0 := cellX f0 hBx
                  have d9 := HDC.out
                  simp only [hdeps, fill, List.foldl_cons, List.foldl_nil, Act.put, List.setIfInBounds_toArray, List.set_cons_succ, List.set_cons_zero]
                  first
                    | (go_wp2_with fail; exact ⟨_, rfl, rfl, hBx, Below.refl _ _⟩)
                    | (go_wp2_with (go_at_call 29; (with_reducible refine (HCM.out _ (HT2.out.below hBx)).mono ?_); rintro e w3 ⟨rfl, hn⟩); exact ⟨_, rfl, rfl, hBx.trans (hn.mono hBx.size), hn⟩)
              case done =>
                intro ys wx hBx hV
                have h39 : ys 39 = .bool false := hV 13 (by decide)
                simp only [h39, fill, List.drop_succ_cons, List.drop_zero, List.foldl_cons, List.foldl_nil, Act.put, List.setIfInBounds_toArray, List.set_cons_succ, List.set_cons_zero]
                go_wp2
                go_roundw
                case rel => exact ⟨k + 1, by go_num, by omega, HALL2.out, by rw [HG.out, HX.out], belX (belX HB.out HB2.out) hBx⟩
                case measure => simp [intOf]; omega
        · have q1 : ((aw : Int) == 0) = false := by simpa using ha0
          have HST : Hid (rightGo (prevOf l k) (l.drop k) = aw) := by
            have h := HA.out
            split at h
            · rename_i h1; rw [h]; exact HK1.out h1
            rename_i h1
            split at h
            · rename_i h2; rw [h]; exact HK2.out (by simpa using h1) h2
            rename_i h2
            split at h
            · rename_i h3; rw [h]; exact HK3.out (by simpa using h1) h2 (by unfold badW; rw [h3]; rfl)
            · exact absurd h ha0
          clear ha0 HA haw
          go_wp2_with (go_at_call 28; (with_reducible refine (HAL.out _).mono ?_); rintro e w2 ⟨rfl, hb2⟩)
          go_ret
          exact ⟨by rw [HG.out, HST.out]; rfl, HB.out.trans (((Below.refl _ _).alloc (Nat.le_refl _) _ |>.trans (hb2.mono (by simp))).mono hbs)⟩
      · have d3 : decide ((k : Int) < (n : Int)) = false := by simp; omega
        have d4 : decide (k < n) = false := by simp; omega
        have HX := Lib.hid (show rightW l = 0 by rw [HG.out, List.drop_eq_nil_of_le (by rw [← HNL.out]; omega)]; rfl)
        go_wp2
        go_ret
        exact ⟨by rw [HX.out]; rfl, HB.out⟩
end Go.Proofs.YtjbgiolcfammkaaDoor.Batch
