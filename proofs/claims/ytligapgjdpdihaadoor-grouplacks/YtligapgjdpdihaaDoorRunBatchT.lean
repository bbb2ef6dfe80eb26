/-
  Joined texts: BatchT, BatchXa, BatchXc.
-/
import Derived.Test.YtligapgjdpdihaaDoorKeysC
import Derived.Test.YtligapgjdpdihaaDoorBatchMath
import Derived.Test.YtligapgjdpdihaaDoorRunKeysA
import Derived.Test.YtligapgjdpdihaaDoorRunTup
/-
  The library's tables, where the landed code reads them.
-/
set_option linter.unusedVariables false
set_option linter.unusedSimpArgs false
namespace Go.Proofs.YtligapgjdpdihaaDoor.Batch
open Go.RowKit
def Tb (w : World) : Prop := Keys.Tabs w
theorem Tb.below {w w' : World} (h : Tb w) (hb : Below w.heap.size w w') : Tb w' := Keys.Tabs.below h hb
theorem WAt.below {w w' : World} {a : Option Addr} {l : List Wr} (h : WAt w a l) (hb : Below w.heap.size w w') : WAt w' a l := Tup.At.below h hb
theorem WMine.below {w w' : World} {base : Nat} {v : Value} {l : List Wr} (h : WMine w base v l) (hb : Below w.heap.size w w') : WMine w' base v l := Own.owns_below h hb
theorem WMine.slice {w : World} {base : Nat} {v : Value} {l : List Wr} (h : WMine w base v l) : ∃ a c, v = .slice a l.length c ∧ WAt w a l := by
  obtain ⟨a, c, rfl⟩ := Tup.owns_slice h
  exact ⟨a, c, rfl, Tup.At.of_owns h⟩
end Go.Proofs.YtligapgjdpdihaaDoor.Batch
/-
  What package batch answers of any writes: rightAlone, Right.
-/
set_option linter.unusedVariables false
set_option linter.unusedSimpArgs false
namespace Go.Proofs.YtligapgjdpdihaaDoor.Batch
open Go.RowKit
open Own Tup RefKeys RefSort
open Go.Proofs.YtligapgjdpdihaaDoor.Region (fill Then Deps Each wp_region_is)

theorem cellX {w w' : World} {a : Addr} {x : Value} (h : w.cell? a = some x) (hb : Below w.heap.size w w') : w'.cell? a = some x := by rw [hb.cell (block_lt_of_cell h)]; exact h
theorem belX {a w1 w2 : World} (h : Below a.heap.size a w1) (k : Below w1.heap.size w1 w2) : Below a.heap.size a w2 := h.trans (k.mono h.size)
theorem plain_whole {x : Nat × Nat} (h : RefKeys.plainB x = true) : RuneM.whole x := by
  unfold RefKeys.plainB at h
  simp only [Bool.and_eq_true, Bool.not_eq_true', Bool.and_eq_false_imp, decide_eq_true_eq, decide_eq_false_iff_not] at h
  intro hx
  exact h.2 hx.1 hx.2
theorem key_whole {s : ByteArray} (h : keyRight s = true) : ∀ x ∈ RuneM.runes s, RuneM.whole x := by
  unfold keyRight at h
  simp only [Bool.and_eq_true, List.all_eq_true, decide_eq_true_eq] at h
  exact fun x hx => plain_whole (h.1.1 x hx)
theorem ahead_keys {a b : ByteArray} (ha : keyRight a = true) (hb : keyRight b = true) : aheadB a b = decide (cmpS a b < 0) := by
  unfold aheadB
  have h : Op.bytesLess a.toList b.toList = decide (cmpS a b < 0) := by
    rw [ByteArray.toList_eq, ByteArray.toList_eq]; exact RuneM.less_whole a b (key_whole ha) (key_whole hb)
  rw [h]
  cases decide (cmpS a b < 0) <;> simp
def aloneW (x : Wr) : Nat := if keyRight x.key = false then 10 else if 48 < x.val.size then 11 else if x.del && !decide (x.val = ByteArray.empty) then 2 else 0
set_option maxRecDepth 100000 in
set_option maxHeartbeats 4000000 in
theorem alone_any (x : Wr) (hx : x.key.size ≤ 8796093022208) (w : World) :
    Calls Tryd.prog 82 #[aggW x] w fun e w' => e = .returned (.int .i64 ((aloneW x : Nat) : Int)) ∧ Below w.heap.size w w' := by
  have HKR := Lib.hid (fun w => Keys.right_any x.key (by unfold Keys.lim; omega) w)
  have HA : Hid (aloneW x = if keyRight x.key = false then 10 else if 48 < x.val.size then 11 else if x.del && !decide (x.val = ByteArray.empty) then 2 else 0) := rfl
  have HV := Lib.hid (Var.new w 55 [.string x.key, .bool x.del, .string x.val])
  have c0 := HV.out.cell (j := 0) rfl
  have HB0 := Lib.hid ((Below.refl w.heap.size w).alloc (Nat.le_refl _) (.cells #[.string x.key, .bool x.del, .string x.val] 55))
  unfold aggW
  cases hkr : keyRight x.key with
  | false =>
    rw [hkr] at HKR HA
    go_enter Tryd.func82, Tryd.ntmps82
    go_wp2_with (go_at_call 96; (with_reducible refine (HKR.out _).mono ?_); rintro e w2 ⟨rfl, hb2⟩)
    go_ret
    exact ⟨by rw [HA.out]; rfl, belX HB0.out hb2⟩
  | true =>
    rw [hkr] at HKR HA
    go_enter Tryd.func82, Tryd.ntmps82
    go_wp2_with fail
    go_at_call 96
    with_reducible refine (HKR.out _).mono ?_
    rintro e w2 ⟨rfl, hb2⟩
    have c1 := cellX (HV.out.cell (j := 1) rfl) hb2
    have c2 := cellX (HV.out.cell (j := 2) rfl) hb2
    have HB2 := Lib.hid (belX HB0.out hb2)
    clear hb2 c0 HV
    by_cases hv : 48 < x.val.size
    · have HE := Lib.hid (show aloneW x = 11 by rw [HA.out, if_neg (by simp), if_pos hv])
      have d1 : decide ((48 : Int) < (x.val.size : Int)) = true := by simp; omega
      clear HA
      go_wp2
      go_ret
      exact ⟨by rw [HE.out]; rfl, HB2.out⟩
    · have d1 : decide ((48 : Int) < (x.val.size : Int)) = false := by simp; omega
      rw [if_neg (by simp), if_neg hv] at HA
      clear hv
      cases hd : x.del with
      | false =>
        rw [hd] at c1 HA
        have HE := Lib.hid (show aloneW x = 0 by rw [HA.out]; rfl)
        clear HA
        go_wp2
        go_ret
        exact ⟨by rw [HE.out]; rfl, HB2.out⟩
      | true =>
        rw [hd] at c1 HA
        have hem := eq_empty x.val
        by_cases he : x.val = ByteArray.empty
        · have HE := Lib.hid (show aloneW x = 0 by rw [HA.out, if_neg (by simp [he])])
          rw [decide_eq_true he] at hem
          clear HA he
          go_wp2
          go_ret
          exact ⟨by rw [HE.out]; rfl, HB2.out⟩
        · have HE := Lib.hid (show aloneW x = 2 by rw [HA.out, if_pos (by simp [he])])
          rw [decide_eq_false he] at hem
          clear HA he
          go_wp2
          go_ret
          exact ⟨by rw [HE.out]; rfl, HB2.out⟩
theorem bad_prev {l : List Wr} {k : Nat} (x : Wr) (hd : (x.del && !decide (x.val = ByteArray.empty)) = false) : badW (prevOf l k) x = (match prevOf l k with | none => false | some p => !aheadB p x.key) := by
  unfold badW; rw [hd, Bool.false_or]; rfl
theorem prev_some {l : List Wr} {k : Nat} (h0 : 0 < k) (h : k ≤ l.length) : prevOf l k = some (l[k - 1]'(by omega)).key := by
  unfold prevOf; rw [if_neg (by omega), List.getElem?_eq_getElem (by omega)]; rfl
set_option maxRecDepth 100000 in
set_option maxHeartbeats 8000000 in
theorem right_any (a : Option Addr) (l : List Wr) (cap : Nat) (hl : l.length ≤ maxLen) (hz : ∀ x ∈ l, x.key.size ≤ 8796093022208) (w : World) (hT : Tb w) (hr : WAt w a l) :
    Calls Tryd.prog 53 #[.slice a l.length cap] w fun e w' => e = .returned (.int .i64 ((rightW l : Nat) : Int)) ∧ Below w.heap.size w w' := by
  unfold maxLen at hl
  have HR := Lib.hid hr
  have HZ := Lib.hid hz
  have HT := Lib.hid hT
  clear hr hz hT
  by_cases hn : l.length < 1 ∨ 8 < l.length
  · have HE := Lib.hid (show rightW l = 12 by unfold rightW; rw [if_pos hn])
    rcases hn with hn | hn
    · have d1 : decide ((l.length : Int) < 1) = true := by simp; omega
      go_enter Tryd.func53, Tryd.ntmps53
      go_wp2
      go_ret
      exact ⟨by rw [HE.out]; rfl, Below.refl _ _⟩
    · have d1 : decide ((l.length : Int) < 1) = false := by simp; omega
      have d2 : decide ((8 : Int) < (l.length : Int)) = true := by simp; omega
      go_enter Tryd.func53, Tryd.ntmps53
      go_wp2
      go_ret
      exact ⟨by rw [HE.out]; rfl, Below.refl _ _⟩
  · have HE := Lib.hid (show rightW l = rightGo (prevOf l 0) (l.drop 0) by unfold rightW; rw [if_neg hn]; rfl)
    obtain ⟨n, hnn⟩ : ∃ n, n = l.length := ⟨_, rfl⟩
    rw [← hnn] at hn ⊢
    have HNL := Lib.hid hnn
    clear hl hnn
    have d1 : decide ((n : Int) < 1) = false := by simp; omega
    have d2 : decide ((8 : Int) < (n : Int)) = false := by simp; omega
    have hn8 : n ≤ 8 := by omega
    clear hn
    go_enter Tryd.func53, Tryd.ntmps53
    go_wp2
    go_loopw [16] (fun i wr => ∃ k : Nat, i = .int .i64 (k : Int) ∧ k ≤ n ∧ (∀ x ∈ l.take k, keyRight x.key = true) ∧ rightW l = rightGo (prevOf l k) (l.drop k) ∧ Below w.heap.size w wr) (fun i _ => n - (intOf i).toNat)
    case atStart => exact ⟨0, rfl, Nat.zero_le _, by simp, HE.out, Below.refl _ _⟩
    case round =>
      obtain ⟨k, rfl, hk, hall, hg, hbel⟩ := hrel
      have HG := Lib.hid hg
      have HB := Lib.hid hbel
      have HALL := Lib.hid hall
      have hbs := hbel.size
      clear hg hbel HE hall
      by_cases hlt : k < n
      · have h1 : k < l.length := by rw [← HNL.out]; exact hlt
        have d3 : decide ((k : Int) < (n : Int)) = true := by simp; omega
        have d4 : decide (k < n) = true := by simp; omega
        obtain ⟨b, off, ha, c0, c1, c2⟩ := WAt.get (Tup.At.below HR.out HB.out) (List.getElem?_eq_getElem h1)
        have HK1 := Lib.hid (fun h => right_key h1 h)
        have HK2 := Lib.hid (fun h h' => right_val h1 h h')
        have HK3 := Lib.hid (fun h h' h'' => right_bad h1 h h' h'')
        have HK4 := Lib.hid (fun h h' h'' => right_next h1 h h' h'')
        have hxz := HZ.out _ (List.getElem_mem h1)
        have HAL := Lib.hid (fun w => alone_any l[k] hxz w)
        have HTK := Lib.hid (List.take_succ_eq_append_getElem h1)
        have HBP := Lib.hid (bad_prev (l := l) (k := k) l[k])
        generalize hx : l[k] = x at *
        clear hx h1
        subst ha
        have HC0 := Lib.hid (And.intro c0 (And.intro c1 c2))
        have HA : Hid (aloneW x = if keyRight x.key = false then 10 else if 48 < x.val.size then 11 else if x.del && !decide (x.val = ByteArray.empty) then 2 else 0) := rfl
        unfold aggW at HAL
        generalize haw : aloneW x = aw at *
        by_cases ha0 : aw = 0
        · subst ha0
          have hkr : keyRight x.key = true := by
            have h := HA.out; cases hc : keyRight x.key with
            | true => rfl
            | false => rw [hc] at h; simp at h
          have hv : ¬ 48 < x.val.size := by
            intro hv; have h := HA.out; rw [if_neg (by simp [hkr]), if_pos hv] at h; simp at h
          have hdl : (x.del && !decide (x.val = ByteArray.empty)) = false := by
            have h := HA.out; rw [if_neg (by simp [hkr]), if_neg hv] at h
            cases hc : (x.del && !decide (x.val = ByteArray.empty)) with
            | false => rfl
            | true => rw [hc] at h; simp at h
          have HNB := Lib.hid (fun h => HK4.out hkr hv h)
          have HBD := Lib.hid (fun h => HK3.out hkr hv h)
          have HBP2 := Lib.hid (HBP.out hdl)
          have HALL2 : Hid (∀ y ∈ l.take (k + 1), keyRight y.key = true) := by
            intro y hy
            rw [HTK.out] at hy
            rcases List.mem_append.1 hy with hy | hy
            · exact HALL.out y hy
            · rw [List.mem_singleton.1 hy]; exact hkr
          clear HA haw HBP HK1 HK2 HK3 HK4 hv hdl HTK
          have HV := Lib.hid (Var.new wr 55 [.string x.key, .bool x.del, .string x.val])
          have HBA := Lib.hid ((Below.refl wr.heap.size wr).alloc (Nat.le_refl _) (.cells #[.string x.key, .bool x.del, .string x.val] 55))
          go_wp2_with fail
          go_at_call 82
          with_reducible refine (HAL.out _).mono ?_
          rintro e w2 ⟨rfl, hb2⟩
          have k0 := cellX (HV.out.cell (j := 0) rfl) hb2
          have HB2 := Lib.hid (belX HBA.out hb2)
          clear hb2 c0 c1 c2 HAL
          by_cases h0 : k = 0
          · have HX := Lib.hid (HNB.out (by rw [HBP2.out]; simp [prevOf, h0]))
            have d5 : decide ((0 : Int) < (k : Int)) = false := by simp; omega
            have d6 : decide (0 < k) = false := by simp; omega
            go_wp2
            go_quiet (fail)
            go_wp2
            go_roundw
            case rel => exact ⟨k + 1, by go_num, by omega, HALL2.out, by rw [HG.out, HX.out], below_drewN (belX HB.out HB2.out) _⟩
            case measure => simp [intOf]; omega
          · obtain ⟨j, hj⟩ : ∃ j, k = j + 1 := ⟨k - 1, by omega⟩
            have h2 : j < l.length := by rw [← HNL.out]; omega
            have HP := Lib.hid (show prevOf l k = some l[j].key by rw [prev_some (by omega) (by rw [← HNL.out]; omega)]; simp [hj])
            have hyr : keyRight l[j].key = true := HALL.out _ (by rw [List.mem_take_iff_getElem]; exact ⟨j, by omega, rfl⟩)
            obtain ⟨b2, off2, ha2, f0, -, -⟩ := WAt.get (Tup.At.below HR.out (belX HB.out HB2.out)) (List.getElem?_eq_getElem h2)
            simp only [Option.some.injEq, Addr.mk.injEq, and_true] at ha2
            obtain ⟨rfl, rfl⟩ := ha2
            have hyz := HZ.out _ (List.getElem_mem h2)
            generalize l[j] = y at *
            have HT2 := Lib.hid (HT.out.below (belX HB.out HB2.out))
            have HCM := Lib.hid (fun w (h : Tb w) => Keys.cmp_any y.key x.key (by unfold Keys.lim; omega) (by unfold Keys.lim; omega) w h)
            have HAH := Lib.hid (ahead_keys hyr hkr)
            rw [HP.out] at HBP2
            have hkj : (k : Int) - 1 = (j : Int) := by omega
            have hjn : j < n := by omega
            have hk0 : decide ((0 : Int) < (k : Int)) = true := by simp; omega
            have hk1 : decide (0 < k) = true := by simp; omega
            clear h2 hj h0 hyr
            go_wp2
            by_cases hc : 0 ≤ cmpS y.key x.key
            · have HX := Lib.hid (HBD.out (by rw [HP.out, HBP2.out]; simp [HAH.out]; omega))
              have HDC : Hid (decide (0 ≤ cmpS y.key x.key) = true) := by show _ = _; simpa using hc
              clear hc
              refine wp_region_is [26, 27, 28, 29, 30, 31, 32, 33, 34, 35, 36, 37, 38, 39] (fun w' => Below w2.heap.size w2 w')
                [.int .i64 (k : Int), .bool true, .bool true, .slice (some ⟨b, off, none⟩) n cap, .int .i64 (k : Int), .int .i64 (j : Int), .pointer (some ⟨b, off + j * 3, none⟩), .pointer (some ⟨b, off + j * 3, none⟩), .string y.key, .pointer (some ⟨wr.heap.size, 0, none⟩), .string x.key, .int .i64 (cmpS y.key x.key), .bool true, .bool true] (by kernel_rfl) (by kernel_rfl) rfl (by decide) (by simp) (Below.refl _ _).drew ?each ?done
              case each =>
                simp only [Each]
                repeat' (first | exact trivial | refine And.intro ?_ ?_)
                all_goals
                  intro ys wx hBx hdeps
                  simp only [Deps, Region.binds, List.getD_cons_zero, List.getD_cons_succ, forall_const, and_true] at hdeps
                  have c0 := cellX k0 hBx
                  have e0 := cellX f0 hBx
                  have d9 := HDC.out
                  simp only [hdeps, fill, List.foldl_cons, List.foldl_nil, Act.put, List.setIfInBounds_toArray, List.set_cons_succ, List.set_cons_zero]
                  first
                    | (go_wp2_with fail; exact ⟨_, rfl, rfl, hBx, Below.refl _ _⟩)
                    | (go_wp2_with (go_at_call 83; (with_reducible refine (HCM.out _ (HT2.out.below hBx)).mono ?_); rintro e w3 ⟨rfl, hn⟩); exact ⟨_, rfl, rfl, hBx.trans (hn.mono hBx.size), hn⟩)
              case done =>
                intro ys wx hBx hV
                have h39 : ys 39 = .bool true := hV 13 (by decide)
                simp only [h39, fill, List.drop_succ_cons, List.drop_zero, List.foldl_cons, List.foldl_nil, Act.put, List.setIfInBounds_toArray, List.set_cons_succ, List.set_cons_zero]
                go_wp2
                go_ret
                exact ⟨by rw [HG.out, HX.out]; rfl, belX (belX HB.out HB2.out) hBx⟩
            · have HX := Lib.hid (HNB.out (by rw [HP.out, HBP2.out]; simp [HAH.out]; omega))
              have HDC : Hid (decide (0 ≤ cmpS y.key x.key) = false) := by show _ = _; simpa using hc
              clear hc
              refine wp_region_is [26, 27, 28, 29, 30, 31, 32, 33, 34, 35, 36, 37, 38, 39] (fun w' => Below w2.heap.size w2 w')
                [.int .i64 (k : Int), .bool true, .bool true, .slice (some ⟨b, off, none⟩) n cap, .int .i64 (k : Int), .int .i64 (j : Int), .pointer (some ⟨b, off + j * 3, none⟩), .pointer (some ⟨b, off + j * 3, none⟩), .string y.key, .pointer (some ⟨wr.heap.size, 0, none⟩), .string x.key, .int .i64 (cmpS y.key x.key), .bool false, .bool false] (by kernel_rfl) (by kernel_rfl) rfl (by decide) (by simp) (Below.refl _ _).drew ?each ?done
              case each =>
                simp only [Each]
                repeat' (first | exact trivial | refine And.intro ?_ ?_)
                all_goals
                  intro ys wx hBx hdeps
                  simp only [Deps, Region.binds, List.getD_cons_zero, List.getD_cons_succ, forall_const, and_true] at hdeps
                  have c0 := cellX k0 hBx
                  have e0 := cellX f0 hBx
                  have d9 := HDC.out
                  simp only [hdeps, fill, List.foldl_cons, List.foldl_nil, Act.put, List.setIfInBounds_toArray, List.set_cons_succ, List.set_cons_zero]
                  first
                    | (go_wp2_with fail; exact ⟨_, rfl, rfl, hBx, Below.refl _ _⟩)
                    | (go_wp2_with (go_at_call 83; (with_reducible refine (HCM.out _ (HT2.out.below hBx)).mono ?_); rintro e w3 ⟨rfl, hn⟩); exact ⟨_, rfl, rfl, hBx.trans (hn.mono hBx.size), hn⟩)
              case done =>
                intro ys wx hBx hV
                have h39 : ys 39 = .bool false := hV 13 (by decide)
                simp only [h39, fill, List.drop_succ_cons, List.drop_zero, List.foldl_cons, List.foldl_nil, Act.put, List.setIfInBounds_toArray, List.set_cons_succ, List.set_cons_zero]
                go_wp2
                go_roundw
                case rel => exact ⟨k + 1, by go_num, by omega, HALL2.out, by rw [HG.out, HX.out], belX (belX HB.out HB2.out) hBx⟩
                case measure => simp [intOf]; omega
        · have q1 : ((aw : Int) == 0) = false := by simpa using ha0
          have HST : Hid (rightGo (prevOf l k) (l.drop k) = aw) := by
            have h := HA.out
            split at h
            · rename_i h1; rw [h]; exact HK1.out h1
            rename_i h1
            split at h
            · rename_i h2; rw [h]; exact HK2.out (by simpa using h1) h2
            rename_i h2
            split at h
            · rename_i h3; rw [h]; exact HK3.out (by simpa using h1) h2 (by unfold badW; rw [h3]; rfl)
            · exact absurd h ha0
          clear ha0 HA haw
          go_wp2_with (go_at_call 82; (with_reducible refine (HAL.out _).mono ?_); rintro e w2 ⟨rfl, hb2⟩)
          go_ret
          exact ⟨by rw [HG.out, HST.out]; rfl, HB.out.trans (((Below.refl _ _).alloc (Nat.le_refl _) _ |>.trans (hb2.mono (by simp))).mono hbs)⟩
      · have d3 : decide ((k : Int) < (n : Int)) = false := by simp; omega
        have d4 : decide (k < n) = false := by simp; omega
        have HX := Lib.hid (show rightW l = 0 by rw [HG.out, List.drop_eq_nil_of_le (by rw [← HNL.out]; omega)]; rfl)
        go_wp2
        go_ret
        exact ⟨by rw [HX.out]; rfl, HB.out⟩
end Go.Proofs.YtligapgjdpdihaaDoor.Batch
/-
  What package batch answers of any bytes: getWrite, Read.
-/
set_option linter.unusedVariables false
set_option linter.unusedSimpArgs false
namespace Go.Proofs.YtligapgjdpdihaaDoor.Batch
open Go.RowKit
open Own Tup RefKeys RefSort Lay LayM RefRune

/-- a write that stands at a place -/
def getWr (b : ByteArray) (p : Nat) : Wr × Nat × Nat :=
  if b.size ≤ p then (zeroW, 0, 3) else if 1 < bAt b p then (zeroW, 0, 2) else
  if (getT b ((p : Int) + 1) 48).2.2 ≠ 0 then (zeroW, 0, (getT b ((p : Int) + 1) 48).2.2) else
  if bAt b p = 1 then (⟨(getT b ((p : Int) + 1) 48).1, true, ByteArray.empty⟩, (getT b ((p : Int) + 1) 48).2.1, 0) else
  if (getT b ((getT b ((p : Int) + 1) 48).2.1 : Nat) 48).2.2 ≠ 0 then (zeroW, 0, (getT b ((getT b ((p : Int) + 1) 48).2.1 : Nat) 48).2.2) else
  (⟨(getT b ((p : Int) + 1) 48).1, false, (getT b ((getT b ((p : Int) + 1) 48).2.1 : Nat) 48).1⟩, (getT b ((getT b ((p : Int) + 1) 48).2.1 : Nat) 48).2.1, 0)
theorem readGo_get (b : ByteArray) (n p : Nat) (acc : List Wr) : readGo b (n + 1) p acc = if (getWr b p).2.2 ≠ 0 then ([], (getWr b p).2.2) else readGo b n (getWr b p).2.1 (acc ++ [(getWr b p).1]) := by
  rw [readGo]
  unfold getWr
  split
  · simp
  split
  · simp
  split
  · rename_i h; simp [h]
  split
  · simp
  split
  · rename_i h; simp [h]
  · simp
def tupW (r : Wr × Nat × Nat) : Value := .tuple #[aggW r.1, .int .i64 (r.2.1 : Int), .int .i64 (r.2.2 : Int)]
theorem getWr_ok {b : ByteArray} {p : Nat} (h : (getWr b p).2.2 = 0) : (getWr b p).1.key.size ≤ 48 ∧ (getWr b p).2.1 ≤ b.size := by
  unfold getWr at h ⊢
  split at h
  · simp at h
  split at h
  · simp at h
  split at h
  · rename_i h1; exact absurd h h1
  rename_i h0 h1 h2
  rw [if_neg h0, if_neg h1, if_neg h2]
  have e1 := getT_ok (b := b) (a := (p : Int) + 1) (s := (getT b ((p : Int) + 1) 48).1) (p := (getT b ((p : Int) + 1) 48).2.1) (by
    have : (getT b ((p : Int) + 1) 48).2.2 = 0 := by simpa using h2
    rw [← this])
  split at h
  · rename_i h3; rw [if_pos h3]; exact e1
  rename_i h3
  split at h
  · rename_i h4; exact absurd h h4
  rename_i h4
  rw [if_neg h3, if_neg h4]
  have e2 := getT_ok (b := b) (a := ((getT b ((p : Int) + 1) 48).2.1 : Nat)) (s := (getT b ((getT b ((p : Int) + 1) 48).2.1 : Nat) 48).1) (p := (getT b ((getT b ((p : Int) + 1) 48).2.1 : Nat) 48).2.1) (by
    have : (getT b ((getT b ((p : Int) + 1) 48).2.1 : Nat) 48).2.2 = 0 := by simpa using h4
    rw [← this])
  exact ⟨e1.1, e2.2⟩
set_option maxRecDepth 100000 in
set_option maxHeartbeats 8000000 in
theorem getWrite_any (b : ByteArray) (hb : b.size ≤ 9000000000000000000) (p : Nat) (hp : p ≤ b.size) (w : World) :
    Calls Tryd.prog 76 #[.string b, .int .i64 (p : Int)] w fun e w' => e = .returned (tupW (getWr b p)) ∧ Below w.heap.size w w' := by
  have hml : b.size ≤ maxLen := by simp only [maxLen]; omega
  have HV := Lib.hid (Var.new w 55 [.string ⟨#[]⟩, .bool false, .string ⟨#[]⟩])
  have HB0 := Lib.hid (bel_alloc w (.cells #[.string ⟨#[]⟩, .bool false, .string ⟨#[]⟩] 55))
  by_cases hlt : p < b.size
  · have d1 : decide ((b.size : Int) ≤ (p : Int)) = false := by simp; omega
    have d2 : decide (b.size ≤ p) = false := by simp; omega
    have hpi : (p : Int) < (b.size : Int) := by omega
    have hcc := bAt_eq b p hlt
    have hc256 := bAt_lt b p
    have HG := Lib.hid (show getWr b p = _ from by unfold getWr; rw [if_neg (by omega)])
    have HT1 := Lib.hid (fun w => getText_any b hml ((p : Int) + 1) 48 w)
    have HTT := Lib.hid (fun q w => getText_any b hml ((q : Nat) : Int) 48 w)
    generalize bAt b p = c at *
    unfold tupT at HT1 HTT
    by_cases hc1 : 1 < c
    · rw [if_pos hc1] at HG
      have q1 : decide ((1 : Int) < (c : Int)) = true := by simp; omega
      go_enter Tryd.func76, Tryd.ntmps76
      go_wp2
      refine bodyPost_ret (by simp [results, Tryd.results76, go_sem]; try rfl) rfl ?_
      exact ⟨by rw [HG.out]; rfl, bel_alloc _ _⟩
    · rw [if_neg hc1] at HG
      have q1 : decide ((1 : Int) < (c : Int)) = false := by simp; omega
      obtain ⟨⟨s1, p1, e1⟩, hr1⟩ : ∃ r, r = getT b ((p : Int) + 1) 48 := ⟨_, rfl⟩
      rw [← hr1] at HG HT1
      simp only at HG HT1
      clear hr1
      by_cases he1 : e1 = 0
      · subst he1
        rw [if_neg (by simp)] at HG
        by_cases hc : c = 1
        · have q2 : ((c : Int) == 1) = true := by rw [hc]; rfl
          rw [if_pos hc] at HG
          clear hc HTT
          go_enter Tryd.func76, Tryd.ntmps76
          go_wp2_with (go_at_call 92; (with_reducible refine (HT1.out _).mono ?_); rintro e w' ⟨rfl, rfl⟩)
          refine bodyPost_ret (by simp [results, Tryd.results76, go_sem]; try rfl) rfl ?_
          exact ⟨by rw [HG.out]; rfl, bel_alloc _ _⟩
        · have q2 : ((c : Int) == 1) = false := by simp; omega
          rw [if_neg hc] at HG
          have HT2 := Lib.hid (HTT.out p1)
          obtain ⟨⟨s2, p2, e2⟩, hr2⟩ : ∃ r, r = getT b ((p1 : Nat) : Int) 48 := ⟨_, rfl⟩
          rw [← hr2] at HG HT2
          simp only at HG HT2
          clear hc HTT hr2
          by_cases he2 : e2 = 0
          · subst he2
            rw [if_neg (by simp)] at HG
            go_enter Tryd.func76, Tryd.ntmps76
            go_wp2_with (first
              | (go_at_call 92; (with_reducible refine (HT1.out _).mono ?_); rintro e w' ⟨rfl, rfl⟩)
              | (go_at_call 92; (with_reducible refine (HT2.out _).mono ?_); rintro e w' ⟨rfl, rfl⟩))
            refine bodyPost_ret (by simp [results, Tryd.results76, go_sem]; try rfl) rfl ?_
            exact ⟨by rw [HG.out]; rfl, bel_alloc _ _⟩
          · rw [if_pos he2] at HG
            have q3 : ((e2 : Int) == 0) = false := by simpa using he2
            clear he2
            go_enter Tryd.func76, Tryd.ntmps76
            go_wp2_with (first
              | (go_at_call 92; (with_reducible refine (HT1.out _).mono ?_); rintro e w' ⟨rfl, rfl⟩)
              | (go_at_call 92; (with_reducible refine (HT2.out _).mono ?_); rintro e w' ⟨rfl, rfl⟩))
            refine bodyPost_ret (by simp [results, Tryd.results76, go_sem]; try rfl) rfl ?_
            exact ⟨by rw [HG.out]; rfl, bel_alloc _ _⟩
      · rw [if_pos he1] at HG
        have q3 : ((e1 : Int) == 0) = false := by simpa using he1
        clear he1 HTT
        go_enter Tryd.func76, Tryd.ntmps76
        go_wp2_with (go_at_call 92; (with_reducible refine (HT1.out _).mono ?_); rintro e w' ⟨rfl, rfl⟩)
        refine bodyPost_ret (by simp [results, Tryd.results76, go_sem]; try rfl) rfl ?_
        exact ⟨by rw [HG.out]; rfl, bel_alloc _ _⟩
  · have d1 : decide ((b.size : Int) ≤ (p : Int)) = true := by simp; omega
    have d2 : decide (b.size ≤ p) = true := by simp; omega
    have HG := Lib.hid (show getWr b p = (zeroW, 0, 3) by unfold getWr; rw [if_pos (by omega)])
    go_enter Tryd.func76, Tryd.ntmps76
    go_wp2
    refine bodyPost_ret (by simp [results, Tryd.results76, go_sem]; try rfl) rfl ?_
    exact ⟨by rw [HG.out]; rfl, bel_alloc _ _⟩
theorem made_flat : ∀ (n : Nat), n ≤ 8 → (madeCells (Value.agg #[.string ⟨#[]⟩, .bool false, .string ⟨#[]⟩]).cells (n * 3)).toList = flatW (List.replicate n zeroW)
  | 0, _ => by kernel_rfl
  | 1, _ => by kernel_rfl
  | 2, _ => by kernel_rfl
  | 3, _ => by kernel_rfl
  | 4, _ => by kernel_rfl
  | 5, _ => by kernel_rfl
  | 6, _ => by kernel_rfl
  | 7, _ => by kernel_rfl
  | 8, _ => by kernel_rfl
  | n + 9, h => by omega
theorem owns_at {w : World} {base : Nat} {e : TypeId} {size g n cap : Nat} {xs : List Value} (h : w.ownsRow base e size (.slice (some ⟨g, 0, none⟩) n cap) n xs) (j : Nat) (hj : j < xs.length) : ∃ v, w.cell? ⟨g, j, none⟩ = some v := by
  rcases At.of_owns h with h0 | ⟨b, off, ha, hl⟩
  · rw [h0] at hj; simp at hj
  · simp only [Option.some.injEq, Addr.mk.injEq, and_true] at ha
    obtain ⟨rfl, rfl⟩ := ha
    have := hl j xs[j] (List.getElem?_eq_getElem hj)
    rw [Nat.zero_add] at this
    exact ⟨_, this⟩
/-- what a walk asks of three cells that it writes one behind the other -/
theorem put_facts {w : World} {base : Nat} {e : TypeId} {g n cap : Nat} {xs : List Value} (h : w.ownsRow base e 3 (.slice (some ⟨g, 0, none⟩) n cap) n xs) (k : Nat) (hk : k * 3 + 2 < xs.length) (u0 u1 : Value) :
    ∃ o0 o1 o2, w.cell? ⟨g, k * 3, none⟩ = some o0 ∧ w.frozen? ⟨g, k * 3, none⟩ = false ∧ (w.setCell ⟨g, k * 3, none⟩ u0).cell? ⟨g, k * 3 + 1, none⟩ = some o1 ∧ (w.setCell ⟨g, k * 3, none⟩ u0).frozen? ⟨g, k * 3 + 1, none⟩ = false
      ∧ ((w.setCell ⟨g, k * 3, none⟩ u0).setCell ⟨g, k * 3 + 1, none⟩ u1).cell? ⟨g, k * 3 + 2, none⟩ = some o2 ∧ ((w.setCell ⟨g, k * 3, none⟩ u0).setCell ⟨g, k * 3 + 1, none⟩ u1).frozen? ⟨g, k * 3 + 2, none⟩ = false := by
  have h1 := owns_set h (k * 3) u0
  have h2 := owns_set h1 (k * 3 + 1) u1
  obtain ⟨o0, e0⟩ := owns_at h (k * 3) (by omega)
  obtain ⟨o1, e1⟩ := owns_at h1 (k * 3 + 1) (by simp; omega)
  obtain ⟨o2, e2⟩ := owns_at h2 (k * 3 + 2) (by simp; omega)
  exact ⟨o0, o1, o2, e0, h.frozenAt _, e1, h1.frozenAt _, e2, h2.frozenAt _⟩
theorem flatW_set : ∀ (l : List Wr) (k : Nat) (x : Wr), k < l.length → (((flatW l).set (k * 3) (.string x.key)).set (k * 3 + 1) (.bool x.del)).set (k * 3 + 2) (.string x.val) = flatW (l.set k x)
  | [], k, x, h => by simp at h
  | y :: r, 0, x, h => rfl
  | y :: r, k + 1, x, h => by
    have h1 := flatW_set r k x (by simpa using h)
    rw [show (k + 1) * 3 = k * 3 + 1 + 1 + 1 by omega]
    rw [List.set_cons_succ]
    show _ = wrC y ++ flatW (r.set k x)
    rw [← h1]
    rfl
theorem set_next (acc : List Wr) (x z : Wr) (m : Nat) : (acc ++ List.replicate (m + 1) z).set acc.length x = acc ++ [x] ++ List.replicate m z := by
  rw [List.replicate_succ, List.set_append_right _ _ (Nat.le_refl _), Nat.sub_self]; simp
structure ReadXAt (b : ByteArray) (n : Nat) (w : World) (g k p : Nat) (acc : List Wr) (wr : World) : Prop where
  le : k ≤ n
  pl : p ≤ b.size
  len : acc.length = k
  short : ∀ x ∈ acc, x.key.size ≤ 48
  told : readW b = readGo b (n - k) p acc
  own : WMine wr w.heap.size (.slice (some ⟨g, 0, none⟩) n n) (acc ++ List.replicate (n - k) zeroW)
  below : Below w.heap.size w wr
set_option maxRecDepth 100000 in
set_option maxHeartbeats 8000000 in
theorem read_any (b : ByteArray) (hb : b.size ≤ 9000000000000000000) (w : World) (hT : Tb w) :
    Calls Tryd.prog 41 #[.string b] w (ReadSays (readW b) w) := by
  have hml : b.size ≤ maxLen := by simp only [maxLen]; omega
  have HGN := Lib.hid (fun w => getNum_any b hml 0 w)
  have HT := Lib.hid hT
  clear hT
  by_cases h0 : (getN b 0).2.2 = 0
  · obtain ⟨k0, n, n1, -, -, -, hgn, hn32, hp0, -, -⟩ := getN_ok h0
    have HRW : Hid (readW b = if n < 1 ∨ 8 < n then ([], 12) else readGo b n (k0 + n1) []) := by
      unfold readW; rw [hgn, if_neg (by simp)]; rfl
    rw [hgn] at HGN
    unfold tupN at HGN
    obtain ⟨p0, hpe⟩ : ∃ p0, p0 = k0 + n1 := ⟨_, rfl⟩
    rw [← hpe] at HGN HRW hp0
    clear h0 hgn hpe
    by_cases hn : n < 1 ∨ 8 < n
    · rw [if_pos hn] at HRW
      have hd : decide ((n : Int) < 1) = true ∨ (decide ((n : Int) < 1) = false ∧ decide ((8 : Int) < (n : Int)) = true) := by simp; omega
      clear hn
      rcases hd with d1 | ⟨d1, d2⟩
      all_goals
        go_enter Tryd.func41, Tryd.ntmps41
        go_wp2_with (go_at_call 75; (with_reducible refine (HGN.out _).mono ?_); rintro e w' ⟨rfl, rfl⟩)
        go_ret2
        exact ⟨_, by rw [HRW.out]; rfl, by rw [HRW.out]; exact WMine.nil _ _, Below.refl _ _⟩
    · rw [if_neg hn] at HRW
      have d1 : decide ((n : Int) < 1) = false := by simp; omega
      have d2 : decide ((8 : Int) < (n : Int)) = false := by simp; omega
      have hn8 : n ≤ 8 := by omega
      have hn1 : 1 ≤ n := by omega
      clear hn
      go_enter Tryd.func41, Tryd.ntmps41
      obtain ⟨i0, hi, hz0, hz1, hz2⟩ := info_parts infoW
      obtain ⟨w1, hmk, hown, hgr⟩ := run_makeSlice_full (P := Tryd.prog) w w.heap.size 25 55 i0 _ 3 Tryd.underlying25 hi hz0 hz1 .u32 .u32 n (by omega) (by rw [hz2]; omega) (by simp only [maxLen]; omega) (Nat.le_refl _)
      rw [made_flat n hn8] at hown
      have HO1 := Lib.hid hown
      have HB1 := Lib.hid (below_append (Below.refl w.heap.size w) hgr (Nat.le_refl _) (by simp))
      clear hown hgr hi hz0 hz1 hz2
      go_wp2_with (go_at_call 75; (with_reducible refine (HGN.out _).mono ?_); rintro e w' ⟨rfl, rfl⟩)
      go_loopw [5, 29] (fun at_ i wr => ∃ (k p : Nat) (acc : List Wr), i = .int .i64 (k : Int) ∧ at_ = .int .i64 (p : Int) ∧ ReadXAt b n w w.heap.size k p acc wr) (fun _ i _ => n - (intOf i).toNat)
      case atStart => exact ⟨0, p0, [], rfl, rfl, ⟨Nat.zero_le _, hp0, rfl, by simp, HRW.out, by unfold WMine; rw [List.nil_append, List.length_replicate]; exact HO1.out, HB1.out⟩⟩
      case round =>
        obtain ⟨k, p, acc, rfl, rfl, hkn, hpl, hlen, hshort, htold, hown, hbel⟩ := hrel
        have HO := Lib.hid hown
        have HB := Lib.hid hbel
        have HSH := Lib.hid hshort
        have HG := Lib.hid htold
        have hbs := hbel.size
        clear hown hbel hshort htold HRW HGN HO1 HB1 hmk
        by_cases hlt : k < n
        · have d3 : decide ((k : Int) < (n : Int)) = true := by simp; omega
          have d4 : decide (k < n) = true := by simp; omega
          rw [show n - k = (n - (k + 1)) + 1 by omega, readGo_get] at HG
          have HGW := Lib.hid (fun w => getWrite_any b hb p hpl w)
          have HOK := Lib.hid (fun h => getWr_ok (b := b) (p := p) h)
          unfold tupW aggW at HGW
          generalize getWr b p = r at *
          obtain ⟨x, p1, e1⟩ := r
          simp only at HG HGW HOK
          by_cases he1 : e1 = 0
          · subst he1
            rw [if_neg (by simp)] at HG
            have hok := HOK.out rfl
            have hs1 := hok.1
            have hp1 := hok.2
            clear HOK hok
            go_wp2_with fail
            go_at_call 76
            with_reducible refine (HGW.out _).mono ?_
            rintro e w2 ⟨rfl, hb2⟩
            have HB2 := Lib.hid (belX HB.out hb2)
            have HO2 := Lib.hid (show w2.ownsRow w.heap.size 55 3 (.slice (some ⟨w.heap.size, 0, none⟩) n n) n (flatW (acc ++ List.replicate (n - k) zeroW)) from by
              have := owns_below HO.out hb2
              rw [show (acc ++ List.replicate (n - k) zeroW).length = n by simp; omega] at this
              exact this)
            clear hb2 HO HGW
            have hlw : k * 3 + 2 < (flatW (acc ++ List.replicate (n - k) zeroW)).length := by rw [flatW_length]; simp; omega
            have HPF := Lib.hid (put_facts HO2.out k hlw (.string x.key) (.bool x.del))
            clear hlw
            with_reducible refine Exists.elim HPF.out ?_
            intro o0 hh
            with_reducible refine Exists.elim hh ?_
            intro o1 hh
            with_reducible refine Exists.elim hh ?_
            intro o2 hh
            have f0 := hh.1
            have f1 := hh.2.1
            have f2 := hh.2.2.1
            have f3 := hh.2.2.2.1
            have f4 := hh.2.2.2.2.1
            have f5 := hh.2.2.2.2.2
            clear hh HPF
            have HB3 := Lib.hid (((HB2.out.setCell (p := ⟨w.heap.size, k * 3, none⟩) (Nat.le_refl _) (.string x.key)).setCell (p := ⟨w.heap.size, k * 3 + 1, none⟩) (Nat.le_refl _) (.bool x.del)).setCell (p := ⟨w.heap.size, k * 3 + 2, none⟩) (Nat.le_refl _) (.string x.val))
            have HO3 := Lib.hid (owns_set (owns_set (owns_set HO2.out (k * 3) (.string x.key)) (k * 3 + 1) (.bool x.del)) (k * 3 + 2) (.string x.val))
            rw [flatW_set _ k x (by simp; omega), show n - k = n - (k + 1) + 1 by omega] at HO3
            have HSN := Lib.hid (show (acc ++ List.replicate (n - (k + 1) + 1) zeroW).set k x = acc ++ [x] ++ List.replicate (n - (k + 1)) zeroW from by have := set_next acc x zeroW (n - (k + 1)); rwa [hlen] at this)
            go_wp2
            refine ⟨⟨k + 1, p1, acc ++ [x], by go_num, by go_num, ⟨by omega, hp1, by simp; omega, ?_, HG.out, ?_, HB3.out⟩⟩, by simp [intOf]; omega⟩
            · intro z hz
              rcases List.mem_append.1 hz with hz | hz
              · exact HSH.out z hz
              · rw [List.mem_singleton.1 hz]; exact hs1
            · have h := HO3.out
              rw [HSN.out] at h
              unfold WMine
              rw [show (acc ++ [x] ++ List.replicate (n - (k + 1)) zeroW).length = n by simp; omega]
              exact h
          · rw [if_pos he1] at HG
            have q3 : ((e1 : Int) == 0) = false := by simpa using he1
            clear he1 HOK
            go_wp2_with fail
            go_at_call 76
            with_reducible refine (HGW.out _).mono ?_
            rintro e w2 ⟨rfl, hb2⟩
            have HB2 := Lib.hid (belX HB.out hb2)
            have HO2 := Lib.hid (show w2.ownsRow w.heap.size 55 3 (.slice (some ⟨w.heap.size, 0, none⟩) n n) n (flatW (acc ++ List.replicate (n - k) zeroW)) from by
              have := owns_below HO.out hb2
              rw [show (acc ++ List.replicate (n - k) zeroW).length = n by simp; omega] at this
              exact this)
            clear hb2 HO HGW
            have hlw : k * 3 + 2 < (flatW (acc ++ List.replicate (n - k) zeroW)).length := by rw [flatW_length]; simp; omega
            have HPF := Lib.hid (put_facts HO2.out k hlw (.string x.key) (.bool x.del))
            clear hlw
            with_reducible refine Exists.elim HPF.out ?_
            intro o0 hh
            with_reducible refine Exists.elim hh ?_
            intro o1 hh
            with_reducible refine Exists.elim hh ?_
            intro o2 hh
            have f0 := hh.1
            have f1 := hh.2.1
            have f2 := hh.2.2.1
            have f3 := hh.2.2.2.1
            have f4 := hh.2.2.2.2.1
            have f5 := hh.2.2.2.2.2
            clear hh HPF
            have HB3 := Lib.hid (((HB2.out.setCell (p := ⟨w.heap.size, k * 3, none⟩) (Nat.le_refl _) (.string x.key)).setCell (p := ⟨w.heap.size, k * 3 + 1, none⟩) (Nat.le_refl _) (.bool x.del)).setCell (p := ⟨w.heap.size, k * 3 + 2, none⟩) (Nat.le_refl _) (.string x.val))
            go_wp2
            go_ret2
            exact ⟨_, by rw [HG.out]; rfl, by rw [HG.out]; exact WMine.nil _ _, HB3.out⟩
        · have d3 : decide ((k : Int) < (n : Int)) = false := by simp; omega
          have d4 : decide (k < n) = false := by simp; omega
          have hkn2 : k = n := by omega
          subst hkn2
          rw [Nat.sub_self, readGo] at HG
          have HO2 := Lib.hid (show WMine wr w.heap.size (.slice (some ⟨w.heap.size, 0, none⟩) acc.length k) acc by
            have := HO.out
            rw [Nat.sub_self, List.replicate_zero, List.append_nil] at this
            rw [hlen]; exact this)
          clear HO
          by_cases hpe : p = b.size
          · rw [if_pos hpe] at HG
            have q1 : decide ((p : Int) < (b.size : Int)) = false := by simp; omega
            have q2 : decide (p < b.size) = false := by simp; omega
            have HRT := Lib.hid (right_any (some ⟨w.heap.size, 0, none⟩) acc k (by simp only [maxLen]; omega) (fun x hx => Nat.le_trans (HSH.out x hx) (by decide)) wr (HT.out.below HB.out) (Tup.At.of_owns HO2.out))
            rw [hlen] at HRT HO2
            clear hpe
            by_cases hc : rightW acc = 0
            · rw [if_pos hc] at HG
              rw [hc] at HRT
              go_wp2_with (go_at_call 53; (with_reducible refine HRT.out.mono ?_); rintro e w3 ⟨rfl, hb3⟩)
              go_ret2
              exact ⟨_, by rw [HG.out]; rfl, by rw [HG.out]; exact owns_below HO2.out hb3, HB.out.trans (hb3.mono hbs)⟩
            · rw [if_neg hc] at HG
              generalize rightW acc = cc at *
              have q3 : ((cc : Int) == 0) = false := by simpa using hc
              clear hc
              go_wp2_with (go_at_call 53; (with_reducible refine HRT.out.mono ?_); rintro e w3 ⟨rfl, hb3⟩)
              go_ret2
              exact ⟨_, by rw [HG.out]; rfl, by rw [HG.out]; exact WMine.nil _ _, HB.out.trans (hb3.mono hbs)⟩
          · rw [if_neg hpe] at HG
            have q1 : decide ((p : Int) < (b.size : Int)) = true := by simp; omega
            have q2 : decide (p < b.size) = true := by simp; omega
            clear hpe
            go_wp2
            go_ret2
            exact ⟨_, by rw [HG.out]; rfl, by rw [HG.out]; exact WMine.nil _ _, HB.out⟩
  · have HE := Lib.hid (show readW b = ([], (getN b 0).2.2) by unfold readW; rw [if_pos h0])
    unfold tupN at HGN
    generalize getN b 0 = r at *
    have q1 : ((r.2.2 : Int) == 0) = false := by simpa using h0
    clear h0
    go_enter Tryd.func41, Tryd.ntmps41
    go_wp2_with (go_at_call 75; (with_reducible refine (HGN.out _).mono ?_); rintro e w' ⟨rfl, rfl⟩)
    go_ret2
    exact ⟨_, by rw [HE.out]; rfl, by rw [HE.out]; exact WMine.nil _ _, Below.refl _ _⟩
end Go.Proofs.YtligapgjdpdihaaDoor.Batch
