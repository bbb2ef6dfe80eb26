/-
  What the document's own Right answers of any writes.
-/
import Derived.Test.YtligapgjdpdihaaGreatDoorRunBatchM
import Derived.Test.YtligapgjdpdihaaGreatDoorRunRegion
set_option linter.unusedVariables false
set_option linter.unusedSimpArgs false
namespace Go.Proofs.YtligapgjdpdihaaGreatDoor.Batch
open Go.RowKit
open Own Tup RefKeys RefSort
open Go.Proofs.YtligapgjdpdihaaGreatDoor.Region (fill Then Deps Each wp_region_is)

theorem toList_empty : ByteArray.empty.toList = [] := by rw [ByteArray.toList_eq]; rfl
theorem eq_empty (s : ByteArray) : (s.toList == ([] : List UInt8)) = decide (s = ByteArray.empty) := by rw [← toList_empty, str_neq]
def badW (prev : Option ByteArray) (x : Wr) : Bool := (x.del && !decide (x.val = ByteArray.empty)) || (match prev with | none => false | some p => !aheadB p x.key)
/-- what is wrong first -/
def rightGo (prev : Option ByteArray) : List Wr → Nat
  | [] => 0
  | x :: r => if keyRight x.key = false then 10 else if 48 < x.val.size then 11 else if badW prev x then 2 else rightGo (some x.key) r
def rightW (l : List Wr) : Nat := if l.length < 1 ∨ 8 < l.length then 12 else rightGo none l
def prevOf (l : List Wr) (k : Nat) : Option ByteArray := if k = 0 then none else l[k - 1]?.map (·.key)
theorem right_key {l : List Wr} {k : Nat} (h : k < l.length) (hk : keyRight l[k].key = false) : rightGo (prevOf l k) (l.drop k) = 10 := by
  rw [List.drop_eq_getElem_cons h, rightGo, if_pos hk]
theorem right_val {l : List Wr} {k : Nat} (h : k < l.length) (hk : keyRight l[k].key = true) (hv : 48 < l[k].val.size) : rightGo (prevOf l k) (l.drop k) = 11 := by
  rw [List.drop_eq_getElem_cons h, rightGo, if_neg (by simp [hk]), if_pos hv]
theorem right_bad {l : List Wr} {k : Nat} (h : k < l.length) (hk : keyRight l[k].key = true) (hv : ¬ 48 < l[k].val.size) (hb : badW (prevOf l k) l[k] = true) : rightGo (prevOf l k) (l.drop k) = 2 := by
  rw [List.drop_eq_getElem_cons h, rightGo, if_neg (by simp [hk]), if_neg hv, if_pos hb]
theorem right_next {l : List Wr} {k : Nat} (h : k < l.length) (hk : keyRight l[k].key = true) (hv : ¬ 48 < l[k].val.size) (hb : badW (prevOf l k) l[k] = false) : rightGo (prevOf l k) (l.drop k) = rightGo (prevOf l (k + 1)) (l.drop (k + 1)) := by
  rw [List.drop_eq_getElem_cons h, rightGo, if_neg (by simp [hk]), if_neg hv, if_neg (by simp [hb])]
  simp [prevOf, h]
set_option maxRecDepth 100000 in
set_option maxHeartbeats 8000000 in
theorem refRight_any (a : Option Addr) (l : List Wr) (cap : Nat) (hl : l.length ≤ maxLen) (hz : ∀ x ∈ l, x.key.size ≤ 8796093022208) (w : World) (hr : WAt w a l) :
    Calls Tryz.prog 52 #[.slice a l.length cap] w fun e w' => e = .returned (.int .i64 ((rightW l : Nat) : Int)) ∧ Below w.heap.size w w' := by
  unfold maxLen at hl
  have HR := Lib.hid hr
  have HZ := Lib.hid hz
  clear hr hz
  by_cases hn : l.length < 1 ∨ 8 < l.length
  · have HE := Lib.hid (show rightW l = 12 by unfold rightW; rw [if_pos hn])
    rcases hn with hn | hn
    · have d1 : decide ((l.length : Int) < 1) = true := by simp; omega
      go_enter Tryz.func52, Tryz.ntmps52
      go_wp2
      go_ret
      exact ⟨by rw [HE.out]; rfl, Below.refl _ _⟩
    · have d1 : decide ((l.length : Int) < 1) = false := by simp; omega
      have d2 : decide ((8 : Int) < (l.length : Int)) = true := by simp; omega
      go_enter Tryz.func52, Tryz.ntmps52
      go_wp2
      go_ret
      exact ⟨by rw [HE.out]; rfl, Below.refl _ _⟩
  · have HE := Lib.hid (show rightW l = rightGo (prevOf l 0) (l.drop 0) by unfold rightW; rw [if_neg hn]; rfl)
    obtain ⟨n, hnn⟩ : ∃ n, n = l.length := ⟨_, rfl⟩
    rw [← hnn] at hn ⊢
    have HNL := Lib.hid hnn
    clear hl hnn
    have d1 : decide ((n : Int) < 1) = false := by simp; omega
    have d2 : decide ((8 : Int) < (n : Int)) = false := by simp; omega
    have hn8 : n ≤ 8 := by omega
    clear hn
    go_enter Tryz.func52, Tryz.ntmps52
    go_wp2
    go_loopw [3] (fun i wr => ∃ k : Nat, i = .int .i64 (k : Int) ∧ k ≤ n ∧ rightW l = rightGo (prevOf l k) (l.drop k) ∧ Below w.heap.size w wr) (fun i _ => n - (intOf i).toNat)
    case atStart => exact ⟨0, rfl, Nat.zero_le _, HE.out, Below.refl _ _⟩
    case round =>
      obtain ⟨k, rfl, hk, hg, hbel⟩ := hrel
      have HG := Lib.hid hg
      have HB := Lib.hid hbel
      clear hg hbel HE
      by_cases hlt : k < n
      · have h1 : k < l.length := by rw [← HNL.out]; exact hlt
        have d3 : decide ((k : Int) < (n : Int)) = true := by simp; omega
        have d4 : decide (k < n) = true := by simp; omega
        obtain ⟨b, off, ha, c0, c1, c2⟩ := WAt.get (Tup.At.below HR.out HB.out) (List.getElem?_eq_getElem h1)
        have HK1 := Lib.hid (fun h => right_key h1 h)
        have HK2 := Lib.hid (fun h h' => right_val h1 h h')
        have HK3 := Lib.hid (fun h h' h'' => right_bad h1 h h' h'')
        have HK4 := Lib.hid (fun h h' h'' => right_next h1 h h' h'')
        have HKR := Lib.hid (fun w => keyRight_any l[k].key (HZ.out _ (List.getElem_mem h1)) w)
        have hxz := HZ.out _ (List.getElem_mem h1)
        generalize hx : l[k] = x at *
        clear hx h1
        subst ha
        have HC0 := Lib.hid (And.intro c0 (And.intro c1 c2))
        cases hkr : keyRight x.key with
        | false =>
          have HST := Lib.hid (HK1.out hkr)
          rw [hkr] at HKR
          go_wp2_with (go_at_call 82; (with_reducible refine (HKR.out _).mono ?_); rintro e w2 ⟨rfl, hb2⟩)
          go_ret
          exact ⟨by rw [HG.out, HST.out]; rfl, HB.out.trans (hb2.mono HB.out.size)⟩
        | true =>
          rw [hkr] at HKR
          go_wp2_with fail
          go_at_call 82
          with_reducible refine (HKR.out _).mono ?_
          rintro e wq ⟨rfl, hBq⟩
          have HC : Hid (wq.cell? ⟨b, off + k * 3, none⟩ = some (.string x.key) ∧ wq.cell? ⟨b, off + k * 3 + 1, none⟩ = some (.bool x.del) ∧ wq.cell? ⟨b, off + k * 3 + 2, none⟩ = some (.string x.val)) :=
            ⟨by rw [hBq.cell (p := ⟨b, off + k * 3, none⟩) (block_lt_of_cell HC0.out.1)]; exact HC0.out.1, by rw [hBq.cell (p := ⟨b, off + k * 3 + 1, none⟩) (block_lt_of_cell HC0.out.2.1)]; exact HC0.out.2.1, by rw [hBq.cell (p := ⟨b, off + k * 3 + 2, none⟩) (block_lt_of_cell HC0.out.2.2)]; exact HC0.out.2.2⟩
          clear c0 c1 c2
          have c2 := HC.out.2.2
          by_cases hv : 48 < x.val.size
          · have HST := Lib.hid (HK2.out hkr hv)
            have d5 : decide ((48 : Int) < (x.val.size : Int)) = true := by simp; omega
            go_wp2
            go_ret
            exact ⟨by rw [HG.out, HST.out]; rfl, HB.out.trans (hBq.mono HB.out.size)⟩
          · have d5 : decide ((48 : Int) < (x.val.size : Int)) = false := by simp; omega
            clear c2
            obtain ⟨c1, c2⟩ := HC.out.2
            have c0 := HC.out.1
            go_wp2
            have qe := eq_empty x.val
            cases hdel : x.del with
            | false =>
              rw [hdel] at HC c1
              clear qe
              by_cases hk0 : k = 0
              · have HP := Lib.hid (show prevOf l k = none by unfold prevOf; rw [if_pos hk0])
                have qk : decide ((0 : Int) < (k : Int)) = false := by simp; omega
                have qk2 : decide (0 < k) = false := by simp; omega
                have HST := Lib.hid (HK4.out hkr hv (by rw [HP.out]; unfold badW; simp [hdel, Bool.false_and]))
                clear hk0
                refine wp_region_is [32, 33, 34, 35, 36, 37, 38, 39, 40, 41, 42, 43, 44, 45, 46, 47, 48, 49, 50, 51, 52, 53, 54, 55, 56, 57, 58, 59, 60, 61, 62, 63] (fun w' => Below wq.heap.size wq w')
                  [.slice (some ⟨b, off, none⟩) n cap, .int .i64 (k : Int), .pointer (some ⟨b, off + k * 3, none⟩), .pointer (some ⟨b, off + k * 3 + 1, none⟩), .bool false, .bool false, undef, undef, undef, undef, undef, undef, .bool false, .bool false, .int .i64 (k : Int), .bool false, .bool false, undef, undef, undef, undef, undef, undef, undef, undef, undef, undef, undef, undef, undef, .bool false, .bool false] (by kernel_rfl) (by kernel_rfl) rfl (by decide) (by simp) (Below.refl _ _).drew ?each ?done
                case each =>
                  clear HK1 HK2 HK3 HK4 HKR HST HG HB HR HZ HNL hBq HC0 d1 d2 d5 hkr hv
                  simp only [Each]
                  repeat' (first | exact trivial | refine And.intro ?_ ?_)
                  all_goals
                    intro ys wx hBx hdeps
                    simp only [Deps, Region.binds, List.getD_cons_zero, List.getD_cons_succ, forall_const, and_true] at hdeps
                    have c0 : wx.cell? ⟨b, off + k * 3, none⟩ = some (.string x.key) := by rw [hBx.cell (p := ⟨b, off + k * 3, none⟩) (block_lt_of_cell HC.out.1)]; exact HC.out.1
                    have c1 : wx.cell? ⟨b, off + k * 3 + 1, none⟩ = some (.bool false) := by rw [hBx.cell (p := ⟨b, off + k * 3 + 1, none⟩) (block_lt_of_cell HC.out.2.1)]; exact HC.out.2.1
                    have c2 : wx.cell? ⟨b, off + k * 3 + 2, none⟩ = some (.string x.val) := by rw [hBx.cell (p := ⟨b, off + k * 3 + 2, none⟩) (block_lt_of_cell HC.out.2.2)]; exact HC.out.2.2
                    simp only [hdeps, fill, List.foldl_cons, List.foldl_nil, Act.put, List.setIfInBounds_toArray, List.set_cons_succ, List.set_cons_zero]
                    go_wp2_with fail
                    exact ⟨_, rfl, rfl, hBx, Below.refl _ _⟩
                case done =>
                  intro ys wx hBx hV
                  have h63 : ys 63 = .bool false := hV 31 (by decide)
                  simp only [h63, fill, List.foldl_cons, List.foldl_nil, Act.put, List.setIfInBounds_toArray, List.set_cons_succ, List.set_cons_zero]
                  go_wp2
                  go_roundw
                  case rel => exact ⟨k + 1, by go_num, by omega, by rw [HG.out, HST.out], HB.out.trans (hBq.mono HB.out.size |>.trans (hBx.mono (Nat.le_trans HB.out.size hBq.size)))⟩
                  case measure => simp [intOf]; omega
              · obtain ⟨j, hj⟩ : ∃ j, k = j + 1 := ⟨k - 1, by omega⟩
                have h2 : j < l.length := by rw [← HNL.out]; omega
                have HP := Lib.hid (show prevOf l k = some l[j].key by unfold prevOf; rw [if_neg hk0, hj, Nat.add_sub_cancel, List.getElem?_eq_getElem h2]; rfl)
                have qk : decide ((0 : Int) < (k : Int)) = true := by simp; omega
                have qk2 : decide (0 < k) = true := by simp; omega
                have hkj : (k : Int) - 1 = (j : Int) := by omega
                have hjn : j < n := by omega
                obtain ⟨b2, off2, ha2, f0, -, -⟩ := WAt.get (Tup.At.below HR.out HB.out) (List.getElem?_eq_getElem h2)
                simp only [Option.some.injEq, Addr.mk.injEq, and_true] at ha2
                obtain ⟨rfl, rfl⟩ := ha2
                have hyz := HZ.out _ (List.getElem_mem h2)
                generalize l[j] = y at *
                have HD : Hid (wq.cell? ⟨b, off + j * 3, none⟩ = some (.string y.key)) := by show wq.cell? _ = _; rw [hBq.cell (p := ⟨b, off + j * 3, none⟩) (block_lt_of_cell f0)]; exact f0
                clear h2 hj hk0 f0
                cases hah : aheadB y.key x.key with
                | true =>
                  have HA := Lib.hid (fun w => ahead_any y.key x.key hyz hxz true hah w)
                  have HST := Lib.hid (HK4.out hkr hv (by rw [HP.out]; unfold badW; simp [hdel, Bool.false_and, hah]))
                  clear hah
                  refine wp_region_is [32, 33, 34, 35, 36, 37, 38, 39, 40, 41, 42, 43, 44, 45, 46, 47, 48, 49, 50, 51, 52, 53, 54, 55, 56, 57, 58, 59, 60, 61, 62, 63] (fun w' => Below wq.heap.size wq w')
                    [.slice (some ⟨b, off, none⟩) n cap, .int .i64 (k : Int), .pointer (some ⟨b, off + k * 3, none⟩), .pointer (some ⟨b, off + k * 3 + 1, none⟩), .bool false, .bool false, undef, undef, undef, undef, undef, undef, .bool false, .bool false, .int .i64 (k : Int), .bool true, .bool true, .slice (some ⟨b, off, none⟩) n cap, .int .i64 (k : Int), .int .i64 (j : Int), .pointer (some ⟨b, off + j * 3, none⟩), .pointer (some ⟨b, off + j * 3, none⟩), .string y.key, .slice (some ⟨b, off, none⟩) n cap, .int .i64 (k : Int), .pointer (some ⟨b, off + k * 3, none⟩), .pointer (some ⟨b, off + k * 3, none⟩), .string x.key, .bool true, .bool false, .bool false, .bool false] (by kernel_rfl) (by kernel_rfl) rfl (by decide) (by simp) (Below.refl _ _).drew ?each ?done
                  case each =>
                    clear HK1 HK2 HK3 HK4 HKR HST HG HB HR HZ HNL hBq HC0 d1 d2 d5 hkr hv
                    simp only [Each]
                    repeat' (first | exact trivial | refine And.intro ?_ ?_)
                    all_goals
                      intro ys wx hBx hdeps
                      simp only [Deps, Region.binds, List.getD_cons_zero, List.getD_cons_succ, forall_const, and_true] at hdeps
                      have c0 : wx.cell? ⟨b, off + k * 3, none⟩ = some (.string x.key) := by rw [hBx.cell (p := ⟨b, off + k * 3, none⟩) (block_lt_of_cell HC.out.1)]; exact HC.out.1
                      have c1 : wx.cell? ⟨b, off + k * 3 + 1, none⟩ = some (.bool false) := by rw [hBx.cell (p := ⟨b, off + k * 3 + 1, none⟩) (block_lt_of_cell HC.out.2.1)]; exact HC.out.2.1
                      have c2 : wx.cell? ⟨b, off + k * 3 + 2, none⟩ = some (.string x.val) := by rw [hBx.cell (p := ⟨b, off + k * 3 + 2, none⟩) (block_lt_of_cell HC.out.2.2)]; exact HC.out.2.2
                      have e0 : wx.cell? ⟨b, off + j * 3, none⟩ = some (.string y.key) := by rw [hBx.cell (p := ⟨b, off + j * 3, none⟩) (block_lt_of_cell HD.out)]; exact HD.out
                      simp only [hdeps, fill, List.foldl_cons, List.foldl_nil, Act.put, List.setIfInBounds_toArray, List.set_cons_succ, List.set_cons_zero]
                      first
                        | (go_wp2_with fail; exact ⟨_, rfl, rfl, hBx, Below.refl _ _⟩)
                        | (go_wp2_with (go_at_call 83; (with_reducible refine (HA.out _).mono ?_); rintro e w3 ⟨rfl, hn⟩); exact ⟨_, rfl, rfl, hBx.trans (hn.mono hBx.size), hn⟩)
                  case done =>
                    intro ys wx hBx hV
                    have h63 : ys 63 = .bool false := hV 31 (by decide)
                    simp only [h63, fill, List.foldl_cons, List.foldl_nil, Act.put, List.setIfInBounds_toArray, List.set_cons_succ, List.set_cons_zero]
                    go_wp2
                    go_roundw
                    case rel => exact ⟨k + 1, by go_num, by omega, by rw [HG.out, HST.out], HB.out.trans (hBq.mono HB.out.size |>.trans (hBx.mono (Nat.le_trans HB.out.size hBq.size)))⟩
                    case measure => simp [intOf]; omega
                | false =>
                  have HA := Lib.hid (fun w => ahead_any y.key x.key hyz hxz false hah w)
                  have HST := Lib.hid (HK3.out hkr hv (by rw [HP.out]; unfold badW; simp [hdel, Bool.false_and, hah]))
                  clear hah
                  refine wp_region_is [32, 33, 34, 35, 36, 37, 38, 39, 40, 41, 42, 43, 44, 45, 46, 47, 48, 49, 50, 51, 52, 53, 54, 55, 56, 57, 58, 59, 60, 61, 62, 63] (fun w' => Below wq.heap.size wq w')
                    [.slice (some ⟨b, off, none⟩) n cap, .int .i64 (k : Int), .pointer (some ⟨b, off + k * 3, none⟩), .pointer (some ⟨b, off + k * 3 + 1, none⟩), .bool false, .bool false, undef, undef, undef, undef, undef, undef, .bool false, .bool false, .int .i64 (k : Int), .bool true, .bool true, .slice (some ⟨b, off, none⟩) n cap, .int .i64 (k : Int), .int .i64 (j : Int), .pointer (some ⟨b, off + j * 3, none⟩), .pointer (some ⟨b, off + j * 3, none⟩), .string y.key, .slice (some ⟨b, off, none⟩) n cap, .int .i64 (k : Int), .pointer (some ⟨b, off + k * 3, none⟩), .pointer (some ⟨b, off + k * 3, none⟩), .string x.key, .bool false, .bool true, .bool true, .bool true] (by kernel_rfl) (by kernel_rfl) rfl (by decide) (by simp) (Below.refl _ _).drew ?each ?done
                  case each =>
                    clear HK1 HK2 HK3 HK4 HKR HST HG HB HR HZ HNL hBq HC0 d1 d2 d5 hkr hv
                    simp only [Each]
                    repeat' (first | exact trivial | refine And.intro ?_ ?_)
                    all_goals
                      intro ys wx hBx hdeps
                      simp only [Deps, Region.binds, List.getD_cons_zero, List.getD_cons_succ, forall_const, and_true] at hdeps
                      have c0 : wx.cell? ⟨b, off + k * 3, none⟩ = some (.string x.key) := by rw [hBx.cell (p := ⟨b, off + k * 3, none⟩) (block_lt_of_cell HC.out.1)]; exact HC.out.1
                      have c1 : wx.cell? ⟨b, off + k * 3 + 1, none⟩ = some (.bool false) := by rw [hBx.cell (p := ⟨b, off + k * 3 + 1, none⟩) (block_lt_of_cell HC.out.2.1)]; exact HC.out.2.1
                      have c2 : wx.cell? ⟨b, off + k * 3 + 2, none⟩ = some (.string x.val) := by rw [hBx.cell (p := ⟨b, off + k * 3 + 2, none⟩) (block_lt_of_cell HC.out.2.2)]; exact HC.out.2.2
                      have e0 : wx.cell? ⟨b, off + j * 3, none⟩ = some (.string y.key) := by rw [hBx.cell (p := ⟨b, off + j * 3, none⟩) (block_lt_of_cell HD.out)]; exact HD.out
                      simp only [hdeps, fill, List.foldl_cons, List.foldl_nil, Act.put, List.setIfInBounds_toArray, List.set_cons_succ, List.set_cons_zero]
                      first
                        | (go_wp2_with fail; exact ⟨_, rfl, rfl, hBx, Below.refl _ _⟩)
                        | (go_wp2_with (go_at_call 83; (with_reducible refine (HA.out _).mono ?_); rintro e w3 ⟨rfl, hn⟩); exact ⟨_, rfl, rfl, hBx.trans (hn.mono hBx.size), hn⟩)
                  case done =>
                    intro ys wx hBx hV
                    have h63 : ys 63 = .bool true := hV 31 (by decide)
                    simp only [h63, fill, List.foldl_cons, List.foldl_nil, Act.put, List.setIfInBounds_toArray, List.set_cons_succ, List.set_cons_zero]
                    go_wp2
                    go_ret
                    exact ⟨by rw [HG.out, HST.out]; rfl, HB.out.trans (hBq.mono HB.out.size |>.trans (hBx.mono (Nat.le_trans HB.out.size hBq.size)))⟩
            | true =>
              rw [hdel] at HC c1
              by_cases hne : x.val = ByteArray.empty
              · have HNE := Lib.hid hne
                have qv : (x.val.toList == ([] : List UInt8)) = true := by rw [qe]; simpa using hne
                clear hne qe
                by_cases hk0 : k = 0
                · have HP := Lib.hid (show prevOf l k = none by unfold prevOf; rw [if_pos hk0])
                  have qk : decide ((0 : Int) < (k : Int)) = false := by simp; omega
                  have qk2 : decide (0 < k) = false := by simp; omega
                  have HST := Lib.hid (HK4.out hkr hv (by rw [HP.out]; unfold badW; simp [hdel, HNE.out]))
                  clear hk0
                  refine wp_region_is [32, 33, 34, 35, 36, 37, 38, 39, 40, 41, 42, 43, 44, 45, 46, 47, 48, 49, 50, 51, 52, 53, 54, 55, 56, 57, 58, 59, 60, 61, 62, 63] (fun w' => Below wq.heap.size wq w')
                    [.slice (some ⟨b, off, none⟩) n cap, .int .i64 (k : Int), .pointer (some ⟨b, off + k * 3, none⟩), .pointer (some ⟨b, off + k * 3 + 1, none⟩), .bool true, .bool true, .slice (some ⟨b, off, none⟩) n cap, .int .i64 (k : Int), .pointer (some ⟨b, off + k * 3, none⟩), .pointer (some ⟨b, off + k * 3 + 2, none⟩), .string x.val, .bool false, .bool false, .bool false, .int .i64 (k : Int), .bool false, .bool false, undef, undef, undef, undef, undef, undef, undef, undef, undef, undef, undef, undef, undef, .bool false, .bool false] (by kernel_rfl) (by kernel_rfl) rfl (by decide) (by simp) (Below.refl _ _).drew ?each ?done
                  case each =>
                    clear HK1 HK2 HK3 HK4 HKR HST HG HB HR HZ HNL hBq HC0 d1 d2 d5 hkr hv
                    simp only [Each]
                    repeat' (first | exact trivial | refine And.intro ?_ ?_)
                    all_goals
                      intro ys wx hBx hdeps
                      simp only [Deps, Region.binds, List.getD_cons_zero, List.getD_cons_succ, forall_const, and_true] at hdeps
                      have c0 : wx.cell? ⟨b, off + k * 3, none⟩ = some (.string x.key) := by rw [hBx.cell (p := ⟨b, off + k * 3, none⟩) (block_lt_of_cell HC.out.1)]; exact HC.out.1
                      have c1 : wx.cell? ⟨b, off + k * 3 + 1, none⟩ = some (.bool true) := by rw [hBx.cell (p := ⟨b, off + k * 3 + 1, none⟩) (block_lt_of_cell HC.out.2.1)]; exact HC.out.2.1
                      have c2 : wx.cell? ⟨b, off + k * 3 + 2, none⟩ = some (.string x.val) := by rw [hBx.cell (p := ⟨b, off + k * 3 + 2, none⟩) (block_lt_of_cell HC.out.2.2)]; exact HC.out.2.2
                      simp only [hdeps, fill, List.foldl_cons, List.foldl_nil, Act.put, List.setIfInBounds_toArray, List.set_cons_succ, List.set_cons_zero]
                      go_wp2_with fail
                      exact ⟨_, rfl, rfl, hBx, Below.refl _ _⟩
                  case done =>
                    intro ys wx hBx hV
                    have h63 : ys 63 = .bool false := hV 31 (by decide)
                    simp only [h63, fill, List.foldl_cons, List.foldl_nil, Act.put, List.setIfInBounds_toArray, List.set_cons_succ, List.set_cons_zero]
                    go_wp2
                    go_roundw
                    case rel => exact ⟨k + 1, by go_num, by omega, by rw [HG.out, HST.out], HB.out.trans (hBq.mono HB.out.size |>.trans (hBx.mono (Nat.le_trans HB.out.size hBq.size)))⟩
                    case measure => simp [intOf]; omega
                · obtain ⟨j, hj⟩ : ∃ j, k = j + 1 := ⟨k - 1, by omega⟩
                  have h2 : j < l.length := by rw [← HNL.out]; omega
                  have HP := Lib.hid (show prevOf l k = some l[j].key by unfold prevOf; rw [if_neg hk0, hj, Nat.add_sub_cancel, List.getElem?_eq_getElem h2]; rfl)
                  have qk : decide ((0 : Int) < (k : Int)) = true := by simp; omega
                  have qk2 : decide (0 < k) = true := by simp; omega
                  have hkj : (k : Int) - 1 = (j : Int) := by omega
                  have hjn : j < n := by omega
                  obtain ⟨b2, off2, ha2, f0, -, -⟩ := WAt.get (Tup.At.below HR.out HB.out) (List.getElem?_eq_getElem h2)
                  simp only [Option.some.injEq, Addr.mk.injEq, and_true] at ha2
                  obtain ⟨rfl, rfl⟩ := ha2
                  have hyz := HZ.out _ (List.getElem_mem h2)
                  generalize l[j] = y at *
                  have HD : Hid (wq.cell? ⟨b, off + j * 3, none⟩ = some (.string y.key)) := by show wq.cell? _ = _; rw [hBq.cell (p := ⟨b, off + j * 3, none⟩) (block_lt_of_cell f0)]; exact f0
                  clear h2 hj hk0 f0
                  cases hah : aheadB y.key x.key with
                  | true =>
                    have HA := Lib.hid (fun w => ahead_any y.key x.key hyz hxz true hah w)
                    have HST := Lib.hid (HK4.out hkr hv (by rw [HP.out]; unfold badW; simp [hdel, HNE.out, hah]))
                    clear hah
                    refine wp_region_is [32, 33, 34, 35, 36, 37, 38, 39, 40, 41, 42, 43, 44, 45, 46, 47, 48, 49, 50, 51, 52, 53, 54, 55, 56, 57, 58, 59, 60, 61, 62, 63] (fun w' => Below wq.heap.size wq w')
                      [.slice (some ⟨b, off, none⟩) n cap, .int .i64 (k : Int), .pointer (some ⟨b, off + k * 3, none⟩), .pointer (some ⟨b, off + k * 3 + 1, none⟩), .bool true, .bool true, .slice (some ⟨b, off, none⟩) n cap, .int .i64 (k : Int), .pointer (some ⟨b, off + k * 3, none⟩), .pointer (some ⟨b, off + k * 3 + 2, none⟩), .string x.val, .bool false, .bool false, .bool false, .int .i64 (k : Int), .bool true, .bool true, .slice (some ⟨b, off, none⟩) n cap, .int .i64 (k : Int), .int .i64 (j : Int), .pointer (some ⟨b, off + j * 3, none⟩), .pointer (some ⟨b, off + j * 3, none⟩), .string y.key, .slice (some ⟨b, off, none⟩) n cap, .int .i64 (k : Int), .pointer (some ⟨b, off + k * 3, none⟩), .pointer (some ⟨b, off + k * 3, none⟩), .string x.key, .bool true, .bool false, .bool false, .bool false] (by kernel_rfl) (by kernel_rfl) rfl (by decide) (by simp) (Below.refl _ _).drew ?each ?done
                    case each =>
                      clear HK1 HK2 HK3 HK4 HKR HST HG HB HR HZ HNL hBq HC0 d1 d2 d5 hkr hv
                      simp only [Each]
                      repeat' (first | exact trivial | refine And.intro ?_ ?_)
                      all_goals
                        intro ys wx hBx hdeps
                        simp only [Deps, Region.binds, List.getD_cons_zero, List.getD_cons_succ, forall_const, and_true] at hdeps
                        have c0 : wx.cell? ⟨b, off + k * 3, none⟩ = some (.string x.key) := by rw [hBx.cell (p := ⟨b, off + k * 3, none⟩) (block_lt_of_cell HC.out.1)]; exact HC.out.1
                        have c1 : wx.cell? ⟨b, off + k * 3 + 1, none⟩ = some (.bool true) := by rw [hBx.cell (p := ⟨b, off + k * 3 + 1, none⟩) (block_lt_of_cell HC.out.2.1)]; exact HC.out.2.1
                        have c2 : wx.cell? ⟨b, off + k * 3 + 2, none⟩ = some (.string x.val) := by rw [hBx.cell (p := ⟨b, off + k * 3 + 2, none⟩) (block_lt_of_cell HC.out.2.2)]; exact HC.out.2.2
                        have e0 : wx.cell? ⟨b, off + j * 3, none⟩ = some (.string y.key) := by rw [hBx.cell (p := ⟨b, off + j * 3, none⟩) (block_lt_of_cell HD.out)]; exact HD.out
                        simp only [hdeps, fill, List.foldl_cons, List.foldl_nil, Act.put, List.setIfInBounds_toArray, List.set_cons_succ, List.set_cons_zero]
                        first
                          | (go_wp2_with fail; exact ⟨_, rfl, rfl, hBx, Below.refl _ _⟩)
                          | (go_wp2_with (go_at_call 83; (with_reducible refine (HA.out _).mono ?_); rintro e w3 ⟨rfl, hn⟩); exact ⟨_, rfl, rfl, hBx.trans (hn.mono hBx.size), hn⟩)
                    case done =>
                      intro ys wx hBx hV
                      have h63 : ys 63 = .bool false := hV 31 (by decide)
                      simp only [h63, fill, List.foldl_cons, List.foldl_nil, Act.put, List.setIfInBounds_toArray, List.set_cons_succ, List.set_cons_zero]
                      go_wp2
                      go_roundw
                      case rel => exact ⟨k + 1, by go_num, by omega, by rw [HG.out, HST.out], HB.out.trans (hBq.mono HB.out.size |>.trans (hBx.mono (Nat.le_trans HB.out.size hBq.size)))⟩
                      case measure => simp [intOf]; omega
                  | false =>
                    have HA := Lib.hid (fun w => ahead_any y.key x.key hyz hxz false hah w)
                    have HST := Lib.hid (HK3.out hkr hv (by rw [HP.out]; unfold badW; simp [hdel, HNE.out, hah]))
                    clear hah
                    refine wp_region_is [32, 33, 34, 35, 36, 37, 38, 39, 40, 41, 42, 43, 44, 45, 46, 47, 48, 49, 50, 51, 52, 53, 54, 55, 56, 57, 58, 59, 60, 61, 62, 63] (fun w' => Below wq.heap.size wq w')
                      [.slice (some ⟨b, off, none⟩) n cap, .int .i64 (k : Int), .pointer (some ⟨b, off + k * 3, none⟩), .pointer (some ⟨b, off + k * 3 + 1, none⟩), .bool true, .bool true, .slice (some ⟨b, off, none⟩) n cap, .int .i64 (k : Int), .pointer (some ⟨b, off + k * 3, none⟩), .pointer (some ⟨b, off + k * 3 + 2, none⟩), .string x.val, .bool false, .bool false, .bool false, .int .i64 (k : Int), .bool true, .bool true, .slice (some ⟨b, off, none⟩) n cap, .int .i64 (k : Int), .int .i64 (j : Int), .pointer (some ⟨b, off + j * 3, none⟩), .pointer (some ⟨b, off + j * 3, none⟩), .string y.key, .slice (some ⟨b, off, none⟩) n cap, .int .i64 (k : Int), .pointer (some ⟨b, off + k * 3, none⟩), .pointer (some ⟨b, off + k * 3, none⟩), .string x.key, .bool false, .bool true, .bool true, .bool true] (by kernel_rfl) (by kernel_rfl) rfl (by decide) (by simp) (Below.refl _ _).drew ?each ?done
                    case each =>
                      clear HK1 HK2 HK3 HK4 HKR HST HG HB HR HZ HNL hBq HC0 d1 d2 d5 hkr hv
                      simp only [Each]
                      repeat' (first | exact trivial | refine And.intro ?_ ?_)
                      all_goals
                        intro ys wx hBx hdeps
                        simp only [Deps, Region.binds, List.getD_cons_zero, List.getD_cons_succ, forall_const, and_true] at hdeps
                        have c0 : wx.cell? ⟨b, off + k * 3, none⟩ = some (.string x.key) := by rw [hBx.cell (p := ⟨b, off + k * 3, none⟩) (block_lt_of_cell HC.out.1)]; exact HC.out.1
                        have c1 : wx.cell? ⟨b, off + k * 3 + 1, none⟩ = some (.bool true) := by rw [hBx.cell (p := ⟨b, off + k * 3 + 1, none⟩) (block_lt_of_cell HC.out.2.1)]; exact HC.out.2.1
                        have c2 : wx.cell? ⟨b, off + k * 3 + 2, none⟩ = some (.string x.val) := by rw [hBx.cell (p := ⟨b, off + k * 3 + 2, none⟩) (block_lt_of_cell HC.out.2.2)]; exact HC.out.2.2
                        have e0 : wx.cell? ⟨b, off + j * 3, none⟩ = some (.string y.key) := by rw [hBx.cell (p := ⟨b, off + j * 3, none⟩) (block_lt_of_cell HD.out)]; exact HD.out
                        simp only [hdeps, fill, List.foldl_cons, List.foldl_nil, Act.put, List.setIfInBounds_toArray, List.set_cons_succ, List.set_cons_zero]
                        first
                          | (go_wp2_with fail; exact ⟨_, rfl, rfl, hBx, Below.refl _ _⟩)
                          | (go_wp2_with (go_at_call 83; (with_reducible refine (HA.out _).mono ?_); rintro e w3 ⟨rfl, hn⟩); exact ⟨_, rfl, rfl, hBx.trans (hn.mono hBx.size), hn⟩)
                    case done =>
                      intro ys wx hBx hV
                      have h63 : ys 63 = .bool true := hV 31 (by decide)
                      simp only [h63, fill, List.foldl_cons, List.foldl_nil, Act.put, List.setIfInBounds_toArray, List.set_cons_succ, List.set_cons_zero]
                      go_wp2
                      go_ret
                      exact ⟨by rw [HG.out, HST.out]; rfl, HB.out.trans (hBq.mono HB.out.size |>.trans (hBx.mono (Nat.le_trans HB.out.size hBq.size)))⟩
              · have HNE := Lib.hid hne
                have qv : (x.val.toList == ([] : List UInt8)) = false := by rw [qe]; simpa using hne
                clear hne qe
                have HST := Lib.hid (HK3.out hkr hv (by unfold badW; simp [hdel, HNE.out]))
                refine wp_region_is [32, 33, 34, 35, 36, 37, 38, 39, 40, 41, 42, 43, 44, 45, 46, 47, 48, 49, 50, 51, 52, 53, 54, 55, 56, 57, 58, 59, 60, 61, 62, 63] (fun w' => Below wq.heap.size wq w')
                  [.slice (some ⟨b, off, none⟩) n cap, .int .i64 (k : Int), .pointer (some ⟨b, off + k * 3, none⟩), .pointer (some ⟨b, off + k * 3 + 1, none⟩), .bool true, .bool true, .slice (some ⟨b, off, none⟩) n cap, .int .i64 (k : Int), .pointer (some ⟨b, off + k * 3, none⟩), .pointer (some ⟨b, off + k * 3 + 2, none⟩), .string x.val, .bool true, .bool true, .bool true, undef, undef, undef, undef, undef, undef, undef, undef, undef, undef, undef, undef, undef, undef, undef, undef, undef, .bool true] (by kernel_rfl) (by kernel_rfl) rfl (by decide) (by simp) (Below.refl _ _).drew ?each ?done
                case each =>
                  clear HK1 HK2 HK3 HK4 HKR HST HG HB HR HZ HNL hBq HC0 d1 d2 d5 hkr hv
                  simp only [Each]
                  repeat' (first | exact trivial | refine And.intro ?_ ?_)
                  all_goals
                    intro ys wx hBx hdeps
                    simp only [Deps, Region.binds, List.getD_cons_zero, List.getD_cons_succ, forall_const, and_true] at hdeps
                    have c0 : wx.cell? ⟨b, off + k * 3, none⟩ = some (.string x.key) := by rw [hBx.cell (p := ⟨b, off + k * 3, none⟩) (block_lt_of_cell HC.out.1)]; exact HC.out.1
                    have c1 : wx.cell? ⟨b, off + k * 3 + 1, none⟩ = some (.bool true) := by rw [hBx.cell (p := ⟨b, off + k * 3 + 1, none⟩) (block_lt_of_cell HC.out.2.1)]; exact HC.out.2.1
                    have c2 : wx.cell? ⟨b, off + k * 3 + 2, none⟩ = some (.string x.val) := by rw [hBx.cell (p := ⟨b, off + k * 3 + 2, none⟩) (block_lt_of_cell HC.out.2.2)]; exact HC.out.2.2
                    simp only [hdeps, fill, List.foldl_cons, List.foldl_nil, Act.put, List.setIfInBounds_toArray, List.set_cons_succ, List.set_cons_zero]
                    go_wp2_with fail
                    exact ⟨_, rfl, rfl, hBx, Below.refl _ _⟩
                case done =>
                  intro ys wx hBx hV
                  have h63 : ys 63 = .bool true := hV 31 (by decide)
                  simp only [h63, fill, List.foldl_cons, List.foldl_nil, Act.put, List.setIfInBounds_toArray, List.set_cons_succ, List.set_cons_zero]
                  go_wp2
                  go_ret
                  exact ⟨by rw [HG.out, HST.out]; rfl, HB.out.trans (hBq.mono HB.out.size |>.trans (hBx.mono (Nat.le_trans HB.out.size hBq.size)))⟩
      · have d3 : decide ((k : Int) < (n : Int)) = false := by simp; omega
        have d4 : decide (k < n) = false := by simp; omega
        have HST := Lib.hid (show rightGo (prevOf l k) (l.drop k) = 0 by rw [List.drop_of_length_le (by rw [← HNL.out]; omega)]; rfl)
        go_wp2
        go_ret
        exact ⟨by rw [HG.out, HST.out]; rfl, HB.out⟩
end Go.Proofs.YtligapgjdpdihaaGreatDoor.Batch
