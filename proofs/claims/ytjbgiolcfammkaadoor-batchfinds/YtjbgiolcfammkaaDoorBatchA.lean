/-
  What the book's Writes and SameWrites answer.
-/
import Derived.Test.YtjbgiolcfammkaaDoorBatchM
import Derived.Deep.QuietTactic
import Derived.BigQuiet
namespace Go.Proofs.YtjbgiolcfammkaaDoor.Batch
open Go.RowKit
open Own Tup RefKeys RefSort
open Go.Proofs.YtjbgiolcfammkaaDoor.Region (fill Then Deps Each wp_region_tail)

def shortW (x : Wr) : Wr := ⟨shortOf x.key 60, x.del, shortOf x.val 60⟩
def writesOf (l : List Wr) (most : Nat) : List Wr := (l.take most).map shortW
theorem writes_succ (l : List Wr) (k : Nat) (h : k < l.length) : (l.take (k + 1)).map shortW = (l.take k).map shortW ++ [shortW l[k]] := by
  rw [List.take_succ_eq_append_getElem h, List.map_append]; rfl
structure WritesAt (l : List Wr) (w : World) (v : Value) (k : Nat) (wr : World) : Prop where
  le : k ≤ l.length
  own : WMine wr w.heap.size v ((l.take k).map shortW)
  below : Below w.heap.size w wr
set_option maxRecDepth 100000 in
set_option maxHeartbeats 4000000 in
theorem writes_any (a : Option Addr) (l : List Wr) (cap most : Nat) (hm : most ≤ 1000000) (hl : l.length ≤ maxLen) (w : World) (hr : WAt w a l) :
    Calls Tryd.prog 13 #[.slice a l.length cap, .int .i64 most] w fun e w' => ∃ v, e = .returned v ∧ WMine w' w.heap.size v (writesOf l most) ∧ Below w.heap.size w w' := by
  unfold maxLen at hl
  have HR := Lib.hid hr
  clear hr
  go_enter Tryd.func13, Tryd.ntmps13
  go_wp2
  go_loopw [5, 6] (fun v i wr => ∃ k : Nat, i = .int .i64 (k : Int) ∧ k ≤ most ∧ WritesAt l w v k wr) (fun _ i _ => most - (intOf i).toNat)
  case atStart => exact ⟨0, rfl, Nat.zero_le _, ⟨Nat.zero_le _, WMine.nil _ _, Below.refl _ _⟩⟩
  case round =>
    obtain ⟨k, rfl, hkm, hle, hown, hbel⟩ := hrel
    have HO := Lib.hid hown
    have HB := Lib.hid hbel
    have hbs := hbel.size
    clear hown hbel
    by_cases hk : k < l.length
    · have d1 : decide ((k : Int) < (l.length : Int)) = true := by simp; omega
      have d3 : decide (k < l.length) = true := by simp; omega
      by_cases hk2 : k < most
      · have d2 : decide ((k : Int) < (most : Int)) = true := by simp; omega
        have d4 : decide (k < most) = true := by simp; omega
        obtain ⟨b, off, ha, c0, c1, c2⟩ := WAt.get (Tup.At.below HR.out (HB.out)) (List.getElem?_eq_getElem hk)
        have HS := Lib.hid (writes_succ l k hk)
        generalize l[k] = x at c0 c1 c2 HS
        subst ha
        have HC := Lib.hid (And.intro c0 (And.intro c1 c2))
        clear c0 c1 c2
        have HSH : Hid (∀ s w, Calls Tryd.prog 32 #[.string s, .int .i64 60] w fun e w' => e = .returned (.string (shortOf s 60)) ∧ w' = w) := fun s w => short_any s 60 w
        go_wp2
        refine wp_region_tail 20 [18, 19, 20, 21, 22, 23, 24, 25, 26, 27, 28, 29, 30, 31, 32, 33, 34, 35, 36, 37] (fun w' => Below wr.heap.size wr w')
          (Tab [u5, .slice (some ⟨b, off, none⟩) l.length cap, .int .i64 (k : Int), .pointer (some ⟨b, off + k * 3, none⟩), .pointer (some ⟨b, off + k * 3, none⟩), .string x.key, .string (shortOf x.key 60),
            .slice (some ⟨b, off, none⟩) l.length cap, .int .i64 (k : Int), .pointer (some ⟨b, off + k * 3, none⟩), .pointer (some ⟨b, off + k * 3 + 1, none⟩), .bool x.del,
            .slice (some ⟨b, off, none⟩) l.length cap, .int .i64 (k : Int), .pointer (some ⟨b, off + k * 3, none⟩), .pointer (some ⟨b, off + k * 3 + 2, none⟩), .string x.val, .string (shortOf x.val 60),
            .agg #[.string (shortOf x.key 60), .bool x.del, .string (shortOf x.val 60)]] 19 (wrC (shortW x)))
          (by kernel_rfl) (by kernel_rfl) (by kernel_rfl) (by decide) rfl (by decide) (by simp) (Tab.mono _ _ _) (Below.refl _ _).drew ?each ?tail
        case each =>
          simp only [List.take_succ_cons, List.take_zero, Each]
          repeat' (first | exact trivial | refine And.intro ?_ ?_)
          all_goals
            intro ys wx hBx hdeps
            simp only [Deps, Region.binds, Tab, List.getD_cons_zero, List.getD_cons_succ, forall_const, and_true, Nat.reduceEqDiff, reduceIte] at hdeps
            have c0 : wx.cell? ⟨b, off + k * 3, none⟩ = some (.string x.key) := by rw [hBx.cell (p := ⟨b, off + k * 3, none⟩) (block_lt_of_cell HC.out.1)]; exact HC.out.1
            have c1 : wx.cell? ⟨b, off + k * 3 + 1, none⟩ = some (.bool x.del) := by rw [hBx.cell (p := ⟨b, off + k * 3 + 1, none⟩) (block_lt_of_cell HC.out.2.1)]; exact HC.out.2.1
            have c2 : wx.cell? ⟨b, off + k * 3 + 2, none⟩ = some (.string x.val) := by rw [hBx.cell (p := ⟨b, off + k * 3 + 2, none⟩) (block_lt_of_cell HC.out.2.2)]; exact HC.out.2.2
            simp only [hdeps, fill, List.foldl_cons, List.foldl_nil, Act.put, List.setIfInBounds_toArray, List.set_cons_succ, List.set_cons_zero]
            go_wp2_with (go_at_call 32; (with_reducible refine (HSH.out _ _).mono ?_); rintro e w3 ⟨rfl, rfl⟩)
            first
              | exact ⟨_, rfl, rfl, hBx, Below.refl _ _⟩
              | exact ⟨_, rfl, ⟨_, rfl, lies_new wx [.string (shortOf x.key 60), .bool x.del, .string (shortOf x.val 60)] 31⟩, hBx.alloc hBx.size _, (Below.refl _ _).alloc (Nat.le_refl _) _⟩
        case tail =>
          intro ys wx hBx hV
          have h18 : ys 18 = u5 := hV 0 (by decide)
          have h37 : ∃ g, ys 37 = .slice (some ⟨g, 0, none⟩) 1 1 ∧ Lies wx g 0 (wrC (shortW x)) := hV 19 (by decide)
          with_reducible refine Exists.elim h37 ?_
          intro g0 hh
          have hg0 := hh.1
          have HL := Lib.hid hh.2
          clear hh h37 hV
          have HO2 := Lib.hid (show WMine wx w.heap.size u5 ((l.take k).map shortW) from owns_below HO.out hBx)
          have HB2 := Lib.hid (HB.out.trans (hBx.mono hbs))
          simp only [h18, hg0, fill, List.drop_succ_cons, List.drop_zero, List.foldl_cons, List.foldl_nil, Act.put, List.setIfInBounds_toArray, List.set_cons_succ, List.set_cons_zero]
          have hlen : ((l.take k).map shortW).length = k := by simp; omega
          have b1 : (((l.take k).map shortW).length + 1) * 40 ≤ 140737488355328 := by omega
          have b2 : ((l.take k).map shortW).length + 1 ≤ maxLen := by simp only [maxLen]; omega
          have b3 : w.heap.size ≤ wx.heap.size := HB2.out.size
          refine append_tup rfl _ _ 22 rfl w.heap.size 31 (.agg #[.string ⟨#[]⟩, .bool false, .string ⟨#[]⟩]) 3 40 Tryd.underlying22 infoW rfl (by decide) u5 _ _ rfl HO2.out g0 (wrC (shortW x)) rfl rfl HL.out ?c1 b1 b2 b3 ?_
          case c1 => simp [wrC, Value.oneCell']
          intro g cap2 w2 hown2 hgrow2 hat2 hlt2
          go_wp2
          have hbel2 := below_append HB2.out hgrow2 b3 (fun t ht => (owns_lt HO2.out t ht).2)
          refine ⟨⟨k + 1, by go_num, by omega, ⟨by omega, ?_, hbel2⟩⟩, by simp [intOf]; omega⟩
          rw [HS.out]
          unfold WMine
          rw [flatW_snoc, List.length_append, List.length_singleton, hlen]
          rw [hlen] at hown2
          exact hown2
      · have hkk : k = most := by omega
        have HE := Lib.hid (show writesOf l most = (l.take k).map shortW by rw [writesOf, hkk])
        have d2 : decide ((k : Int) < (most : Int)) = false := by simp; omega
        have d4 : decide (k < most) = false := by simp; omega
        clear hkk
        go_wp2
        go_ret
        exact ⟨_, rfl, by rw [HE.out]; exact HO.out, HB.out⟩
    · have HE := Lib.hid (show writesOf l most = (l.take k).map shortW by rw [writesOf, List.take_of_length_le (by omega), List.take_of_length_le (by omega)])
      have d1 : decide ((k : Int) < (l.length : Int)) = false := by simp; omega
      have d3 : decide (k < l.length) = false := by simp; omega
      go_wp2
      go_ret
      exact ⟨_, rfl, by rw [HE.out]; exact HO.out, HB.out⟩
set_option maxRecDepth 100000 in
set_option maxHeartbeats 4000000 in
theorem sameW_any (a b : Option Addr) (l m : List Wr) (c d : Nat) (hl : l.length ≤ 1000000) (hm : m.length ≤ 1000000) (w : World) (ha : WAt w a l) (hb : WAt w b m) :
    Calls Tryd.prog 15 #[.slice a l.length c, .slice b m.length d] w fun e w' => e = .returned (.bool (decide (l = m))) ∧ ∃ n, w' = w.drewN n := by
  have HA := Lib.hid ha
  have HB := Lib.hid hb
  clear ha hb
  by_cases hlm : l.length = m.length
  · obtain ⟨n, hn⟩ : ∃ n, n = l.length := ⟨_, rfl⟩
    have hn2 : n = m.length := by omega
    rw [← hn, ← hn2]
    have HL := Lib.hid hn
    have HM := Lib.hid hn2
    rw [← hn] at hl
    clear hlm hn hn2 hm
    go_enter Tryd.func15, Tryd.ntmps15
    go_wp2
    go_loopw [5] (fun i wr => ∃ k : Nat, i = .int .i64 (k : Int) ∧ k ≤ n ∧ l.take k = m.take k ∧ ∃ q, wr = w.drewN q) (fun i _ => n - (intOf i).toNat)
    case atStart => exact ⟨0, rfl, by omega, rfl, 0, rfl⟩
    case round =>
      obtain ⟨k, rfl, hk, hpre, q0, rfl⟩ := hrel
      have HP := Lib.hid hpre
      clear hpre
      by_cases hlt : k < n
      · have h1 : k < l.length := by rw [← HL.out]; exact hlt
        have h2 : k < m.length := by rw [← HM.out]; exact hlt
        obtain ⟨b1, o1, ha1, c0, c1, c2⟩ := WAt.get HA.out (List.getElem?_eq_getElem h1)
        obtain ⟨b2, o2, ha2, e0, e1, e2⟩ := WAt.get HB.out (List.getElem?_eq_getElem h2)
        have HX := Lib.hid (List.take_succ_eq_append_getElem h1)
        have HY := Lib.hid (List.take_succ_eq_append_getElem h2)
        have HNE : Hid (l[k] ≠ m[k] → decide (l = m) = false) := fun h => by
          simp only [decide_eq_false_iff_not]; rintro rfl; exact h rfl
        subst ha1 ha2
        generalize l[k] = x at *
        generalize m[k] = y at *
        clear h1 h2
        by_cases hxy : x = y
        · subst hxy
          go_wp2
          go_quiet (fail)
          go_wp2
          go_roundw
          case rel => exact ⟨k + 1, by go_num, by omega, by rw [HX.out, HY.out, HP.out], q0 + nq, rfl⟩
          case measure => simp [intOf]; omega
        · have HE := Lib.hid (HNE.out hxy)
          have hd : (x.key.toList == y.key.toList) = false ∨ ((x.key.toList == y.key.toList) = true ∧ (x.del == y.del) = false) ∨ ((x.key.toList == y.key.toList) = true ∧ (x.del == y.del) = true ∧ (x.val.toList == y.val.toList) = false) := by
            rw [str_neq, str_neq]
            cases x; cases y; simp at hxy ⊢
            rename_i k1 d1 v1 k2 d2 v2
            by_cases h1 : k1 = k2 <;> by_cases h2 : d1 = d2 <;> simp_all
          clear hxy
          rcases hd with f1 | ⟨f1, f2⟩ | ⟨f1, f2, f3⟩
          all_goals
            go_wp2
            go_quiet (fail)
            go_wp2
            go_ret
            rw [HE.out]
            exact ⟨rfl, q0 + nq, by rw [World.drewN_drewN]⟩
      · go_wp2
        go_ret
        have hkl : l.length ≤ k := by rw [← HL.out]; omega
        have hkm : m.length ≤ k := by rw [← HM.out]; omega
        have : l = m := by have := HP.out; rwa [List.take_of_length_le hkl, List.take_of_length_le hkm] at this
        exact ⟨RefRune.ret_bool (by simp [this]), q0, rfl⟩
  · have HE := Lib.hid (show decide (l = m) = false by simp; intro h; exact hlm (by rw [h]))
    have d1 : ((l.length : Int) == (m.length : Int)) = false := by simp; omega
    have d2 : ((l.length : Int) != (m.length : Int)) = true := by simp; omega
    clear hlm
    go_enter Tryd.func15, Tryd.ntmps15
    go_wp2
    go_ret
    rw [HE.out]
    exact ⟨rfl, 0, rfl⟩
end Go.Proofs.YtjbgiolcfammkaaDoor.Batch
