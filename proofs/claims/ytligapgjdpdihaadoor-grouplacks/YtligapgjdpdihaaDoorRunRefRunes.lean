/-
  Joined texts: RefRunes, RefKeys.
-/
import Derived.Test.YtligapgjdpdihaaDoorRefRune
import Derived.Test.YtligapgjdpdihaaDoorOwn
import Derived.Test.YtligapgjdpdihaaDoorRunRuneMath
/-
  What the document's own Runes answers, for every text of at most 2 to the 43rd bytes.
-/
set_option linter.unusedVariables false
set_option linter.unusedSimpArgs false
namespace Go.Proofs.YtligapgjdpdihaaDoor.RefKeys
open Go.RowKit
open RuneM RefRune Own

theorem infoInt : (Tryd.prog.info? 3).map (fun i => (i.zero, i.size, i.bytes)) = some (some (.int .i64 0), 1, 8) := by kernel_rfl
def I (n : Nat) : Value := .int .i64 (n : Int)
/-- the runes' numbers, their widths, as values -/
def numsOf (l : List (Nat × Nat)) : List Value := l.map fun x => I x.1
def sizesOf (l : List (Nat × Nat)) : List Value := l.map fun x => I x.2
theorem numsOf_snoc (l : List (Nat × Nat)) (x : Nat × Nat) : numsOf (l ++ [x]) = numsOf l ++ [.int .i64 (x.1 : Int)] := by simp [numsOf, I]
theorem sizesOf_snoc (l : List (Nat × Nat)) (x : Nat × Nat) : sizesOf (l ++ [x]) = sizesOf l ++ [.int .i64 (x.2 : Int)] := by simp [sizesOf, I]
/-- what Runes answers -/
def Runes (s : ByteArray) (w : World) (e : Ending) (w' : World) : Prop := ∃ v u, e = .returned (.tuple #[v, u]) ∧ Row w' v (numsOf (runes s)) ∧ Row w' u (sizesOf (runes s)) ∧ Below w.heap.size w w'
/-- what holds at the head of a round of Runes -/
structure At (s : ByteArray) (w : World) (v u : Value) (i : Nat) (done : List (Nat × Nat)) (wr : World) : Prop where
  le : i ≤ s.size
  all : runes s = done ++ rest s i
  ov : Mine wr w.heap.size 3 v (numsOf done)
  ou : Mine wr w.heap.size 3 u (sizesOf done)
  ne : v.ownBlock = none ∨ v.ownBlock ≠ u.ownBlock
  below : Below w.heap.size w wr

theorem apart1 {v u : Value} (h : v.ownBlock = none ∨ v.ownBlock ≠ u.ownBlock) : u.ownBlock = none ∨ u.ownBlock ≠ v.ownBlock := by
  rcases h with h | h
  · cases hu : u.ownBlock with
    | none => exact .inl rfl
    | some k => right; rw [h]; simp
  · exact .inr (Ne.symm h)
set_option maxRecDepth 100000 in
set_option maxHeartbeats 2000000 in
theorem runes_any (s : ByteArray) (hs : s.size ≤ 8796093022208) (w : World) : Calls Tryd.prog 93 #[.string s] w (Runes s w) := by
  have hml : s.size ≤ maxLen := by simp [maxLen]; omega
  go_enter Tryd.func93, Tryd.ntmps93
  go_wp2
  go_loopw [4, 5, 6] (fun v u x wr => ∃ i done, x = .int .i64 ((i : Nat) : Int) ∧ At s w v u i done wr) (fun _ _ x _ => s.size - (intOf x).toNat)
  case atStart => exact ⟨0, [], rfl, ⟨Nat.zero_le _, rfl, Mine.nil _ _ _, Mine.nil _ _ _, .inl rfl, Below.refl _ _⟩⟩
  case round =>
    obtain ⟨i, done, rfl, hA⟩ := hrel
    by_cases hlt : i < s.size
    · obtain ⟨_, hall, hov, hou, hne, hbel⟩ := hA
      have hw := dec_width s i hlt
      have hlen : done.length ≤ s.size := by
        have h1 := runes_length s
        rw [hall, List.length_append] at h1; omega
      have HN := Lib.hid hall
      have HR := Lib.hid (rest_cons s i hlt)
      have HNE := Lib.hid hne
      clear hall hne
      generalize hd : Utf8.decode s i = d at hw HR
      have HT : Hid (∀ w, Calls Tryd.prog 103 #[.string s, .int .i64 i] w fun e w' => e = .returned (.tuple #[.int .i64 (d.1 : Int), .int .i64 (d.2 : Int)]) ∧ ∃ n, w' = w.drewN n) := by
        intro w
        have := rune_any s hml i hlt w
        rw [← hd]; exact this
      clear hd
      have ln : (numsOf done).length = done.length := by simp [numsOf]
      have ls : (sizesOf done).length = done.length := by simp [sizesOf]
      have b1 : ((numsOf done).length + 1) * 8 ≤ 140737488355328 := by omega
      have b2 : ((sizesOf done).length + 1) * 8 ≤ 140737488355328 := by omega
      have b3 : (numsOf done).length + 1 ≤ maxLen := by simp only [maxLen]; omega
      have b4 : (sizesOf done).length + 1 ≤ maxLen := by simp only [maxLen]; omega
      have hbs := hbel.size
      clear ln ls
      go_wp2_with (first
        | (go_at_call 103; (with_reducible refine (HT.out _).mono ?_); rintro e w1 ⟨rfl, hdr⟩; have HZ := Lib.hid (draw_size hdr))
        | (at_builtin; (refine append_one rfl _ _ 129 rfl w.heap.size 3 (.int .i64 0) 8 Tryd.underlying129 infoInt rfl u5 (sizesOf done) rfl (Mine.alloc hou2 _) w2.heap.size (.int .i64 (d.2 : Int)) rfl ?c3 rfl b2 b4 ?c4 ?_); (case c3 => simp); (case c4 => (have := hbel2.size; simp; omega)); intro g2 cap2 w3 hou3 hgrow3 hat3 hlt3)
        | (at_builtin; (refine append_one rfl _ _ 129 rfl w.heap.size 3 (.int .i64 0) 8 Tryd.underlying129 infoInt rfl u4 (numsOf done) rfl (Mine.alloc (Mine.draw hov hdr) _) w1.heap.size (.int .i64 (d.1 : Int)) rfl ?c1 rfl b1 b3 ?c2 ?_); (case c1 => simp); (case c2 => (have := HZ.out; simp; omega)); intro g cap w2 hov2 hgrow2 hat2 hlt2
           have hou2 := (Mine.alloc (Mine.draw hou hdr) (.cells #[.int .i64 (d.1 : Int)] 3)).kept hgrow2 (apart1 HNE.out)
           have hbel2 := below_append ((below_draw hbel hdr).alloc (by have := HZ.out; omega) (.cells #[.int .i64 (d.1 : Int)] 3)) hgrow2 (by have := HZ.out; simp; omega) (fun k hk => ((Mine.draw hov hdr).lt k hk).2)))
      have hgu : (Value.slice (some ⟨g, 0, none⟩) ((numsOf done).length + 1) cap).ownBlock ≠ u5.ownBlock := by
        intro h
        rcases hat2 with h2 | h2
        · rcases HNE.out with h3 | h3
          · rw [h3] at h2; simp at h2
          · exact h3 (by rw [h2]; exact h)
        · have := (hou.lt g (by rw [← h]; rfl)).1
          have := HZ.out
          simp at h2; omega
      have hov3 : Mine w3 w.heap.size 3 (.slice (some ⟨g, 0, none⟩) ((numsOf done).length + 1) cap) (numsOf (done ++ [d])) := by
        rw [numsOf_snoc]; exact (Mine.alloc hov2 (.cells #[.int .i64 (d.2 : Int)] 3)).kept hgrow3 (.inr hgu)
      have hou3' : Mine w3 w.heap.size 3 (.slice (some ⟨g2, 0, none⟩) ((sizesOf done).length + 1) cap2) (sizesOf (done ++ [d])) := by
        rw [sizesOf_snoc]; exact hou3
      have hne3 : (Value.slice (some ⟨g, 0, none⟩) ((numsOf done).length + 1) cap).ownBlock ≠ (Value.slice (some ⟨g2, 0, none⟩) ((sizesOf done).length + 1) cap2).ownBlock := by
        intro h
        have hg : g = g2 := by simpa [Value.ownBlock] using h
        rcases hat3 with h3 | h3
        · exact hgu (by rw [h3, ← hg]; rfl)
        · simp at h3; omega
      have hbel3 := below_append (hbel2.alloc (by have := hbel2.size; omega) (.cells #[.int .i64 (d.2 : Int)] 3)) hgrow3 (by have := hbel2.size; simp; omega) (fun k hk => (hou2.lt k hk).2)
      have hall3 : runes s = (done ++ [d]) ++ rest s (i + d.2) := by rw [HN.out, HR.out]; simp
      go_roundw
      case rel => exact ⟨i + d.2, done ++ [d], by go_num, ⟨by omega, hall3, hov3, hou3', .inr hne3, hbel3⟩⟩
      case measure => simp [intOf]; omega
    · obtain ⟨_, hall, hov, hou, hne, hbel⟩ := hA
      have hrun : runes s = done := by rw [hall, rest_end s i (by omega), List.append_nil]
      have HRN := Lib.hid hrun
      clear hall hne hrun
      go_wp2
      go_ret2
      exact ⟨_, _, rfl, by rw [HRN.out]; exact hov.row, by rw [HRN.out]; exact hou.row, hbel⟩

/-- may a rune stand in a key? -/
def plainB (x : Nat × Nat) : Bool := decide (33 ≤ x.1) && !(decide (127 ≤ x.1) && decide (x.1 ≤ 160)) && !(decide (x.1 = 65533) && decide (x.2 = 1))
/-- Runes' answer, laid flat -/
theorem runes_flat (s : ByteArray) (hs : s.size ≤ 8796093022208) (w : World) : Calls Tryd.prog 93 #[.string s] w fun e w' =>
    ∃ a c b d, e = .returned (.tuple #[.slice a (runes s).length c, .slice b (runes s).length d]) ∧ Cells w' a (numsOf (runes s)) ∧ Cells w' b (sizesOf (runes s)) ∧ Below w.heap.size w w' := by
  refine (runes_any s hs w).mono ?_
  rintro e w' ⟨v, u, rfl, ⟨a, c, rfl, ha⟩, ⟨b, d, rfl, hb⟩, hbel⟩
  exact ⟨a, c, b, d, by simp [numsOf, sizesOf], ha, hb, hbel⟩
theorem nums_at (l : List (Nat × Nat)) (k : Nat) (h : k < l.length) : (numsOf l)[k]? = some (.int .i64 ((l[k].1 : Nat) : Int)) := by simp [numsOf, I, h]
theorem sizes_at (l : List (Nat × Nat)) (k : Nat) (h : k < l.length) : (sizesOf l)[k]? = some (.int .i64 ((l[k].2 : Nat) : Int)) := by simp [sizesOf, I, h]
/-- is a text a key? -/
def keyRight (s : ByteArray) : Bool := (runes s).all plainB && decide (1 ≤ (runes s).length) && decide ((runes s).length ≤ 12)
theorem all_take {l : List (Nat × Nat)} {k : Nat} (h : k < l.length) : (l.take (k + 1)).all plainB = ((l.take k).all plainB && plainB l[k]) := by
  rw [List.take_succ_eq_append_getElem h, List.all_append]; simp

theorem all_false {l : List (Nat × Nat)} {x : Nat × Nat} (h : x ∈ l) (hp : plainB x = false) : l.all plainB = false := by
  rw [List.all_eq_false]; exact ⟨x, h, by simp [hp]⟩
theorem drew_drew {w w1 : World} {n : Nat} (h : ∃ m, w1 = w.drewN m) : ∃ m, w1.drewN n = w.drewN m := by
  obtain ⟨m, rfl⟩ := h; exact ⟨m + n, by rw [World.drewN_drewN]⟩
/-- the bytes of a text's first runes -/
def headOf (s : ByteArray) (n : Int) : ByteArray := s.extract 0 (width ((runes s).take n.toNat))
theorem ret_string {a b : ByteArray} (h : a = b) : Ending.returned (.string a) = .returned (.string b) := by rw [h]
theorem nums_get (s : ByteArray) (k : Nat) (h : k < (runes s).length) : (numsOf (runes s))[k]? = some (.int .i64 (((nums s).getD k 0 : Nat) : Int)) := by
  simp [numsOf, I, nums, h, List.getD]
theorem ret_int {k : IntKind} {a b : Int} (h : a = b) : Ending.returned (.int k a) = .returned (.int k b) := by rw [h]
/-- how two texts stand to one another -/
def cmpS (s t : ByteArray) : Int := cmpL (nums s) (nums t)
end Go.Proofs.YtligapgjdpdihaaDoor.RefKeys
/-
  What the document's own functions on runes and keys answer, for every text of at most 2 to the 43rd bytes.
-/
set_option linter.unusedVariables false
set_option linter.unusedSimpArgs false
namespace Go.Proofs.YtligapgjdpdihaaDoor.RefKeys
open Go.RowKit
open RuneM RefRune Own

theorem plain_ret (r n : Nat) (b : Bool) (hb : plainB (r, n) = b) (w : World) :
    Calls Tryd.prog 94 #[.int .i64 r, .int .i64 n] w fun e w' => e = .returned (.bool b) ∧ w' = w := by
  subst hb
  have HB : Hid (plainB (r, n) = (decide (33 ≤ r) && !(decide (127 ≤ r) && decide (r ≤ 160)) && !(decide (r = 65533) && decide (n = 1)))) := rfl
  by_cases h1 : 33 ≤ r
  · have d1 : decide ((33 : Int) ≤ (r : Int)) = true := by simp; omega
    by_cases h2 : 127 ≤ r
    · have d2 : decide ((127 : Int) ≤ (r : Int)) = true := by simp; omega
      by_cases h3 : r ≤ 160
      · have d3 : decide ((r : Int) ≤ 160) = true := by simp; omega
        go_enter Tryd.func94, Tryd.ntmps94
        go_wp2
        go_ret
        exact ⟨ret_bool (by rw [HB.out]; simp [h1, h2, h3]), rfl⟩
      · have d3 : decide ((r : Int) ≤ 160) = false := by simp; omega
        by_cases h4 : r = 65533
        · have d4 : ((r : Int) == 65533) = true := by simp; omega
          go_enter Tryd.func94, Tryd.ntmps94
          go_wp2
          go_ret
          exact ⟨ret_bool (by rw [HB.out]; by_cases h5 : n = 1 <;> simp [h4, h5]; try omega), rfl⟩
        · have d4 : ((r : Int) == 65533) = false := by simp; omega
          go_enter Tryd.func94, Tryd.ntmps94
          go_wp2
          go_ret
          exact ⟨ret_bool (by rw [HB.out]; simp [h1, h3, h4]), rfl⟩
    · have d2 : decide ((127 : Int) ≤ (r : Int)) = false := by simp; omega
      have d4 : ((r : Int) == 65533) = false := by simp; omega
      go_enter Tryd.func94, Tryd.ntmps94
      go_wp2
      go_ret
      exact ⟨ret_bool (by rw [HB.out]; simp [h1, h2]; omega), rfl⟩
  · have d1 : decide ((33 : Int) ≤ (r : Int)) = false := by simp; omega
    go_enter Tryd.func94, Tryd.ntmps94
    go_wp2
    go_ret
    exact ⟨ret_bool (by rw [HB.out]; simp [h1]), rfl⟩
set_option maxHeartbeats 2000000 in
theorem keyRight_any (s : ByteArray) (hs : s.size ≤ 8796093022208) (w : World) :
    Calls Tryd.prog 79 #[.string s] w fun e w' => e = .returned (.bool (keyRight s)) ∧ Below w.heap.size w w' := by
  have hn : (runes s).length ≤ 8796093022208 := Nat.le_trans (runes_length s) hs
  go_enter Tryd.func79, Tryd.ntmps79
  go_wp2_with (go_at_call 93; (with_reducible refine (runes_flat s hs _).mono ?_); rintro e w1 ⟨a, c, b, d, rfl, ha, hb, hbel⟩)
  go_loopw [5] (fun x wr => ∃ k : Nat, k ≤ (runes s).length ∧ x = .int .i64 k ∧ ((runes s).take k).all plainB = true ∧ ∃ m, wr = w1.drewN m) (fun x _ => (runes s).length - (intOf x).toNat)
  case atStart => exact ⟨0, Nat.zero_le _, rfl, rfl, 0, rfl⟩
  case round =>
    obtain ⟨k, hk, rfl, hall, hd⟩ := hrel
    have HD := Lib.hid hd
    have HA := Lib.hid hall
    have HCa := Lib.hid ha
    have HCb := Lib.hid hb
    clear hall ha hb hd
    by_cases hlt : k < (runes s).length
    · obtain ⟨g, rfl, c1⟩ := (HCa.out.draw HD.out).at (nums_at _ k hlt)
      obtain ⟨g', rfl, c2⟩ := (HCb.out.draw HD.out).at (sizes_at _ k hlt)
      have HT := Lib.hid (all_take hlt)
      have HK : Hid (keyRight s = ((runes s).all plainB && decide (1 ≤ (runes s).length) && decide ((runes s).length ≤ 12))) := rfl
      have HM := Lib.hid (List.getElem_mem hlt)
      generalize (runes s)[k] = x at c1 c2 HT HM
      have l1 : (k : Int) < ((runes s).length : Int) := by omega
      cases hp : plainB x with
      | true =>
        have HP := Lib.hid hp
        clear hp
        go_wp2
        go_quiet ((go_at_call 94; exact Calls.quiet_of_same (plain_ret _ _ true HP.out _)))
        go_wp2
        go_roundw
        case rel => exact ⟨k + 1, by omega, by go_num, by rw [HT.out, HA.out, HP.out]; rfl, drew_drew HD.out⟩
        case measure => simp [intOf]; omega
      | false =>
        have HP := Lib.hid hp
        clear hp
        have hB : Below w.heap.size w wr := below_draw hbel HD.out
        go_wp2
        go_quiet ((go_at_call 94; exact Calls.quiet_of_same (plain_ret _ _ false HP.out _)))
        go_wp2
        go_ret
        exact ⟨ret_bool (by rw [HK.out, all_false HM.out HP.out]; rfl), below_drewN hB nq⟩
    · have HK : Hid (keyRight s = ((runes s).all plainB && decide (1 ≤ (runes s).length) && decide ((runes s).length ≤ 12))) := rfl
      have hB : Below w.heap.size w wr := below_draw hbel HD.out
      have hall : (runes s).all plainB = true := by rw [← HA.out, List.take_of_length_le (by omega)]
      have HL := Lib.hid hall
      clear hall
      by_cases h1 : 1 ≤ (runes s).length
      · go_wp2
        go_ret
        exact ⟨ret_bool (by rw [HK.out, HL.out]; simp [h1]; omega), hB⟩
      · go_wp2
        go_ret
        exact ⟨ret_bool (by rw [HK.out, HL.out]; simp [h1]), hB⟩
theorem common_more {x y : List Nat} {k : Nat} (hx : k < x.length) (hy : k < y.length) (h : x.getD k 0 = y.getD k 0) (hc : k + common (x.drop k) (y.drop k) = common x y) : k + 1 + common (x.drop (k + 1)) (y.drop (k + 1)) = common x y := by
  rw [common_step hx hy] at hc
  have : x[k] = y[k] := by simpa [List.getD, hx, hy] using h
  rw [if_pos this] at hc; omega
theorem common_stop {x y : List Nat} {k : Nat} (hx : k < x.length) (hy : k < y.length) (h : ¬ x.getD k 0 = y.getD k 0) (hc : k + common (x.drop k) (y.drop k) = common x y) : k = common x y := by
  rw [common_step hx hy] at hc
  have : ¬ x[k] = y[k] := by simpa [List.getD, hx, hy] using h
  rw [if_neg this] at hc; omega
theorem common_ends {x y : List Nat} {k : Nat} (h : ¬ k < x.length ∨ ¬ k < y.length) (hc : k + common (x.drop k) (y.drop k) = common x y) : k = common x y := by
  rcases h with h | h
  · rw [List.drop_eq_nil_of_le (show x.length ≤ k by omega), common_nil_left] at hc; omega
  · rw [List.drop_eq_nil_of_le (show y.length ≤ k by omega), common_nil_right] at hc; omega

set_option maxHeartbeats 4000000 in
theorem keyCommon_any (s t : ByteArray) (hs : s.size ≤ 8796093022208) (ht : t.size ≤ 8796093022208) (w : World) :
    Calls Tryd.prog 104 #[.string s, .string t] w fun e w' => e = .returned (.int .i64 ((common (nums s) (nums t) : Nat) : Int)) ∧ Below w.heap.size w w' := by
  have hn : (runes s).length ≤ 8796093022208 := Nat.le_trans (runes_length s) hs
  have hm : (runes t).length ≤ 8796093022208 := Nat.le_trans (runes_length t) ht
  go_enter Tryd.func104, Tryd.ntmps104
  go_wp2_with (first
    | (go_at_call 93; (with_reducible refine (runes_flat s hs w).mono ?_); rintro e w1 ⟨a, c, b, d, rfl, ha, hb, hbel⟩)
    | (go_at_call 93; (with_reducible refine (runes_flat t ht w1).mono ?_); rintro e w2 ⟨a2, c2, b2, d2, rfl, ha2, hb2, hbel2⟩))
  have hB : Below w.heap.size w w2 := hbel.trans (hbel2.mono hbel.size)
  have HC1 := Lib.hid (ha.below hbel2)
  have HC2 := Lib.hid ha2
  clear ha hb ha2 hb2
  go_loopw [9] (fun x wr => ∃ k : Nat, k ≤ (runes s).length ∧ k ≤ (runes t).length ∧ x = .int .i64 k ∧ k + common ((nums s).drop k) ((nums t).drop k) = common (nums s) (nums t) ∧ ∃ m, wr = w2.drewN m) (fun x _ => (runes s).length - (intOf x).toNat)
  case atStart => exact ⟨0, Nat.zero_le _, Nat.zero_le _, rfl, by simp, 0, rfl⟩
  case round =>
    obtain ⟨k, hk, hk2, rfl, hc, hd⟩ := hrel
    have HD := Lib.hid hd
    have HC := Lib.hid hc
    clear hc hd
    have hBr : Below w.heap.size w wr := below_draw hB HD.out
    have LN := Lib.hid (nums_length s)
    have LM := Lib.hid (nums_length t)
    by_cases h1 : k < (runes s).length
    · obtain ⟨g, rfl, e1⟩ := (HC1.out.draw HD.out).at (nums_get s k h1)
      have l1 : (k : Int) < ((runes s).length : Int) := by omega
      have d1 : decide (k < (runes s).length) = true := by simp; omega
      by_cases h2 : k < (runes t).length
      · obtain ⟨g', rfl, e2⟩ := (HC2.out.draw HD.out).at (nums_get t k h2)
        have l2 : (k : Int) < ((runes t).length : Int) := by omega
        have d2 : decide (k < (runes t).length) = true := by simp; omega
        by_cases h3 : (nums s).getD k 0 = (nums t).getD k 0
        · have HX := Lib.hid (common_more (by have := LN.out; omega) (by have := LM.out; omega) h3 HC.out)
          have d3 : ((((nums s).getD k 0 : Nat) : Int) == (((nums t).getD k 0 : Nat) : Int)) = true := by simp only [beq_iff_eq]; omega
          generalize (nums s).getD k 0 = x at e1 h3 d3
          generalize (nums t).getD k 0 = y at e2 h3 d3
          clear h3
          go_wp2
          go_quiet (fail)
          go_wp2
          go_roundw
          case rel => exact ⟨k + 1, by omega, by omega, by go_num, HX.out, drew_drew HD.out⟩
          case measure => simp [intOf]; omega
        · have HX := Lib.hid (common_stop (by have := LN.out; omega) (by have := LM.out; omega) h3 HC.out)
          have d3 : ((((nums s).getD k 0 : Nat) : Int) == (((nums t).getD k 0 : Nat) : Int)) = false := by simp only [beq_eq_false_iff_ne]; omega
          generalize (nums s).getD k 0 = x at e1 h3 d3
          generalize (nums t).getD k 0 = y at e2 h3 d3
          clear h3
          go_wp2
          go_quiet (fail)
          go_wp2
          go_ret
          exact ⟨ret_int (by rw [← HX.out]), below_drewN hBr nq⟩
      · have HX := Lib.hid (common_ends (.inr (by have := LM.out; omega)) HC.out)
        have d2 : decide (k < (runes t).length) = false := by simp; omega
        go_wp2
        go_quiet (fail)
        go_wp2
        go_ret
        exact ⟨ret_int (by rw [← HX.out]), below_drewN hBr nq⟩
    · have HX := Lib.hid (common_ends (.inl (by have := LN.out; omega)) HC.out)
      have d1 : decide (k < (runes s).length) = false := by simp; omega
      go_wp2
      go_quiet (fail)
      go_wp2
      go_ret
      exact ⟨ret_int (by rw [← HX.out]), below_drewN hBr nq⟩
theorem cmp_both {x y : List Nat} (h1 : common x y = x.length) (h2 : common x y = y.length) : cmpL x y = 0 := by rw [cmpL_common, if_pos h1, if_pos h2]
theorem cmp_first {x y : List Nat} (h1 : common x y = x.length) (h2 : ¬ common x y = y.length) : cmpL x y = -1 := by rw [cmpL_common, if_pos h1, if_neg h2]
theorem cmp_second {x y : List Nat} (h1 : ¬ common x y = x.length) (h2 : common x y = y.length) : cmpL x y = 1 := by rw [cmpL_common, if_neg h1, if_pos h2]
theorem cmp_less {x y : List Nat} (h1 : ¬ common x y = x.length) (h2 : ¬ common x y = y.length) (h : x.getD (common x y) 0 < y.getD (common x y) 0) : cmpL x y = -1 := by rw [cmpL_common, if_neg h1, if_neg h2, if_pos h]
theorem cmp_more {x y : List Nat} (h1 : ¬ common x y = x.length) (h2 : ¬ common x y = y.length) (h : ¬ x.getD (common x y) 0 < y.getD (common x y) 0) : cmpL x y = 1 := by rw [cmpL_common, if_neg h1, if_neg h2, if_neg h]

set_option maxRecDepth 100000 in
set_option maxHeartbeats 4000000 in
theorem keyCmp_any (s t : ByteArray) (hs : s.size ≤ 8796093022208) (ht : t.size ≤ 8796093022208) (w : World) :
    Calls Tryd.prog 95 #[.string s, .string t] w fun e w' => e = .returned (.int .i64 (cmpS s t)) ∧ Below w.heap.size w w' := by
  have hn : (runes s).length ≤ 8796093022208 := Nat.le_trans (runes_length s) hs
  have hm : (runes t).length ≤ 8796093022208 := Nat.le_trans (runes_length t) ht
  have hcl := common_le (nums s) (nums t)
  rw [nums_length, nums_length] at hcl
  have LN := Lib.hid (nums_length s)
  have LM := Lib.hid (nums_length t)
  have ways : (common (nums s) (nums t) = (runes s).length ∧ common (nums s) (nums t) = (runes t).length ∧ cmpS s t = 0) ∨
      (common (nums s) (nums t) = (runes s).length ∧ ¬ common (nums s) (nums t) = (runes t).length ∧ cmpS s t = -1) ∨
      (¬ common (nums s) (nums t) = (runes s).length ∧ common (nums s) (nums t) = (runes t).length ∧ cmpS s t = 1) ∨
      (¬ common (nums s) (nums t) = (runes s).length ∧ ¬ common (nums s) (nums t) = (runes t).length ∧ (nums s).getD (common (nums s) (nums t)) 0 < (nums t).getD (common (nums s) (nums t)) 0 ∧ cmpS s t = -1) ∨
      (¬ common (nums s) (nums t) = (runes s).length ∧ ¬ common (nums s) (nums t) = (runes t).length ∧ ¬ (nums s).getD (common (nums s) (nums t)) 0 < (nums t).getD (common (nums s) (nums t)) 0 ∧ cmpS s t = 1) := by
    rw [← nums_length s, ← nums_length t]
    by_cases h1 : common (nums s) (nums t) = (nums s).length
    · by_cases h2 : common (nums s) (nums t) = (nums t).length
      · exact .inl ⟨h1, h2, cmp_both h1 h2⟩
      · exact .inr (.inl ⟨h1, h2, cmp_first h1 h2⟩)
    · by_cases h2 : common (nums s) (nums t) = (nums t).length
      · exact .inr (.inr (.inl ⟨h1, h2, cmp_second h1 h2⟩))
      · by_cases h3 : (nums s).getD (common (nums s) (nums t)) 0 < (nums t).getD (common (nums s) (nums t)) 0
        · exact .inr (.inr (.inr (.inl ⟨h1, h2, h3, cmp_less h1 h2 h3⟩)))
        · exact .inr (.inr (.inr (.inr ⟨h1, h2, h3, cmp_more h1 h2 h3⟩)))
  have HG1 := Lib.hid (fun h => nums_get s (common (nums s) (nums t)) h)
  have HG2 := Lib.hid (fun h => nums_get t (common (nums s) (nums t)) h)
  have HK := Lib.hid (fun w => keyCommon_any s t hs ht w)
  generalize (nums s).getD (common (nums s) (nums t)) 0 = x at ways HG1
  generalize (nums t).getD (common (nums s) (nums t)) 0 = y at ways HG2
  generalize common (nums s) (nums t) = n at hcl ways HG1 HG2 HK
  rcases ways with ⟨h1, h2, h3⟩ | ⟨h1, h2, h3⟩ | ⟨h1, h2, h3⟩ | ⟨h1, h2, hxy, h3⟩ | ⟨h1, h2, hxy, h3⟩
  all_goals
    have HR := Lib.hid h3
    clear h3
  · have q1 : ((n : Int) == ((runes s).length : Int)) = true := by simp only [beq_iff_eq]; omega
    have q2 : ((n : Int) == ((runes t).length : Int)) = true := by simp only [beq_iff_eq]; omega
    clear h1 h2
    go_enter Tryd.func95, Tryd.ntmps95
    go_wp2_with (first
      | (go_at_call 104; (with_reducible refine (HK.out _).mono ?_); rintro e w3 ⟨rfl, hbel3⟩)
      | (go_at_call 93; (with_reducible refine (runes_flat s hs w).mono ?_); rintro e w1 ⟨a, c, b, d, rfl, ha, hb, hbel⟩)
      | (go_at_call 93; (with_reducible refine (runes_flat t ht w1).mono ?_); rintro e w2 ⟨a2, c2, b2, d2, rfl, ha2, hb2, hbel2⟩))
    go_ret
    have hB : Below w.heap.size w w2 := hbel.trans (hbel2.mono hbel.size)
    exact ⟨ret_int (by rw [HR.out]), hB.trans (hbel3.mono hB.size)⟩
  · have q1 : ((n : Int) == ((runes s).length : Int)) = true := by simp only [beq_iff_eq]; omega
    have q2 : ((n : Int) == ((runes t).length : Int)) = false := by simp only [beq_eq_false_iff_ne]; omega
    clear h1 h2
    go_enter Tryd.func95, Tryd.ntmps95
    go_wp2_with (first
      | (go_at_call 104; (with_reducible refine (HK.out _).mono ?_); rintro e w3 ⟨rfl, hbel3⟩)
      | (go_at_call 93; (with_reducible refine (runes_flat s hs w).mono ?_); rintro e w1 ⟨a, c, b, d, rfl, ha, hb, hbel⟩)
      | (go_at_call 93; (with_reducible refine (runes_flat t ht w1).mono ?_); rintro e w2 ⟨a2, c2, b2, d2, rfl, ha2, hb2, hbel2⟩))
    go_ret
    have hB : Below w.heap.size w w2 := hbel.trans (hbel2.mono hbel.size)
    exact ⟨ret_int (by rw [HR.out]), hB.trans (hbel3.mono hB.size)⟩
  · have q1 : ((n : Int) == ((runes s).length : Int)) = false := by simp only [beq_eq_false_iff_ne]; omega
    have q2 : ((n : Int) == ((runes t).length : Int)) = true := by simp only [beq_iff_eq]; omega
    clear h1 h2
    go_enter Tryd.func95, Tryd.ntmps95
    go_wp2_with (first
      | (go_at_call 104; (with_reducible refine (HK.out _).mono ?_); rintro e w3 ⟨rfl, hbel3⟩)
      | (go_at_call 93; (with_reducible refine (runes_flat s hs w).mono ?_); rintro e w1 ⟨a, c, b, d, rfl, ha, hb, hbel⟩)
      | (go_at_call 93; (with_reducible refine (runes_flat t ht w1).mono ?_); rintro e w2 ⟨a2, c2, b2, d2, rfl, ha2, hb2, hbel2⟩))
    go_ret
    have hB : Below w.heap.size w w2 := hbel.trans (hbel2.mono hbel.size)
    exact ⟨ret_int (by rw [HR.out]), hB.trans (hbel3.mono hB.size)⟩
  all_goals
    have q1 : ((n : Int) == ((runes s).length : Int)) = false := by simp only [beq_eq_false_iff_ne]; omega
    have q2 : ((n : Int) == ((runes t).length : Int)) = false := by simp only [beq_eq_false_iff_ne]; omega
    have l1 : n < (runes s).length := by omega
    have l2 : n < (runes t).length := by omega
    have l3 : (n : Int) < ((runes s).length : Int) := by omega
    have l4 : (n : Int) < ((runes t).length : Int) := by omega
    clear h1 h2
    go_enter Tryd.func95, Tryd.ntmps95
    go_wp2_with (first
      | (go_at_call 104; (with_reducible refine (HK.out _).mono ?_); rintro e w3 ⟨rfl, hbel3⟩)
      | (go_at_call 93; (with_reducible refine (runes_flat s hs w).mono ?_); rintro e w1 ⟨a, c, b, d, rfl, ha, hb, hbel⟩)
      | (go_at_call 93; (with_reducible refine (runes_flat t ht w1).mono ?_); rintro e w2 ⟨a2, c2, b2, d2, rfl, ha2, hb2, hbel2⟩))
    have hB : Below w.heap.size w w2 := hbel.trans (hbel2.mono hbel.size)
    have hB3 := hB.trans (hbel3.mono hB.size)
    obtain ⟨g, rfl, e1⟩ := ((ha.below hbel2).below hbel3).at (HG1.out l1)
    obtain ⟨g', rfl, e2⟩ := (ha2.below hbel3).at (HG2.out l2)
    clear ha hb ha2 hb2
    go_quiet (fail)
    go_wp2
    go_ret
    exact ⟨ret_int (by rw [HR.out]), below_drewN hB3 nq⟩
end Go.Proofs.YtligapgjdpdihaaDoor.RefKeys
