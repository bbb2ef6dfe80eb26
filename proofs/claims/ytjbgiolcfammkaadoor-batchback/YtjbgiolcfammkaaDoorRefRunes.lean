/-
  What the document's own Runes answers, for every text of at most 2 to the 43rd bytes.
-/
import Derived.Test.YtjbgiolcfammkaaDoorRefRune
import Derived.Test.YtjbgiolcfammkaaDoorOwn
import Derived.Test.YtjbgiolcfammkaaDoorJoinM
namespace Go.Proofs.YtjbgiolcfammkaaDoor.RefKeys
open Go.RowKit
open RuneM RefRune Own

theorem infoInt : (Tryd.prog.info? 3).map (fun i => (i.zero, i.size, i.bytes)) = some (some (.int .i64 0), 1, 8) := by kernel_rfl
def I (n : Nat) : Value := .int .i64 (n : Int)
/-- the runes' numbers, their widths, as values -/
def numsOf (l : List (Nat × Nat)) : List Value := l.map fun x => I x.1
def sizesOf (l : List (Nat × Nat)) : List Value := l.map fun x => I x.2
theorem numsOf_snoc (l : List (Nat × Nat)) (x : Nat × Nat) : numsOf (l ++ [x]) = numsOf l ++ [.int .i64 (x.1 : Int)] := by simp [numsOf, I]
theorem sizesOf_snoc (l : List (Nat × Nat)) (x : Nat × Nat) : sizesOf (l ++ [x]) = sizesOf l ++ [.int .i64 (x.2 : Int)] := by simp [sizesOf, I]
/-- what Runes answers -/
def Runes (s : ByteArray) (w : World) (e : Ending) (w' : World) : Prop := ∃ v u, e = .returned (.tuple #[v, u]) ∧ Row w' v (numsOf (runes s)) ∧ Row w' u (sizesOf (runes s)) ∧ Below w.heap.size w w'
/-- what holds at the head of a round of Runes -/
structure At (s : ByteArray) (w : World) (v u : Value) (i : Nat) (done : List (Nat × Nat)) (wr : World) : Prop where
  le : i ≤ s.size
  all : runes s = done ++ rest s i
  ov : Mine wr w.heap.size 3 v (numsOf done)
  ou : Mine wr w.heap.size 3 u (sizesOf done)
  ne : v.ownBlock = none ∨ v.ownBlock ≠ u.ownBlock
  below : Below w.heap.size w wr

theorem apart1 {v u : Value} (h : v.ownBlock = none ∨ v.ownBlock ≠ u.ownBlock) : u.ownBlock = none ∨ u.ownBlock ≠ v.ownBlock := by
  rcases h with h | h
  · cases hu : u.ownBlock with
    | none => exact .inl rfl
    | some k => right; rw [h]; simp
  · exact .inr (Ne.symm h)
set_option maxRecDepth 100000 in
set_option maxHeartbeats 2000000 in
theorem runes_any (s : ByteArray) (hs : s.size ≤ 8796093022208) (w : World) : Calls Tryd.prog 52 #[.string s] w (Runes s w) := by
  have hml : s.size ≤ maxLen := by simp [maxLen]; omega
  go_enter Tryd.func52, Tryd.ntmps52
  go_wp2
  go_loopw [4, 5, 6] (fun v u x wr => ∃ i done, x = .int .i64 ((i : Nat) : Int) ∧ At s w v u i done wr) (fun _ _ x _ => s.size - (intOf x).toNat)
  case atStart => exact ⟨0, [], rfl, ⟨Nat.zero_le _, rfl, Mine.nil _ _ _, Mine.nil _ _ _, .inl rfl, Below.refl _ _⟩⟩
  case round =>
    obtain ⟨i, done, rfl, hA⟩ := hrel
    by_cases hlt : i < s.size
    · obtain ⟨_, hall, hov, hou, hne, hbel⟩ := hA
      have hw := dec_width s i hlt
      have hlen : done.length ≤ s.size := by
        have h1 := runes_length s
        rw [hall, List.length_append] at h1; omega
      have HN := Lib.hid hall
      have HR := Lib.hid (rest_cons s i hlt)
      have HNE := Lib.hid hne
      clear hall hne
      generalize hd : Utf8.decode s i = d at hw HR
      have HT : Hid (∀ w, Calls Tryd.prog 69 #[.string s, .int .i64 i] w fun e w' => e = .returned (.tuple #[.int .i64 (d.1 : Int), .int .i64 (d.2 : Int)]) ∧ ∃ n, w' = w.drewN n) := by
        intro w
        have := rune_any s hml i hlt w
        rw [← hd]; exact this
      clear hd
      have ln : (numsOf done).length = done.length := by simp [numsOf]
      have ls : (sizesOf done).length = done.length := by simp [sizesOf]
      have b1 : ((numsOf done).length + 1) * 8 ≤ 140737488355328 := by omega
      have b2 : ((sizesOf done).length + 1) * 8 ≤ 140737488355328 := by omega
      have b3 : (numsOf done).length + 1 ≤ maxLen := by simp only [maxLen]; omega
      have b4 : (sizesOf done).length + 1 ≤ maxLen := by simp only [maxLen]; omega
      have hbs := hbel.size
      clear ln ls
      go_wp2_with (first
        | (go_at_call 69; (with_reducible refine (HT.out _).mono ?_); rintro e w1 ⟨rfl, hdr⟩; have HZ := Lib.hid (draw_size hdr))
        | (at_builtin; (refine append_one rfl _ _ 80 rfl w.heap.size 3 (.int .i64 0) 8 Tryd.underlying80 infoInt rfl u5 (sizesOf done) rfl (Mine.alloc hou2 _) w2.heap.size (.int .i64 (d.2 : Int)) rfl ?c3 rfl b2 b4 ?c4 ?_); (case c3 => simp); (case c4 => (have := hbel2.size; simp; omega)); intro g2 cap2 w3 hou3 hgrow3 hat3 hlt3)
        | (at_builtin; (refine append_one rfl _ _ 80 rfl w.heap.size 3 (.int .i64 0) 8 Tryd.underlying80 infoInt rfl u4 (numsOf done) rfl (Mine.alloc (Mine.draw hov hdr) _) w1.heap.size (.int .i64 (d.1 : Int)) rfl ?c1 rfl b1 b3 ?c2 ?_); (case c1 => simp); (case c2 => (have := HZ.out; simp; omega)); intro g cap w2 hov2 hgrow2 hat2 hlt2
           have hou2 := (Mine.alloc (Mine.draw hou hdr) (.cells #[.int .i64 (d.1 : Int)] 3)).kept hgrow2 (apart1 HNE.out)
           have hbel2 := below_append ((below_draw hbel hdr).alloc (by have := HZ.out; omega) (.cells #[.int .i64 (d.1 : Int)] 3)) hgrow2 (by have := HZ.out; simp; omega) (fun k hk => ((Mine.draw hov hdr).lt k hk).2)))
      have hgu : (Value.slice (some ⟨g, 0, none⟩) ((numsOf done).length + 1) cap).ownBlock ≠ u5.ownBlock := by
        intro h
        rcases hat2 with h2 | h2
        · rcases HNE.out with h3 | h3
          · rw [h3] at h2; simp at h2
          · exact h3 (by rw [h2]; exact h)
        · have := (hou.lt g (by rw [← h]; rfl)).1
          have := HZ.out
          simp at h2; omega
      have hov3 : Mine w3 w.heap.size 3 (.slice (some ⟨g, 0, none⟩) ((numsOf done).length + 1) cap) (numsOf (done ++ [d])) := by
        rw [numsOf_snoc]; exact (Mine.alloc hov2 (.cells #[.int .i64 (d.2 : Int)] 3)).kept hgrow3 (.inr hgu)
      have hou3' : Mine w3 w.heap.size 3 (.slice (some ⟨g2, 0, none⟩) ((sizesOf done).length + 1) cap2) (sizesOf (done ++ [d])) := by
        rw [sizesOf_snoc]; exact hou3
      have hne3 : (Value.slice (some ⟨g, 0, none⟩) ((numsOf done).length + 1) cap).ownBlock ≠ (Value.slice (some ⟨g2, 0, none⟩) ((sizesOf done).length + 1) cap2).ownBlock := by
        intro h
        have hg : g = g2 := by simpa [Value.ownBlock] using h
        rcases hat3 with h3 | h3
        · exact hgu (by rw [h3, ← hg]; rfl)
        · simp at h3; omega
      have hbel3 := below_append (hbel2.alloc (by have := hbel2.size; omega) (.cells #[.int .i64 (d.2 : Int)] 3)) hgrow3 (by have := hbel2.size; simp; omega) (fun k hk => (hou2.lt k hk).2)
      have hall3 : runes s = (done ++ [d]) ++ rest s (i + d.2) := by rw [HN.out, HR.out]; simp
      go_roundw
      case rel => exact ⟨i + d.2, done ++ [d], by go_num, ⟨by omega, hall3, hov3, hou3', .inr hne3, hbel3⟩⟩
      case measure => simp [intOf]; omega
    · obtain ⟨_, hall, hov, hou, hne, hbel⟩ := hA
      have hrun : runes s = done := by rw [hall, rest_end s i (by omega), List.append_nil]
      have HRN := Lib.hid hrun
      clear hall hne hrun
      go_wp2
      go_ret2
      exact ⟨_, _, rfl, by rw [HRN.out]; exact hov.row, by rw [HRN.out]; exact hou.row, hbel⟩

/-- may a rune stand in a key? -/
def plainB (x : Nat × Nat) : Bool := decide (33 ≤ x.1) && !(decide (127 ≤ x.1) && decide (x.1 ≤ 160)) && !(decide (x.1 = 65533) && decide (x.2 = 1))
/-- Runes' answer, laid flat -/
theorem runes_flat (s : ByteArray) (hs : s.size ≤ 8796093022208) (w : World) : Calls Tryd.prog 52 #[.string s] w fun e w' =>
    ∃ a c b d, e = .returned (.tuple #[.slice a (runes s).length c, .slice b (runes s).length d]) ∧ Cells w' a (numsOf (runes s)) ∧ Cells w' b (sizesOf (runes s)) ∧ Below w.heap.size w w' := by
  refine (runes_any s hs w).mono ?_
  rintro e w' ⟨v, u, rfl, ⟨a, c, rfl, ha⟩, ⟨b, d, rfl, hb⟩, hbel⟩
  exact ⟨a, c, b, d, by simp [numsOf, sizesOf], ha, hb, hbel⟩
theorem nums_at (l : List (Nat × Nat)) (k : Nat) (h : k < l.length) : (numsOf l)[k]? = some (.int .i64 ((l[k].1 : Nat) : Int)) := by simp [numsOf, I, h]
theorem sizes_at (l : List (Nat × Nat)) (k : Nat) (h : k < l.length) : (sizesOf l)[k]? = some (.int .i64 ((l[k].2 : Nat) : Int)) := by simp [sizesOf, I, h]
/-- is a text a key? -/
def keyRight (s : ByteArray) : Bool := (runes s).all plainB && decide (1 ≤ (runes s).length) && decide ((runes s).length ≤ 12)
theorem all_take {l : List (Nat × Nat)} {k : Nat} (h : k < l.length) : (l.take (k + 1)).all plainB = ((l.take k).all plainB && plainB l[k]) := by
  rw [List.take_succ_eq_append_getElem h, List.all_append]; simp

theorem all_false {l : List (Nat × Nat)} {x : Nat × Nat} (h : x ∈ l) (hp : plainB x = false) : l.all plainB = false := by
  rw [List.all_eq_false]; exact ⟨x, h, by simp [hp]⟩
theorem drew_drew {w w1 : World} {n : Nat} (h : ∃ m, w1 = w.drewN m) : ∃ m, w1.drewN n = w.drewN m := by
  obtain ⟨m, rfl⟩ := h; exact ⟨m + n, by rw [World.drewN_drewN]⟩
/-- the bytes of a text's first runes -/
def headOf (s : ByteArray) (n : Int) : ByteArray := s.extract 0 (width ((runes s).take n.toNat))
theorem ret_string {a b : ByteArray} (h : a = b) : Ending.returned (.string a) = .returned (.string b) := by rw [h]
theorem nums_get (s : ByteArray) (k : Nat) (h : k < (runes s).length) : (numsOf (runes s))[k]? = some (.int .i64 (((nums s).getD k 0 : Nat) : Int)) := by
  simp [numsOf, I, nums, h, List.getD]
theorem ret_int {k : IntKind} {a b : Int} (h : a = b) : Ending.returned (.int k a) = .returned (.int k b) := by rw [h]
/-- how two texts stand to one another -/
def cmpS (s t : ByteArray) : Int := cmpL (nums s) (nums t)
end Go.Proofs.YtjbgiolcfammkaaDoor.RefKeys
