/-
  Joined texts: BatchM, BatchA, BatchB, BatchC.
-/
import Derived.Test.YtligapgjdpdihaaDoorRunTup
import Derived.Test.YtligapgjdpdihaaDoorRunRefSort
import Derived.Test.YtligapgjdpdihaaDoorRunRegion
import Derived.Deep.QuietTactic
import Derived.BigQuiet
/-
  Writes, and rows of them in memory.
-/
set_option linter.unusedVariables false
set_option linter.unusedSimpArgs false
namespace Go.Proofs.YtligapgjdpdihaaDoor.Batch
open Go.RowKit
open Own Tup RefKeys RefSort

structure Wr where
  key : ByteArray
  del : Bool
  val : ByteArray
  deriving DecidableEq, Inhabited
/-- a write's cells -/
def wrC (x : Wr) : List Value := [.string x.key, .bool x.del, .string x.val]
def flatW (l : List Wr) : List Value := l.flatMap wrC
theorem flatW_snoc (l : List Wr) (x : Wr) : flatW (l ++ [x]) = flatW l ++ wrC x := by simp [flatW]
theorem flatW_length (l : List Wr) : (flatW l).length = l.length * 3 := by
  induction l with
  | nil => rfl
  | cons x r ih => simp only [flatW, List.flatMap_cons, List.length_append] at ih ⊢; rw [ih]; simp [wrC]; omega
theorem flatW_at : ∀ (l : List Wr) (k : Nat) (x : Wr), l[k]? = some x → (flatW l)[k * 3]? = some (.string x.key) ∧ (flatW l)[k * 3 + 1]? = some (.bool x.del) ∧ (flatW l)[k * 3 + 2]? = some (.string x.val)
  | [], k, x, h => by simp at h
  | y :: r, 0, x, h => by simp at h; subst h; exact ⟨rfl, rfl, rfl⟩
  | y :: r, k + 1, x, h => by
    have h1 := flatW_at r k x (by simpa using h)
    rw [show (k + 1) * 3 = k * 3 + 1 + 1 + 1 by omega]
    exact h1
/-- a row of writes lies there -/
def WAt (w : World) (a : Option Addr) (l : List Wr) : Prop := At w a (flatW l)
/-- .. that the call itself made -/
def WMine (w : World) (base : Nat) (v : Value) (l : List Wr) : Prop := w.ownsRow base 55 3 v l.length (flatW l)
theorem WMine.nil (w : World) (base : Nat) : WMine w base (.slice none 0 0) [] := ⟨rfl, .inl ⟨rfl, rfl⟩⟩
theorem WAt.get {w : World} {a : Option Addr} {l : List Wr} (h : WAt w a l) {k : Nat} {x : Wr} (hx : l[k]? = some x) :
    ∃ b off, a = some ⟨b, off, none⟩ ∧ w.cell? ⟨b, off + k * 3, none⟩ = some (.string x.key) ∧ w.cell? ⟨b, off + k * 3 + 1, none⟩ = some (.bool x.del) ∧ w.cell? ⟨b, off + k * 3 + 2, none⟩ = some (.string x.val) := by
  obtain ⟨h0, h1, h2⟩ := flatW_at l k x hx
  rcases h with h | ⟨b, off, ha, hl⟩
  · have := flatW_length l
    rw [h] at this
    have hk := (List.getElem?_eq_some_iff.1 hx).1
    simp at this; omega
  · exact ⟨b, off, ha, hl _ _ h0, by have := hl _ _ h1; rwa [← Nat.add_assoc] at this, by have := hl _ _ h2; rwa [← Nat.add_assoc] at this⟩
theorem infoW : (Tryd.prog.info? 55).map (fun i => (i.zero, i.size, i.bytes)) = some (some (.agg #[.string ⟨#[]⟩, .bool false, .string ⟨#[]⟩]), 3, 40) := by kernel_rfl
/-- a table of values, one of which is a fresh slice of one value -/
def Tab (tab : List Value) (k : Nat) (cs : List Value) : Nat → Value → World → Prop := fun i v w => if i = k then (∃ g, v = .slice (some ⟨g, 0, none⟩) 1 1 ∧ Lies w g 0 cs) else v = tab.getD i undef
theorem Tab.mono (tab : List Value) (k : Nat) (cs : List Value) : ∀ i v w w', Tab tab k cs i v w → Below w.heap.size w w' → Tab tab k cs i v w' := by
  intro i v w w' h hb
  unfold Tab at h ⊢
  split
  · rename_i e
    rw [if_pos e] at h
    obtain ⟨g, h1, h2⟩ := h
    exact ⟨g, h1, h2.below hb⟩
  · rename_i e
    rw [if_neg e] at h; exact h
end Go.Proofs.YtligapgjdpdihaaDoor.Batch
/-
  What the book's Writes and SameWrites answer.
-/
set_option linter.unusedVariables false
set_option linter.unusedSimpArgs false
namespace Go.Proofs.YtligapgjdpdihaaDoor.Batch
open Go.RowKit
open Own Tup RefKeys RefSort
open Go.Proofs.YtligapgjdpdihaaDoor.Region (fill Then Deps Each wp_region_tail)

def shortW (x : Wr) : Wr := ⟨shortOf x.key 60, x.del, shortOf x.val 60⟩
def writesOf (l : List Wr) (most : Nat) : List Wr := (l.take most).map shortW
theorem writes_succ (l : List Wr) (k : Nat) (h : k < l.length) : (l.take (k + 1)).map shortW = (l.take k).map shortW ++ [shortW l[k]] := by
  rw [List.take_succ_eq_append_getElem h, List.map_append]; rfl
structure WritesAt (l : List Wr) (w : World) (v : Value) (k : Nat) (wr : World) : Prop where
  le : k ≤ l.length
  own : WMine wr w.heap.size v ((l.take k).map shortW)
  below : Below w.heap.size w wr
set_option maxRecDepth 100000 in
set_option maxHeartbeats 4000000 in
theorem writes_any (a : Option Addr) (l : List Wr) (cap most : Nat) (hm : most ≤ 1000000) (hl : l.length ≤ maxLen) (w : World) (hr : WAt w a l) :
    Calls Tryd.prog 10 #[.slice a l.length cap, .int .i64 most] w fun e w' => ∃ v, e = .returned v ∧ WMine w' w.heap.size v (writesOf l most) ∧ Below w.heap.size w w' := by
  unfold maxLen at hl
  have HR := Lib.hid hr
  clear hr
  go_enter Tryd.func10, Tryd.ntmps10
  go_wp2
  go_loopw [5, 6] (fun v i wr => ∃ k : Nat, i = .int .i64 (k : Int) ∧ k ≤ most ∧ WritesAt l w v k wr) (fun _ i _ => most - (intOf i).toNat)
  case atStart => exact ⟨0, rfl, Nat.zero_le _, ⟨Nat.zero_le _, WMine.nil _ _, Below.refl _ _⟩⟩
  case round =>
    obtain ⟨k, rfl, hkm, hle, hown, hbel⟩ := hrel
    have HO := Lib.hid hown
    have HB := Lib.hid hbel
    have hbs := hbel.size
    clear hown hbel
    by_cases hk : k < l.length
    · have d1 : decide ((k : Int) < (l.length : Int)) = true := by simp; omega
      have d3 : decide (k < l.length) = true := by simp; omega
      by_cases hk2 : k < most
      · have d2 : decide ((k : Int) < (most : Int)) = true := by simp; omega
        have d4 : decide (k < most) = true := by simp; omega
        obtain ⟨b, off, ha, c0, c1, c2⟩ := WAt.get (Tup.At.below HR.out (HB.out)) (List.getElem?_eq_getElem hk)
        have HS := Lib.hid (writes_succ l k hk)
        generalize l[k] = x at c0 c1 c2 HS
        subst ha
        have HC := Lib.hid (And.intro c0 (And.intro c1 c2))
        clear c0 c1 c2
        have HSH : Hid (∀ s w, Calls Tryd.prog 24 #[.string s, .int .i64 60] w fun e w' => e = .returned (.string (shortOf s 60)) ∧ w' = w) := fun s w => short_any s 60 w
        go_wp2
        refine wp_region_tail 20 [18, 19, 20, 21, 22, 23, 24, 25, 26, 27, 28, 29, 30, 31, 32, 33, 34, 35, 36, 37] (fun w' => Below wr.heap.size wr w')
          (Tab [u5, .slice (some ⟨b, off, none⟩) l.length cap, .int .i64 (k : Int), .pointer (some ⟨b, off + k * 3, none⟩), .pointer (some ⟨b, off + k * 3, none⟩), .string x.key, .string (shortOf x.key 60),
            .slice (some ⟨b, off, none⟩) l.length cap, .int .i64 (k : Int), .pointer (some ⟨b, off + k * 3, none⟩), .pointer (some ⟨b, off + k * 3 + 1, none⟩), .bool x.del,
            .slice (some ⟨b, off, none⟩) l.length cap, .int .i64 (k : Int), .pointer (some ⟨b, off + k * 3, none⟩), .pointer (some ⟨b, off + k * 3 + 2, none⟩), .string x.val, .string (shortOf x.val 60),
            .agg #[.string (shortOf x.key 60), .bool x.del, .string (shortOf x.val 60)]] 19 (wrC (shortW x)))
          (by kernel_rfl) (by kernel_rfl) (by kernel_rfl) (by decide) rfl (by decide) (by simp) (Tab.mono _ _ _) (Below.refl _ _).drew ?each ?tail
        case each =>
          simp only [List.take_succ_cons, List.take_zero, Each]
          repeat' (first | exact trivial | refine And.intro ?_ ?_)
          all_goals
            intro ys wx hBx hdeps
            simp only [Deps, Region.binds, Tab, List.getD_cons_zero, List.getD_cons_succ, forall_const, and_true, Nat.reduceEqDiff, reduceIte] at hdeps
            have c0 : wx.cell? ⟨b, off + k * 3, none⟩ = some (.string x.key) := by rw [hBx.cell (p := ⟨b, off + k * 3, none⟩) (block_lt_of_cell HC.out.1)]; exact HC.out.1
            have c1 : wx.cell? ⟨b, off + k * 3 + 1, none⟩ = some (.bool x.del) := by rw [hBx.cell (p := ⟨b, off + k * 3 + 1, none⟩) (block_lt_of_cell HC.out.2.1)]; exact HC.out.2.1
            have c2 : wx.cell? ⟨b, off + k * 3 + 2, none⟩ = some (.string x.val) := by rw [hBx.cell (p := ⟨b, off + k * 3 + 2, none⟩) (block_lt_of_cell HC.out.2.2)]; exact HC.out.2.2
            simp only [hdeps, fill, List.foldl_cons, List.foldl_nil, Act.put, List.setIfInBounds_toArray, List.set_cons_succ, List.set_cons_zero]
            go_wp2_with (go_at_call 24; (with_reducible refine (HSH.out _ _).mono ?_); rintro e w3 ⟨rfl, rfl⟩)
            first
              | exact ⟨_, rfl, rfl, hBx, Below.refl _ _⟩
              | exact ⟨_, rfl, ⟨_, rfl, lies_new wx [.string (shortOf x.key 60), .bool x.del, .string (shortOf x.val 60)] 55⟩, hBx.alloc hBx.size _, (Below.refl _ _).alloc (Nat.le_refl _) _⟩
        case tail =>
          intro ys wx hBx hV
          have h18 : ys 18 = u5 := hV 0 (by decide)
          have h37 : ∃ g, ys 37 = .slice (some ⟨g, 0, none⟩) 1 1 ∧ Lies wx g 0 (wrC (shortW x)) := hV 19 (by decide)
          with_reducible refine Exists.elim h37 ?_
          intro g0 hh
          have hg0 := hh.1
          have HL := Lib.hid hh.2
          clear hh h37 hV
          have HO2 := Lib.hid (show WMine wx w.heap.size u5 ((l.take k).map shortW) from owns_below HO.out hBx)
          have HB2 := Lib.hid (HB.out.trans (hBx.mono hbs))
          simp only [h18, hg0, fill, List.drop_succ_cons, List.drop_zero, List.foldl_cons, List.foldl_nil, Act.put, List.setIfInBounds_toArray, List.set_cons_succ, List.set_cons_zero]
          have hlen : ((l.take k).map shortW).length = k := by simp; omega
          have b1 : (((l.take k).map shortW).length + 1) * 40 ≤ 140737488355328 := by omega
          have b2 : ((l.take k).map shortW).length + 1 ≤ maxLen := by simp only [maxLen]; omega
          have b3 : w.heap.size ≤ wx.heap.size := HB2.out.size
          refine append_tup rfl _ _ 25 rfl w.heap.size 55 (.agg #[.string ⟨#[]⟩, .bool false, .string ⟨#[]⟩]) 3 40 Tryd.underlying25 infoW rfl (by decide) u5 _ _ rfl HO2.out g0 (wrC (shortW x)) rfl rfl HL.out ?c1 b1 b2 b3 ?_
          case c1 => simp [wrC, Value.oneCell']
          intro g cap2 w2 hown2 hgrow2 hat2 hlt2
          go_wp2
          have hbel2 := below_append HB2.out hgrow2 b3 (fun t ht => (owns_lt HO2.out t ht).2)
          refine ⟨⟨k + 1, by go_num, by omega, ⟨by omega, ?_, hbel2⟩⟩, by simp [intOf]; omega⟩
          rw [HS.out]
          unfold WMine
          rw [flatW_snoc, List.length_append, List.length_singleton, hlen]
          rw [hlen] at hown2
          exact hown2
      · have hkk : k = most := by omega
        have HE := Lib.hid (show writesOf l most = (l.take k).map shortW by rw [writesOf, hkk])
        have d2 : decide ((k : Int) < (most : Int)) = false := by simp; omega
        have d4 : decide (k < most) = false := by simp; omega
        clear hkk
        go_wp2
        go_ret
        exact ⟨_, rfl, by rw [HE.out]; exact HO.out, HB.out⟩
    · have HE := Lib.hid (show writesOf l most = (l.take k).map shortW by rw [writesOf, List.take_of_length_le (by omega), List.take_of_length_le (by omega)])
      have d1 : decide ((k : Int) < (l.length : Int)) = false := by simp; omega
      have d3 : decide (k < l.length) = false := by simp; omega
      go_wp2
      go_ret
      exact ⟨_, rfl, by rw [HE.out]; exact HO.out, HB.out⟩
set_option maxRecDepth 100000 in
set_option maxHeartbeats 4000000 in
theorem sameW_any (a b : Option Addr) (l m : List Wr) (c d : Nat) (hl : l.length ≤ 1000000) (hm : m.length ≤ 1000000) (w : World) (ha : WAt w a l) (hb : WAt w b m) :
    Calls Tryd.prog 45 #[.slice a l.length c, .slice b m.length d] w fun e w' => e = .returned (.bool (decide (l = m))) ∧ ∃ n, w' = w.drewN n := by
  have HA := Lib.hid ha
  have HB := Lib.hid hb
  clear ha hb
  by_cases hlm : l.length = m.length
  · obtain ⟨n, hn⟩ : ∃ n, n = l.length := ⟨_, rfl⟩
    have hn2 : n = m.length := by omega
    rw [← hn, ← hn2]
    have HL := Lib.hid hn
    have HM := Lib.hid hn2
    rw [← hn] at hl
    clear hlm hn hn2 hm
    go_enter Tryd.func45, Tryd.ntmps45
    go_wp2
    go_loopw [5] (fun i wr => ∃ k : Nat, i = .int .i64 (k : Int) ∧ k ≤ n ∧ l.take k = m.take k ∧ ∃ q, wr = w.drewN q) (fun i _ => n - (intOf i).toNat)
    case atStart => exact ⟨0, rfl, by omega, rfl, 0, rfl⟩
    case round =>
      obtain ⟨k, rfl, hk, hpre, q0, rfl⟩ := hrel
      have HP := Lib.hid hpre
      clear hpre
      by_cases hlt : k < n
      · have h1 : k < l.length := by rw [← HL.out]; exact hlt
        have h2 : k < m.length := by rw [← HM.out]; exact hlt
        obtain ⟨b1, o1, ha1, c0, c1, c2⟩ := WAt.get HA.out (List.getElem?_eq_getElem h1)
        obtain ⟨b2, o2, ha2, e0, e1, e2⟩ := WAt.get HB.out (List.getElem?_eq_getElem h2)
        have HX := Lib.hid (List.take_succ_eq_append_getElem h1)
        have HY := Lib.hid (List.take_succ_eq_append_getElem h2)
        have HNE : Hid (l[k] ≠ m[k] → decide (l = m) = false) := fun h => by
          simp only [decide_eq_false_iff_not]; rintro rfl; exact h rfl
        subst ha1 ha2
        generalize l[k] = x at *
        generalize m[k] = y at *
        clear h1 h2
        by_cases hxy : x = y
        · subst hxy
          go_wp2
          go_quiet (fail)
          go_wp2
          go_roundw
          case rel => exact ⟨k + 1, by go_num, by omega, by rw [HX.out, HY.out, HP.out], q0 + nq, rfl⟩
          case measure => simp [intOf]; omega
        · have HE := Lib.hid (HNE.out hxy)
          have hd : (x.key.toList == y.key.toList) = false ∨ ((x.key.toList == y.key.toList) = true ∧ (x.del == y.del) = false) ∨ ((x.key.toList == y.key.toList) = true ∧ (x.del == y.del) = true ∧ (x.val.toList == y.val.toList) = false) := by
            rw [str_neq, str_neq]
            cases x; cases y; simp at hxy ⊢
            rename_i k1 d1 v1 k2 d2 v2
            by_cases h1 : k1 = k2 <;> by_cases h2 : d1 = d2 <;> simp_all
          clear hxy
          rcases hd with f1 | ⟨f1, f2⟩ | ⟨f1, f2, f3⟩
          all_goals
            go_wp2
            go_quiet (fail)
            go_wp2
            go_ret
            rw [HE.out]
            exact ⟨rfl, q0 + nq, by rw [World.drewN_drewN]⟩
      · go_wp2
        go_ret
        have hkl : l.length ≤ k := by rw [← HL.out]; omega
        have hkm : m.length ≤ k := by rw [← HM.out]; omega
        have : l = m := by have := HP.out; rwa [List.take_of_length_le hkl, List.take_of_length_le hkm] at this
        exact ⟨RefRune.ret_bool (by simp [this]), q0, rfl⟩
  · have HE := Lib.hid (show decide (l = m) = false by simp; intro h; exact hlm (by rw [h]))
    have d1 : ((l.length : Int) == (m.length : Int)) = false := by simp; omega
    have d2 : ((l.length : Int) != (m.length : Int)) = true := by simp; omega
    clear hlm
    go_enter Tryd.func45, Tryd.ntmps45
    go_wp2
    go_ret
    rw [HE.out]
    exact ⟨rfl, 0, rfl⟩
end Go.Proofs.YtligapgjdpdihaaDoor.Batch
/-
  What the document's own Find, Keys and Make answer of any writes.
-/
set_option linter.unusedVariables false
set_option linter.unusedSimpArgs false
namespace Go.Proofs.YtligapgjdpdihaaDoor.Batch
open Go.RowKit
open Own Tup RefKeys RefSort
open Go.Proofs.YtligapgjdpdihaaDoor.Region (fill Then Deps Each wp_region_tail)

/-- the last write of a key -/
def findW (l : List Wr) (key : ByteArray) : Option Wr := l.reverse.find? fun x => decide (x.key = key)
theorem find_hit {l : List Wr} {key : ByteArray} {k : Nat} (hk : k < l.length) (h : l[k].key = key) (hn : ∀ x ∈ l.drop (k + 1), x.key ≠ key) : findW l key = some l[k] := by
  have e : l = l.take k ++ (l[k] :: l.drop (k + 1)) := by rw [← List.drop_eq_getElem_cons hk, List.take_append_drop]
  unfold findW
  conv => lhs; rw [e]
  rw [List.reverse_append, List.reverse_cons, List.append_assoc, List.find?_append]
  have : (l.drop (k + 1)).reverse.find? (fun x => decide (x.key = key)) = none := by
    rw [List.find?_eq_none]; intro x hx; simpa using hn x (by simpa using hx)
  rw [this]
  simp [h]
theorem find_none {l : List Wr} {key : ByteArray} (hn : ∀ x ∈ l, x.key ≠ key) : findW l key = none := by
  unfold findW
  rw [List.find?_eq_none]; intro x hx; simpa using hn x (by simpa using hx)
def zeroW : Wr := ⟨ByteArray.empty, false, ByteArray.empty⟩
/-- a write as a value -/
def aggW (x : Wr) : Value := .agg #[.string x.key, .bool x.del, .string x.val]
def foundV (o : Option Wr) : Value := .tuple #[aggW (o.getD zeroW), .bool o.isSome]
set_option maxRecDepth 100000 in
set_option maxHeartbeats 4000000 in
theorem find_any (a : Option Addr) (l : List Wr) (cap : Nat) (key : ByteArray) (hl : l.length ≤ 1000000) (w : World) (hr : WAt w a l) :
    Calls Tryd.prog 51 #[.slice a l.length cap, .string key] w fun e w' => e = .returned (foundV (findW l key)) ∧ Below w.heap.size w w' := by
  have HR := Lib.hid (Tup.At.alloc hr (.cells #[.string ⟨#[]⟩, .bool false, .string ⟨#[]⟩] 55))
  have HV := Lib.hid (Var.new w 55 [.string ⟨#[]⟩, .bool false, .string ⟨#[]⟩])
  have HB := Lib.hid ((Below.refl w.heap.size w).alloc (Nat.le_refl _) (.cells #[.string ⟨#[]⟩, .bool false, .string ⟨#[]⟩] 55))
  clear hr
  go_enter Tryd.func51, Tryd.ntmps51
  go_wp2
  go_loop [6] (fun i => ∃ k : Nat, i = .int .i64 ((k : Int) - 1) ∧ k ≤ l.length ∧ ∀ x ∈ l.drop k, x.key ≠ key) (fun i => (intOf i + 1).toNat)
  case atStart => exact ⟨l.length, rfl, Nat.le_refl _, by simp⟩
  case round =>
    obtain ⟨k, rfl, hk, hn⟩ := hrel
    have HN := Lib.hid hn
    clear hn
    by_cases h0 : k = 0
    · subst h0
      have HE := Lib.hid (find_none (l := l) (key := key) (fun x hx => HN.out x hx))
      rw [show (((0 : Nat) : Int)) - 1 = -1 from rfl]
      go_wp2
      refine bodyPost_ret (by simp [results, Tryd.results51, go_sem]; try rfl) rfl ?_
      rw [HE.out]
      exact ⟨rfl, HB.out⟩
    · obtain ⟨j, rfl⟩ : ∃ j, k = j + 1 := ⟨k - 1, by omega⟩
      have e1 : (((j + 1 : Nat) : Int)) - 1 = (j : Int) := by omega
      rw [e1]
      clear e1
      have hj : j < l.length := by omega
      obtain ⟨b, off, ha, c0, c1, c2⟩ := WAt.get HR.out (List.getElem?_eq_getElem hj)
      subst ha
      by_cases hkey : l[j].key = key
      · have HE := Lib.hid (find_hit hj hkey HN.out)
        have q : (l[j].key.toList == key.toList) = true := by rw [str_neq]; simpa using hkey
        generalize l[j] = x at *
        clear hkey
        go_wp2
        refine bodyPost_ret (by simp [results, Tryd.results51, go_sem]; try rfl) rfl ?_
        rw [HE.out]
        exact ⟨rfl, (Below.refl w.heap.size w).alloc (Nat.le_refl _) _⟩
      · have q : (l[j].key.toList == key.toList) = false := by rw [str_neq]; simpa using hkey
        have HN2 : Hid (∀ x ∈ l.drop j, x.key ≠ key) := by
          intro x hx
          rw [List.drop_eq_getElem_cons hj] at hx
          rcases List.mem_cons.1 hx with rfl | hx
          · exact hkey
          · exact HN.out x hx
        generalize l[j] = x at *
        clear hkey
        go_wp2
        go_round
        case rel => exact ⟨j, by go_num, by omega, HN2.out⟩
        case measure => simp [intOf] <;> omega
/-- all keys, in order, each once -/
def keysW (l : List Wr) : List ByteArray := sortedL (l.map (·.key))
structure KeysAt (l : List Wr) (w : World) (v : Value) (k : Nat) (wr : World) : Prop where
  le : k ≤ l.length
  own : Mine wr w.heap.size 9 v (strsV ((l.take k).map (·.key)))
  below : Below w.heap.size w wr
theorem keys_succ (l : List Wr) (k : Nat) (h : k < l.length) : strsV ((l.take (k + 1)).map (·.key)) = strsV ((l.take k).map (·.key)) ++ [.string l[k].key] := by
  rw [List.take_succ_eq_append_getElem h, List.map_append]; simp [strsV]
set_option maxRecDepth 100000 in
set_option maxHeartbeats 4000000 in
theorem refKeys_any (a : Option Addr) (l : List Wr) (cap : Nat) (hl : l.length ≤ 1000000) (hz : ∀ x ∈ l, x.key.size ≤ 8796093022208) (w : World) (hr : WAt w a l) :
    Calls Tryd.prog 50 #[.slice a l.length cap] w fun e w' => ∃ v, e = .returned v ∧ Row w' v (strsV (keysW l)) ∧ Below w.heap.size w w' := by
  have HR := Lib.hid hr
  have HZ : Hid (∀ s ∈ l.map (·.key), s.size ≤ 8796093022208) := by
    intro s hs
    obtain ⟨x, hx, rfl⟩ := List.mem_map.1 hs
    exact hz x hx
  clear hr hz
  go_enter Tryd.func50, Tryd.ntmps50
  go_wp2
  go_loopw [3, 4] (fun v i wr => ∃ k : Nat, i = .int .i64 (k : Int) ∧ KeysAt l w v k wr) (fun _ i _ => l.length - (intOf i).toNat)
  case atStart => exact ⟨0, rfl, ⟨Nat.zero_le _, Mine.nil _ _ _, Below.refl _ _⟩⟩
  case round =>
    obtain ⟨k, rfl, hle, hown, hbel⟩ := hrel
    have HO := Lib.hid hown
    have HB := Lib.hid hbel
    have hbs := hbel.size
    clear hbel
    by_cases hk : k < l.length
    · have d1 : decide ((k : Int) < (l.length : Int)) = true := by simp; omega
      obtain ⟨b, off, ha, c0, -, -⟩ := WAt.get (Tup.At.below HR.out HB.out) (List.getElem?_eq_getElem hk)
      have HS := Lib.hid (keys_succ l k hk)
      generalize l[k] = x at c0 HS
      subst ha
      have hlen : (strsV ((l.take k).map (·.key))).length = k := by simp [strsV]; omega
      obtain ⟨L, hL⟩ : ∃ L, L = strsV ((l.take k).map (·.key)) := ⟨_, rfl⟩
      rw [← hL] at hown HS hlen
      clear HO hL
      have b1 : (L.length + 1) * 16 ≤ 140737488355328 := by omega
      have b2 : L.length + 1 ≤ maxLen := by simp only [maxLen]; omega
      clear hlen
      go_wp2_with (at_builtin; (refine append_one rfl _ _ 79 rfl w.heap.size 9 (.string ⟨#[]⟩) 16 Tryd.underlying79 infoStr rfl u3 _ rfl (Mine.alloc hown _) wr.heap.size (.string x.key) rfl ?c1 rfl b1 b2 ?c2 ?_); (case c1 => simp); (case c2 => (simp; omega)); intro g cap2 w2 hown2 hgrow2 hat2 hlt2)
      have hbel2 := below_append (HB.out.alloc hbs (.cells #[.string x.key] 9)) hgrow2 (by simp; omega) (fun t ht => (hown.lt t ht).2)
      go_roundw
      case rel => exact ⟨k + 1, by go_num, ⟨by omega, by rw [HS.out]; exact hown2, hbel2⟩⟩
      case measure => simp [intOf]; omega
    · have d1 : decide ((k : Int) < (l.length : Int)) = false := by simp; omega
      have HE := Lib.hid (show (l.take k).map (·.key) = l.map (·.key) by rw [List.take_of_length_le (by omega)])
      obtain ⟨va, vc, hv, hcells⟩ := row_strs (HE.out ▸ hown.row : Row wr u3 (strsV (l.map (·.key))))
      subst hv
      have HSRT := Lib.hid (sorted_any va (l.map (·.key)) vc (by simpa using hl) HZ.out wr hcells)
      rw [List.length_map] at HSRT ⊢
      clear hown hcells
      go_wp2_with fail
      go_at_call 81
      with_reducible refine HSRT.out.mono ?_
      rintro e w2 ⟨v, rfl, hrow, hb2⟩
      go_wp2
      go_ret
      exact ⟨_, rfl, hrow, HB.out.trans (hb2.mono hbs)⟩
end Go.Proofs.YtligapgjdpdihaaDoor.Batch
/-
  What the document's own Make answers of any writes.
-/
set_option linter.unusedVariables false
set_option linter.unusedSimpArgs false
namespace Go.Proofs.YtligapgjdpdihaaDoor.Batch
open Go.RowKit
open Own Tup RefKeys RefSort

theorem bel_alloc (w : World) (o : Obj) : Below w.heap.size w (w.alloc o) := (Below.refl _ _).alloc (Nat.le_refl _) o
theorem lies_two (w : World) (o : Obj) (cs : List Value) (t : TypeId) : Lies ((w.alloc o).alloc (.cells cs.toArray t)) (w.heap.size + 1) 0 cs := by
  have h := lies_new (w.alloc o) cs t
  have e : (w.alloc o).heap.size = w.heap.size + 1 := by simp
  rw [e] at h; exact h
/-- of a Del no Val -/
def cleanW (x : Wr) : Wr := if x.del then ⟨x.key, true, ByteArray.empty⟩ else x
def lastW (l : List Wr) (key : ByteArray) : Wr := cleanW ((findW l key).getD zeroW)
def makeW (l : List Wr) : List Wr := (keysW l).map (lastW l)
theorem make_succ (l : List Wr) (k : Nat) (h : k < (keysW l).length) : ((keysW l).take (k + 1)).map (lastW l) = ((keysW l).take k).map (lastW l) ++ [lastW l (keysW l)[k]] := by
  rw [List.take_succ_eq_append_getElem h, List.map_append]; rfl
structure MakeAt (l : List Wr) (w1 : World) (v : Value) (k : Nat) (wr : World) : Prop where
  le : k ≤ (keysW l).length
  own : WMine wr w1.heap.size v (((keysW l).take k).map (lastW l))
  below : Below w1.heap.size w1 wr
set_option maxRecDepth 100000 in
set_option maxHeartbeats 4000000 in
theorem refMake_any (a : Option Addr) (l : List Wr) (cap : Nat) (hl : l.length ≤ 1000000) (hz : ∀ x ∈ l, x.key.size ≤ 8796093022208) (w : World) (hr : WAt w a l) :
    Calls Tryd.prog 25 #[.slice a l.length cap] w fun e w' => ∃ v, e = .returned v ∧ WMine w' w.heap.size v (makeW l) ∧ Below w.heap.size w w' := by
  have HK := Lib.hid (refKeys_any a l cap hl hz w hr)
  have HR := Lib.hid hr
  have hkl : (keysW l).length ≤ 1000000 := by have := sortedL_length (l.map (·.key)); rw [List.length_map] at this; unfold keysW; omega
  clear hr hz
  go_enter Tryd.func25, Tryd.ntmps25
  go_wp2_with fail
  go_at_call 50
  with_reducible refine HK.out.mono ?_
  rintro e w1 ⟨kv, rfl, hkrow, hb1⟩
  with_reducible refine Exists.elim (row_strs hkrow) ?_
  intro ka hh1
  with_reducible refine Exists.elim hh1 ?_
  intro kc hh2
  have hkv := hh2.1
  have HKC := Lib.hid hh2.2
  have HB1 := Lib.hid hb1
  have hbs1 := hb1.size
  clear hh1 hh2 hkrow hb1 HK
  subst hkv
  go_wp2
  go_loopw [4, 5] (fun v i wr => ∃ k : Nat, i = .int .i64 (k : Int) ∧ MakeAt l w1 v k wr) (fun _ i _ => (keysW l).length - (intOf i).toNat)
  case atStart => exact ⟨0, rfl, ⟨Nat.zero_le _, WMine.nil _ _, Below.refl _ _⟩⟩
  case round =>
    obtain ⟨k, rfl, hle, hown, hbel⟩ := hrel
    have HO := Lib.hid hown
    have HB := Lib.hid hbel
    have hbs := hbel.size
    clear hbel hown
    by_cases hk : k < (keysW l).length
    · have d1 : decide ((k : Int) < ((keysW l).length : Int)) = true := by simp; omega
      have HS := Lib.hid (make_succ l k hk)
      obtain ⟨gk, hka, ck⟩ := (HKC.out.below HB.out).at (strsV_at (keysW l) k hk)
      subst hka
      have hlen : (((keysW l).take k).map (lastW l)).length = k := by simp; omega
      have HF : Hid (∀ key, Calls Tryd.prog 51 #[.slice a l.length cap, .string key] wr fun e w' => e = .returned (.tuple #[.agg #[.string ((findW l key).getD zeroW).key, .bool ((findW l key).getD zeroW).del, .string ((findW l key).getD zeroW).val], .bool (findW l key).isSome]) ∧ Below wr.heap.size wr w') :=
        fun key => find_any a l cap key hl wr (Tup.At.below HR.out (HB1.out.trans (HB.out.mono hbs1)))
      have hl2 : lastW l (keysW l)[k] = cleanW ((findW l (keysW l)[k]).getD zeroW) := rfl
      rw [hl2] at HS
      clear hl2
      have HF2 := Lib.hid (HF.out (keysW l)[k])
      clear HF
      generalize (keysW l)[k] = key at *
      generalize (findW l key).getD zeroW = x at *
      generalize (findW l key).isSome = ok at *
      have b1 : ((((keysW l).take k).map (lastW l)).length + 1) * 40 ≤ 140737488355328 := by omega
      have b2 : (((keysW l).take k).map (lastW l)).length + 1 ≤ maxLen := by simp only [maxLen]; omega
      obtain ⟨L, hL⟩ : ∃ L, L = ((keysW l).take k).map (lastW l) := ⟨_, rfl⟩
      rw [← hL] at HO HS b1 b2 hlen
      clear hL
      cases hdel : x.del with
      | true =>
        have HC := Lib.hid (show cleanW x = ⟨x.key, true, ByteArray.empty⟩ by unfold cleanW; rw [hdel]; cases x; simp at hdel ⊢; try exact hdel)
        rw [hdel] at HF2
        go_wp2_with fail
        go_at_call 51
        with_reducible refine HF2.out.mono ?_
        rintro e w2 ⟨rfl, hb2⟩
        have HO2 := Lib.hid (show WMine w2 w1.heap.size u4 L from owns_below HO.out hb2)
        have HB2 := Lib.hid (HB.out.trans (hb2.mono hbs))
        have hbs2 := HB2.out.size
        clear hb2
        go_wp2_with (at_builtin; (refine append_tup rfl _ _ 25 rfl w1.heap.size 55 (.agg #[.string ⟨#[]⟩, .bool false, .string ⟨#[]⟩]) 3 40 Tryd.underlying25 infoW rfl (by decide) u4 _ _ rfl (show World.ownsRow _ w1.heap.size _ 3 u4 L.length (flatW L) from owns_below (owns_below HO2.out (bel_alloc _ _)) (bel_alloc _ _)) (w2.heap.size + 1) (wrC ⟨x.key, true, ByteArray.empty⟩) rfl rfl ?c0 ?c1 b1 b2 ?c2 ?_); (case c0 => exact lies_two w2 _ (wrC ⟨x.key, true, ByteArray.empty⟩) _); (case c1 => simp [wrC, Value.oneCell']); (case c2 => (simp; omega)); intro g cap2 w3 hown3 hgrow3 hat3 hlt3)
        have HB3 := Lib.hid (below_append ((HB2.out.alloc hbs2 (.cells (wrC ⟨x.key, true, ByteArray.empty⟩).toArray 55)).alloc (by simp; omega) (.cells (wrC ⟨x.key, true, ByteArray.empty⟩).toArray 55)) hgrow3 (by simp; omega) (fun t ht => (owns_lt HO2.out t ht).2))
        refine ⟨⟨k + 1, by go_num, ⟨by omega, ?_, HB3.out⟩⟩, by simp [intOf]; omega⟩
        rw [HS.out, HC.out]
        unfold WMine
        rw [flatW_snoc, List.length_append, List.length_singleton, hlen]
        rw [hlen] at hown3
        exact hown3
      | false =>
        have HC := Lib.hid (show cleanW x = ⟨x.key, false, x.val⟩ by unfold cleanW; rw [hdel]; cases x; simp at hdel ⊢; try exact hdel)
        rw [hdel] at HF2
        go_wp2_with fail
        go_at_call 51
        with_reducible refine HF2.out.mono ?_
        rintro e w2 ⟨rfl, hb2⟩
        have HO2 := Lib.hid (show WMine w2 w1.heap.size u4 L from owns_below HO.out hb2)
        have HB2 := Lib.hid (HB.out.trans (hb2.mono hbs))
        have hbs2 := HB2.out.size
        clear hb2
        go_wp2_with (at_builtin; (refine append_tup rfl _ _ 25 rfl w1.heap.size 55 (.agg #[.string ⟨#[]⟩, .bool false, .string ⟨#[]⟩]) 3 40 Tryd.underlying25 infoW rfl (by decide) u4 _ _ rfl (show World.ownsRow _ w1.heap.size _ 3 u4 L.length (flatW L) from owns_below (owns_below HO2.out (bel_alloc _ _)) (bel_alloc _ _)) (w2.heap.size + 1) (wrC ⟨x.key, false, x.val⟩) rfl rfl ?c0 ?c1 b1 b2 ?c2 ?_); (case c0 => exact lies_two w2 _ (wrC ⟨x.key, false, x.val⟩) _); (case c1 => simp [wrC, Value.oneCell']); (case c2 => (simp; omega)); intro g cap2 w3 hown3 hgrow3 hat3 hlt3)
        have HB3 := Lib.hid (below_append ((HB2.out.alloc hbs2 (.cells (wrC ⟨x.key, false, x.val⟩).toArray 55)).alloc (by simp; omega) (.cells (wrC ⟨x.key, false, x.val⟩).toArray 55)) hgrow3 (by simp; omega) (fun t ht => (owns_lt HO2.out t ht).2))
        refine ⟨⟨k + 1, by go_num, ⟨by omega, ?_, HB3.out⟩⟩, by simp [intOf]; omega⟩
        rw [HS.out, HC.out]
        unfold WMine
        rw [flatW_snoc, List.length_append, List.length_singleton, hlen]
        rw [hlen] at hown3
        exact hown3
    · have d1 : decide ((k : Int) < ((keysW l).length : Int)) = false := by simp; omega
      have HE := Lib.hid (show ((keysW l).take k).map (lastW l) = makeW l by rw [List.take_of_length_le (by omega), makeW])
      go_wp2
      go_ret
      exact ⟨_, rfl, by rw [← HE.out]; exact owns_base HO.out hbs1, HB1.out.trans (HB.out.mono hbs1)⟩
end Go.Proofs.YtligapgjdpdihaaDoor.Batch
