/-
  What the document's own order and sorting of texts, and the statements' helpers on lists of texts, answer.
-/
import Derived.Test.YtjbgiolcfammkaaDoorRefKeys
import Derived.RegionTactic
import Derived.Deep.RegionHeld3
namespace Go.Proofs.YtjbgiolcfammkaaDoor.RefSort
open Go.RowKit
open RuneM RefRune Own RefKeys Common

/-- does s stand ahead of t? -/
def aheadB (s t : ByteArray) : Bool := decide (cmpS s t < 0) || (decide (cmpS s t = 0) && Op.bytesLess s.toList t.toList)
theorem cmpL_three (x y : List Nat) : cmpL x y = -1 ∨ cmpL x y = 0 ∨ cmpL x y = 1 := by
  rw [cmpL_common]; repeat' split
  all_goals simp
theorem ahead_any (s t : ByteArray) (hs : s.size ≤ 8796093022208) (ht : t.size ≤ 8796093022208) (b : Bool) (hb : aheadB s t = b) (w : World) :
    Calls Tryd.prog 31 #[.string s, .string t] w fun e w' => e = .returned (.bool b) ∧ Below w.heap.size w w' := by
  subst hb
  have HB : Hid (aheadB s t = (decide (cmpS s t < 0) || (decide (cmpS s t = 0) && Op.bytesLess s.toList t.toList))) := rfl
  have HK := Lib.hid (fun w => keyCmp_any s t hs ht w)
  have h3 : cmpS s t = -1 ∨ cmpS s t = 0 ∨ cmpS s t = 1 := cmpL_three _ _
  generalize cmpS s t = c at HB HK h3
  rcases h3 with rfl | rfl | rfl
  all_goals
    go_enter Tryd.func31, Tryd.ntmps31
    go_wp2_with (go_at_call 54; (with_reducible refine (HK.out _).mono ?_); rintro e w1 ⟨rfl, hbel⟩)
    go_ret
    exact ⟨ret_bool (by rw [HB.out]; simp), hbel⟩

/-- a text cut off -/
def shortOf (s : ByteArray) (n : Nat) : ByteArray := s.extract 0 (min s.size n)
theorem short_any (s : ByteArray) (n : Nat) (w : World) :
    Calls Tryd.prog 32 #[.string s, .int .i64 n] w fun e w' => e = .returned (.string (shortOf s n)) ∧ w' = w := by
  by_cases h : n < s.size
  · have H := Lib.hid (show shortOf s n = s.extract 0 n by unfold shortOf; rw [show min s.size n = n by omega])
    go_enter Tryd.func32, Tryd.ntmps32
    go_wp2
    go_ret
    exact ⟨ret_string (by rw [H.out]), rfl⟩
  · have H := Lib.hid (show shortOf s n = s.extract 0 s.size by unfold shortOf; rw [show min s.size n = s.size by omega])
    go_enter Tryd.func32, Tryd.ntmps32
    go_wp2
    go_ret
    exact ⟨ret_string (by rw [H.out]; simp), rfl⟩
theorem infoStr : (Tryd.prog.info? 9).map (fun i => (i.zero, i.size, i.bytes)) = some (some (.string ⟨#[]⟩), 1, 16) := by kernel_rfl
def strsV (l : List ByteArray) : List Value := l.map Value.string
theorem strsV_snoc (l : List ByteArray) (s : ByteArray) : strsV (l ++ [s]) = strsV l ++ [.string s] := by simp [strsV]
theorem strsV_at (l : List ByteArray) (k : Nat) (h : k < l.length) : (strsV l)[k]? = some (.string l[k]) := by simp [strsV, h]
/-- few texts, short ones -/
def textsOf (l : List ByteArray) (most n : Nat) : List ByteArray := (l.take most).map (shortOf · n)
theorem texts_succ (l : List ByteArray) (n k : Nat) (h : k < l.length) : (l.take (k + 1)).map (shortOf · n) = (l.take k).map (shortOf · n) ++ [shortOf (l.getD k ByteArray.empty) n] := by
  rw [List.take_succ_eq_append_getElem h, List.map_append]
  simp [List.getD, h]

/-- where a text goes in -/
def insAt : List ByteArray → ByteArray → Nat
  | [], _ => 0
  | x :: r, s => if aheadB x s then insAt r s + 1 else 0
/-- a text put into a list that is in order, if it is not there -/
def insU (out : List ByteArray) (s : ByteArray) : List ByteArray := if out[insAt out s]? = some s then out else out.take (insAt out s) ++ [s] ++ out.drop (insAt out s)
def sortedL (l : List ByteArray) : List ByteArray := l.foldl insU []
theorem sortedL_snoc (l : List ByteArray) (k : Nat) (h : k < l.length) : sortedL (l.take (k + 1)) = insU (sortedL (l.take k)) l[k] := by
  unfold sortedL; rw [List.take_succ_eq_append_getElem h, List.foldl_append]; rfl
theorem insAt_le (out : List ByteArray) (s : ByteArray) : insAt out s ≤ out.length := by
  induction out with
  | nil => simp [insAt]
  | cons x r ih => simp only [insAt, List.length_cons]; split <;> omega
theorem insAt_more {out : List ByteArray} {s : ByteArray} {k : Nat} (hk : k ≤ insAt out s) (h : k < out.length) (ha : aheadB out[k] s = true) : k + 1 ≤ insAt out s := by
  induction out generalizing k with
  | nil => simp at h
  | cons x r ih =>
    cases k with
    | zero => simp only [List.getElem_cons_zero] at ha; simp [insAt, ha]
    | succ k =>
      simp only [insAt] at hk ⊢
      split at hk
      · rename_i hx; rw [if_pos hx]; have := ih (k := k) (by omega) (by simpa using h) (by simpa using ha); omega
      · omega
theorem insAt_stop {out : List ByteArray} {s : ByteArray} {k : Nat} (hk : k ≤ insAt out s) (h : k < out.length) (ha : aheadB out[k] s = false) : k = insAt out s := by
  induction out generalizing k with
  | nil => simp at h
  | cons x r ih =>
    cases k with
    | zero => simp only [List.getElem_cons_zero] at ha; simp [insAt, ha]
    | succ k =>
      simp only [insAt] at hk ⊢
      split at hk
      · rename_i hx; rw [if_pos hx]; have := ih (k := k) (by omega) (by simpa using h) (by simpa using ha); omega
      · omega
theorem insU_mem {out : List ByteArray} {s x : ByteArray} (h : x ∈ insU out s) : x ∈ out ∨ x = s := by
  unfold insU at h
  split at h
  · exact .inl h
  · simp only [List.mem_append, List.mem_cons, List.not_mem_nil, or_false] at h
    rcases h with (h | h) | h
    · exact .inl (List.mem_of_mem_take h)
    · exact .inr h
    · exact .inl (List.mem_of_mem_drop h)
theorem sortedL_mem (l : List ByteArray) : ∀ x ∈ sortedL l, x ∈ l := by
  have : ∀ (l out : List ByteArray) x, x ∈ l.foldl insU out → x ∈ out ∨ x ∈ l := by
    intro l
    induction l with
    | nil => intro out x h; exact .inl h
    | cons s l ih =>
      intro out x h
      rcases ih _ x h with h | h
      · rcases insU_mem h with h | h
        · exact .inl h
        · exact .inr (by simp [h])
      · exact .inr (by simp [h])
  intro x h
  rcases this l [] x h with h | h
  · simp at h
  · exact h
theorem insU_length (out : List ByteArray) (s : ByteArray) : (insU out s).length ≤ out.length + 1 := by
  unfold insU
  split
  · omega
  · have := insAt_le out s
    simp; omega
theorem sortedL_length (l : List ByteArray) : (sortedL l).length ≤ l.length := by
  have : ∀ (l out : List ByteArray), (l.foldl insU out).length ≤ out.length + l.length := by
    intro l
    induction l with
    | nil => intro out; simp
    | cons s l ih => intro out; have := ih (insU out s); have := insU_length out s; simp only [List.foldl_cons, List.length_cons]; omega
  have := this l []; simpa [sortedL] using this

theorem str_neq (a b : ByteArray) : (a.toList == b.toList) = decide (a = b) := by
  rw [ByteArray.toList_eq, ByteArray.toList_eq, Bool.eq_iff_iff]
  simp only [beq_iff_eq, decide_eq_true_eq]
  exact ⟨fun h => ByteArray.ext (Array.toList_inj.1 h), fun h => by rw [h]⟩
set_option maxHeartbeats 2000000 in
theorem same_any (a b : Option Addr) (l m : List ByteArray) (c d : Nat) (hl : l.length ≤ 1000000) (w : World) (ha : Cells w a (strsV l)) (hb : Cells w b (strsV m)) :
    Calls Tryd.prog 19 #[.slice a l.length c, .slice b m.length d] w fun e w' => e = .returned (.bool (decide (l = m))) ∧ Below w.heap.size w w' := by
  have HA := Lib.hid ha
  have HB := Lib.hid hb
  clear ha hb
  by_cases hlen : l.length = m.length
  · have q : ((l.length : Int) != (m.length : Int)) = false := by rw [hlen]; simp
    have HL := Lib.hid hlen
    clear hlen
    go_enter Tryd.func19, Tryd.ntmps19
    go_wp2
    go_loopw [5] (fun x wr => ∃ k : Nat, k ≤ l.length ∧ x = .int .i64 k ∧ l.take k = m.take k ∧ ∃ n, wr = w.drewN n) (fun x _ => l.length - (intOf x).toNat)
    case atStart => exact ⟨0, Nat.zero_le _, rfl, rfl, 0, rfl⟩
    case round =>
      obtain ⟨k, hk, rfl, ht, hd⟩ := hrel
      have HT := Lib.hid ht
      have HD := Lib.hid hd
      clear ht hd
      by_cases h1 : k < l.length
      · have h2 : k < m.length := by have := HL.out; omega
        obtain ⟨g, rfl, e1⟩ := (HA.out.draw HD.out).at (strsV_at l k h1)
        obtain ⟨g', rfl, e2⟩ := (HB.out.draw HD.out).at (strsV_at m k h2)
        have l1 : (k : Int) < (l.length : Int) := by omega
        have l2 : (k : Int) < (m.length : Int) := by omega
        by_cases h3 : l[k] = m[k]
        · have HX := Lib.hid (show l.take (k + 1) = m.take (k + 1) by rw [List.take_succ_eq_append_getElem h1, List.take_succ_eq_append_getElem h2, HT.out, h3])
          have q3 : ((l[k]).toList == (m[k]).toList) = true := by rw [h3]; simp
          generalize l[k] = x at e1 h3 q3
          generalize m[k] = y at e2 h3 q3
          clear h3
          go_wp2
          go_quiet (fail)
          go_wp2
          go_roundw
          case rel => exact ⟨k + 1, by omega, by go_num, HX.out, drew_drew HD.out⟩
          case measure => simp [intOf]; omega
        · have HX := Lib.hid (show decide (l = m) = false by simp only [decide_eq_false_iff_not]; intro h; subst h; exact h3 rfl)
          have q3 : ((l[k]).toList == (m[k]).toList) = false := by rw [str_neq]; simp [h3]
          generalize l[k] = x at e1 h3 q3
          generalize m[k] = y at e2 h3 q3
          clear h3
          go_wp2
          go_quiet (fail)
          go_wp2
          go_ret
          exact ⟨ret_bool (by rw [HX.out]), below_drewN (below_draw (Below.refl _ _) HD.out) nq⟩
      · have HX := Lib.hid (show decide (l = m) = true by
          have ht := HT.out
          rw [List.take_of_length_le (by omega), List.take_of_length_le (by have := HL.out; omega)] at ht
          simpa using ht)
        go_wp2
        go_ret
        exact ⟨ret_bool (by rw [HX.out]), below_draw (Below.refl _ _) HD.out⟩
  · have q : ((l.length : Int) != (m.length : Int)) = true := by simp only [bne_iff_ne]; omega
    have HX := Lib.hid (show decide (l = m) = false by simp only [decide_eq_false_iff_not]; intro h; subst h; exact hlen rfl)
    go_enter Tryd.func19, Tryd.ntmps19
    go_wp2
    go_ret
    exact ⟨ret_bool (by rw [HX.out]), Below.refl _ _⟩
end Go.Proofs.YtjbgiolcfammkaaDoor.RefSort
