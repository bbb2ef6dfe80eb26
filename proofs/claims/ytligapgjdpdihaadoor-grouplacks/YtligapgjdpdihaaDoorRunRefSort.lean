/-
  Joined texts: RefSort, RefSortB.
-/
import Derived.Test.YtligapgjdpdihaaDoorRunRefRunes
import Derived.RegionTactic
import Derived.Deep.RegionHeld3
/-
  What the document's own order and sorting of texts, and the statements' helpers on lists of texts, answer.
-/
set_option linter.unusedVariables false
set_option linter.unusedSimpArgs false
namespace Go.Proofs.YtligapgjdpdihaaDoor.RefSort
open Go.RowKit
open RuneM RefRune Own RefKeys Common

/-- does s stand ahead of t? -/
def aheadB (s t : ByteArray) : Bool := decide (cmpS s t < 0) || (decide (cmpS s t = 0) && Op.bytesLess s.toList t.toList)
theorem cmpL_three (x y : List Nat) : cmpL x y = -1 ∨ cmpL x y = 0 ∨ cmpL x y = 1 := by
  rw [cmpL_common]; repeat' split
  all_goals simp
theorem ahead_any (s t : ByteArray) (hs : s.size ≤ 8796093022208) (ht : t.size ≤ 8796093022208) (b : Bool) (hb : aheadB s t = b) (w : World) :
    Calls Tryd.prog 80 #[.string s, .string t] w fun e w' => e = .returned (.bool b) ∧ Below w.heap.size w w' := by
  subst hb
  have HB : Hid (aheadB s t = (decide (cmpS s t < 0) || (decide (cmpS s t = 0) && Op.bytesLess s.toList t.toList))) := rfl
  have HK := Lib.hid (fun w => keyCmp_any s t hs ht w)
  have h3 : cmpS s t = -1 ∨ cmpS s t = 0 ∨ cmpS s t = 1 := cmpL_three _ _
  generalize cmpS s t = c at HB HK h3
  rcases h3 with rfl | rfl | rfl
  all_goals
    go_enter Tryd.func80, Tryd.ntmps80
    go_wp2_with (go_at_call 95; (with_reducible refine (HK.out _).mono ?_); rintro e w1 ⟨rfl, hbel⟩)
    go_ret
    exact ⟨ret_bool (by rw [HB.out]; simp), hbel⟩

/-- a text cut off -/
def shortOf (s : ByteArray) (n : Nat) : ByteArray := s.extract 0 (min s.size n)
theorem short_any (s : ByteArray) (n : Nat) (w : World) :
    Calls Tryd.prog 24 #[.string s, .int .i64 n] w fun e w' => e = .returned (.string (shortOf s n)) ∧ w' = w := by
  by_cases h : n < s.size
  · have H := Lib.hid (show shortOf s n = s.extract 0 n by unfold shortOf; rw [show min s.size n = n by omega])
    go_enter Tryd.func24, Tryd.ntmps24
    go_wp2
    go_ret
    exact ⟨ret_string (by rw [H.out]), rfl⟩
  · have H := Lib.hid (show shortOf s n = s.extract 0 s.size by unfold shortOf; rw [show min s.size n = s.size by omega])
    go_enter Tryd.func24, Tryd.ntmps24
    go_wp2
    go_ret
    exact ⟨ret_string (by rw [H.out]; simp), rfl⟩
theorem infoStr : (Tryd.prog.info? 9).map (fun i => (i.zero, i.size, i.bytes)) = some (some (.string ⟨#[]⟩), 1, 16) := by kernel_rfl
def strsV (l : List ByteArray) : List Value := l.map Value.string
theorem strsV_snoc (l : List ByteArray) (s : ByteArray) : strsV (l ++ [s]) = strsV l ++ [.string s] := by simp [strsV]
theorem strsV_at (l : List ByteArray) (k : Nat) (h : k < l.length) : (strsV l)[k]? = some (.string l[k]) := by simp [strsV, h]
/-- few texts, short ones -/
def textsOf (l : List ByteArray) (most n : Nat) : List ByteArray := (l.take most).map (shortOf · n)
theorem texts_succ (l : List ByteArray) (n k : Nat) (h : k < l.length) : (l.take (k + 1)).map (shortOf · n) = (l.take k).map (shortOf · n) ++ [shortOf (l.getD k ByteArray.empty) n] := by
  rw [List.take_succ_eq_append_getElem h, List.map_append]
  simp [List.getD, h]

/-- where a text goes in -/
def insAt : List ByteArray → ByteArray → Nat
  | [], _ => 0
  | x :: r, s => if aheadB x s then insAt r s + 1 else 0
/-- a text put into a list that is in order, if it is not there -/
def insU (out : List ByteArray) (s : ByteArray) : List ByteArray := if out[insAt out s]? = some s then out else out.take (insAt out s) ++ [s] ++ out.drop (insAt out s)
def sortedL (l : List ByteArray) : List ByteArray := l.foldl insU []
theorem sortedL_snoc (l : List ByteArray) (k : Nat) (h : k < l.length) : sortedL (l.take (k + 1)) = insU (sortedL (l.take k)) l[k] := by
  unfold sortedL; rw [List.take_succ_eq_append_getElem h, List.foldl_append]; rfl
theorem insAt_le (out : List ByteArray) (s : ByteArray) : insAt out s ≤ out.length := by
  induction out with
  | nil => simp [insAt]
  | cons x r ih => simp only [insAt, List.length_cons]; split <;> omega
theorem insAt_more {out : List ByteArray} {s : ByteArray} {k : Nat} (hk : k ≤ insAt out s) (h : k < out.length) (ha : aheadB out[k] s = true) : k + 1 ≤ insAt out s := by
  induction out generalizing k with
  | nil => simp at h
  | cons x r ih =>
    cases k with
    | zero => simp only [List.getElem_cons_zero] at ha; simp [insAt, ha]
    | succ k =>
      simp only [insAt] at hk ⊢
      split at hk
      · rename_i hx; rw [if_pos hx]; have := ih (k := k) (by omega) (by simpa using h) (by simpa using ha); omega
      · omega
theorem insAt_stop {out : List ByteArray} {s : ByteArray} {k : Nat} (hk : k ≤ insAt out s) (h : k < out.length) (ha : aheadB out[k] s = false) : k = insAt out s := by
  induction out generalizing k with
  | nil => simp at h
  | cons x r ih =>
    cases k with
    | zero => simp only [List.getElem_cons_zero] at ha; simp [insAt, ha]
    | succ k =>
      simp only [insAt] at hk ⊢
      split at hk
      · rename_i hx; rw [if_pos hx]; have := ih (k := k) (by omega) (by simpa using h) (by simpa using ha); omega
      · omega
theorem insU_mem {out : List ByteArray} {s x : ByteArray} (h : x ∈ insU out s) : x ∈ out ∨ x = s := by
  unfold insU at h
  split at h
  · exact .inl h
  · simp only [List.mem_append, List.mem_cons, List.not_mem_nil, or_false] at h
    rcases h with (h | h) | h
    · exact .inl (List.mem_of_mem_take h)
    · exact .inr h
    · exact .inl (List.mem_of_mem_drop h)
theorem sortedL_mem (l : List ByteArray) : ∀ x ∈ sortedL l, x ∈ l := by
  have : ∀ (l out : List ByteArray) x, x ∈ l.foldl insU out → x ∈ out ∨ x ∈ l := by
    intro l
    induction l with
    | nil => intro out x h; exact .inl h
    | cons s l ih =>
      intro out x h
      rcases ih _ x h with h | h
      · rcases insU_mem h with h | h
        · exact .inl h
        · exact .inr (by simp [h])
      · exact .inr (by simp [h])
  intro x h
  rcases this l [] x h with h | h
  · simp at h
  · exact h
theorem insU_length (out : List ByteArray) (s : ByteArray) : (insU out s).length ≤ out.length + 1 := by
  unfold insU
  split
  · omega
  · have := insAt_le out s
    simp; omega
theorem sortedL_length (l : List ByteArray) : (sortedL l).length ≤ l.length := by
  have : ∀ (l out : List ByteArray), (l.foldl insU out).length ≤ out.length + l.length := by
    intro l
    induction l with
    | nil => intro out; simp
    | cons s l ih => intro out; have := ih (insU out s); have := insU_length out s; simp only [List.foldl_cons, List.length_cons]; omega
  have := this l []; simpa [sortedL] using this

theorem str_neq (a b : ByteArray) : (a.toList == b.toList) = decide (a = b) := by
  rw [ByteArray.toList_eq, ByteArray.toList_eq, Bool.eq_iff_iff]
  simp only [beq_iff_eq, decide_eq_true_eq]
  exact ⟨fun h => ByteArray.ext (Array.toList_inj.1 h), fun h => by rw [h]⟩
end Go.Proofs.YtligapgjdpdihaaDoor.RefSort
/-
  What the document's own sorting of texts answers.
-/
set_option linter.unusedVariables false
set_option linter.unusedSimpArgs false
namespace Go.Proofs.YtligapgjdpdihaaDoor.RefSort
open Go.RowKit
open RuneM RefRune Own RefKeys Common

theorem insU_same {out : List ByteArray} {s : ByteArray} (h : out[insAt out s]? = some s) : insU out s = out := by unfold insU; rw [if_pos h]
theorem insU_new {out : List ByteArray} {s : ByteArray} (h : ¬ out[insAt out s]? = some s) : strsV (insU out s) = strsV (out.take (insAt out s)) ++ [.string s] ++ strsV (out.drop (insAt out s)) := by
  unfold insU; rw [if_neg h]; simp [strsV]
theorem oneStr {l : List ByteArray} : ∀ u ∈ strsV l, u.oneCell' = true := by
  intro u hu; simp only [strsV, List.mem_map] at hu; obtain ⟨x, _, rfl⟩ := hu; rfl
/-- a beginning of a row, and what stands behind, to append from -/
theorem src_take {w : World} {g : Nat} {out : List ByteArray} (h : Cells w (some ⟨g, 0, none⟩) (strsV out)) (k c : Nat) (hk : k ≤ out.length) : Src w (.slice (some ⟨g, 0, none⟩) k c) (strsV (out.take k)) := by
  refine .inr ⟨⟨g, 0, none⟩, c, by simp [strsV, show min k out.length = k by omega], fun j u hj => ?_⟩
  have hj' : (strsV out)[j]? = some u := by
    simp only [strsV, List.getElem?_map, List.getElem?_take] at hj ⊢
    split at hj
    · exact hj
    · simp at hj
  obtain ⟨g', e, hc⟩ := h.at hj'
  simp only [Option.some.injEq, Addr.mk.injEq, and_true] at e
  subst e
  rw [show (⟨g, 0, none⟩ : Addr).add j = ⟨g, j, none⟩ by unfold Addr.add; split <;> simp_all]
  exact hc
theorem src_drop {w : World} {g : Nat} {out : List ByteArray} (h : Cells w (some ⟨g, 0, none⟩) (strsV out)) (k c : Nat) : Src w (.slice (some ⟨g, k, none⟩) (out.length - k) c) (strsV (out.drop k)) := by
  refine .inr ⟨⟨g, k, none⟩, c, by simp [strsV], fun j u hj => ?_⟩
  have hj' : (strsV out)[k + j]? = some u := by
    simpa only [strsV, List.getElem?_map, List.getElem?_drop] using hj
  obtain ⟨g', e, hc⟩ := h.at hj'
  simp only [Option.some.injEq, Addr.mk.injEq, and_true] at e
  subst e
  rw [show (⟨g, k, none⟩ : Addr).add j = ⟨g, k + j, none⟩ by unfold Addr.add; split <;> simp_all]
  exact hc
theorem src_one {w : World} {b : Nat} {s : ByteArray} (h : w.cell? ⟨b, 0, none⟩ = some (.string s)) : Src w (.slice (some ⟨b, 0, none⟩) 1 1) [.string s] := by
  refine .inr ⟨⟨b, 0, none⟩, 1, rfl, fun j u hj => ?_⟩
  match j, hj with
  | 0, hj => simp at hj; subst hj; exact h
  | j + 1, hj => simp at hj
theorem src_end {w : World} {ad : Addr} {c : Nat} {l : List Value} (h : l = []) : Src w (.slice (some ad) 0 c) l := by
  subst h; exact .inr ⟨ad, c, rfl, fun j u hj => by simp at hj⟩
theorem slice_own {w : World} {base : Nat} {e : TypeId} {a : Option Addr} {n c : Nat} {l : List Value} (h : Mine w base e (.slice a n c) l) : (a = none ∧ c = 0 ∧ n = 0) ∨ ∃ g, a = some ⟨g, 0, none⟩ ∧ n ≤ c := by
  rcases h.2 with ⟨h, _⟩ | ⟨g, cap, cur, he, _, _, hn, _⟩
  · simp only [Value.slice.injEq] at h
    exact .inl ⟨h.1, h.2.2, h.2.1⟩
  · simp only [Value.slice.injEq] at he
    obtain ⟨rfl, h1, h2⟩ := he
    exact .inr ⟨g, rfl, by omega⟩
theorem row_strs {w : World} {v : Value} {l : List ByteArray} (h : Row w v (strsV l)) : ∃ a cap, v = .slice a l.length cap ∧ Cells w a (strsV l) := by
  obtain ⟨a, cap, rfl, hc⟩ := h
  exact ⟨a, cap, by simp [strsV], hc⟩
set_option maxRecDepth 100000 in
set_option maxHeartbeats 8000000 in
theorem sorted_any (a : Option Addr) (l : List ByteArray) (cap : Nat) (hl : l.length ≤ 1000000) (hz : ∀ s ∈ l, s.size ≤ 8796093022208) (w : World) (hc : Cells w a (strsV l)) :
    Calls Tryd.prog 81 #[.slice a l.length cap] w fun e w' => ∃ v, e = .returned v ∧ Row w' v (strsV (sortedL l)) ∧ Below w.heap.size w w' := by
  have HC := Lib.hid hc
  have HZ := Lib.hid hz
  clear hc hz
  go_enter Tryd.func81, Tryd.ntmps81
  go_wp2
  go_loopw [3, 4] (fun v x wr => ∃ i : Nat, i ≤ l.length ∧ x = .int .i64 i ∧ Mine wr w.heap.size 9 v (strsV (sortedL (l.take i))) ∧ Below w.heap.size w wr) (fun _ x _ => l.length - (intOf x).toNat)
  case atStart => exact ⟨0, Nat.zero_le _, rfl, Mine.nil _ _ _, Below.refl _ _⟩
  case round =>
    obtain ⟨i, hi, rfl, hM, hB⟩ := hrel
    obtain ⟨wo, hwo⟩ : ∃ x, x = wr := ⟨_, rfl⟩
    subst hwo
    by_cases h1 : i < l.length
    · have HS := Lib.hid (sortedL_snoc l i h1)
      have hlen := sortedL_length (l.take i)
      rw [List.length_take, show min i l.length = i by omega] at hlen
      have HO : Hid (∀ x ∈ sortedL (l.take i), x.size ≤ 8796093022208) := fun x hx => HZ.out x (List.mem_of_mem_take (sortedL_mem _ x hx))
      have hsz := HZ.out l[i] (List.getElem_mem h1)
      obtain ⟨g, rfl, e1⟩ := (HC.out.below hB).at (strsV_at l i h1)
      generalize l[i] = s at e1 HS hsz
      generalize sortedL (l.take i) = out at hM HS hlen HO
      have l1 : (i : Int) < (l.length : Int) := by omega
      obtain ⟨av, cv, rfl, hcv⟩ := row_strs hM.row
      have HCV := Lib.hid hcv
      have HM := Lib.hid hM
      have HE1 := Lib.hid e1
      clear hcv hM e1
      go_wp2
      go_loopw [5] (fun x wi => ∃ k : Nat, k ≤ insAt out s ∧ x = .int .i64 k ∧ Below wo.heap.size wo wi) (fun x _ => out.length - (intOf x).toNat)
      case atStart => exact ⟨0, Nat.zero_le _, rfl, Below.refl _ _⟩
      case round =>
        obtain ⟨k, hk, rfl, hBi⟩ := hrel
        have hkl := insAt_le out s
        have e1 : wr.cell? ⟨g, i, none⟩ = some (.string s) := by rw [hBi.cell (p := ⟨g, i, none⟩) (block_lt_of_cell HE1.out)]; exact HE1.out
        by_cases h2 : k < out.length
        · obtain ⟨g2, rfl, e2⟩ := (HCV.out.below hBi).at (strsV_at out k h2)
          have hsz2 := HO.out out[k] (List.getElem_mem h2)
          have l2 : (k : Int) < (out.length : Int) := by omega
          have d1 : decide (k < out.length) = true := by simp; omega
          have HB0 := Lib.hid hBi
          cases hah : aheadB out[k] s with
          | true =>
            have HX := Lib.hid (insAt_more hk h2 hah)
            have HAH := Lib.hid hah
            generalize out[k] = y at e2 hsz2 HAH
            clear hah
            go_wp2
            go_region_held3 (fun w' => w'.cell? ⟨g2, k, none⟩ = some (.string y) ∧ w'.cell? ⟨g, i, none⟩ = some (.string s))
              (first | exact ⟨e2, e1⟩ | exact ⟨by rw [hn.cell (p := ⟨g2, k, none⟩) (block_lt_of_cell e2)]; exact e2, by rw [hn.cell (p := ⟨g, i, none⟩) (block_lt_of_cell e1)]; exact e1⟩)
              (first | (go_at_call 80; (with_reducible refine (ahead_any y s hsz2 hsz true HAH.out _).mono ?_); rintro e w3 ⟨rfl, hn⟩))
            all_goals go_wp2
            all_goals go_roundw
            case rel => exact ⟨k + 1, HX.out, by go_num, HB0.out.drew.trans (hn.mono HB0.out.size)⟩
            case measure => simp [intOf]; omega
          | false =>
            have HX := Lib.hid (insAt_stop hk h2 hah)
            have HAH := Lib.hid hah
            have HY := Lib.hid (List.getElem?_eq_getElem h2)
            generalize out[k] = y at e2 hsz2 HAH HY
            clear hah
            go_wp2
            go_region_held3 (fun w' => w'.cell? ⟨g2, k, none⟩ = some (.string y) ∧ w'.cell? ⟨g, i, none⟩ = some (.string s))
              (first | exact ⟨e2, e1⟩ | exact ⟨by rw [hn.cell (p := ⟨g2, k, none⟩) (block_lt_of_cell e2)]; exact e2, by rw [hn.cell (p := ⟨g, i, none⟩) (block_lt_of_cell e1)]; exact e1⟩)
              (first | (go_at_call 80; (with_reducible refine (ahead_any y s hsz2 hsz false HAH.out _).mono ?_); rintro e w3 ⟨rfl, hn⟩))
            all_goals
              have hB3 := Lib.hid (HB0.out.drew.trans (hn.mono HB0.out.size))
              have c2 : w3.cell? ⟨g2, k, none⟩ = some (.string y) := by rw [hn.cell (p := ⟨g2, k, none⟩) (block_lt_of_cell e2)]; exact e2
              have c1 : w3.cell? ⟨g, i, none⟩ = some (.string s) := by rw [hn.cell (p := ⟨g, i, none⟩) (block_lt_of_cell e1)]; exact e1
              clear e1 e2 hn
            all_goals
              by_cases hys : y = s
              · have q : (y.toList == s.toList) = true := by rw [hys]; simp
                have HSM := Lib.hid (show sortedL (l.take (i + 1)) = out by rw [HS.out]; exact insU_same (by rw [← HX.out, HY.out, hys]))
                clear hys
                go_wp2
                go_quiet (fail)
                go_wp2
                go_roundw
                case rel => exact ⟨i + 1, by omega, by go_num, by rw [HSM.out]; exact (HM.out.below hB3.out).draw ⟨nq, rfl⟩, below_drewN (hB.trans (hB3.out.mono hB.size)) nq⟩
                case measure => simp [intOf]; omega
              · have q : (y.toList == s.toList) = false := by rw [str_neq]; simp [hys]
                have HSN := Lib.hid (show strsV (sortedL (l.take (i + 1))) = strsV (out.take k) ++ [.string s] ++ strsV (out.drop k) by
                  rw [HS.out, insU_new (by rw [← HX.out, HY.out]; simpa using hys), ← HX.out])
                clear hys
                go_wp2
                go_quiet (fail)
                go_wp2
                have c4 : (w3.drewN nq).cell? ⟨g, i, none⟩ = some (.string s) := c1
                have hC4 : Cells (w3.drewN nq) (some ⟨g2, 0, none⟩) (strsV out) := (HCV.out.below hB3.out).draw ⟨nq, rfl⟩
                have hB4 : Below w.heap.size w (w3.drewN nq) := below_drewN (hB.trans (hB3.out.mono hB.size)) nq
                have hg2 : w.heap.size ≤ g2 := (HM.out.lt g2 rfl).2
                generalize w3.drewN nq = w4 at c4 hC4 hB4
                clear c1 c2
                have hcap := (HM.out.cap).1
                have hgl : g < w.heap.size := by
                  rcases HC.out with h0 | ⟨gg, ha, hcc⟩
                  · simp [strsV] at h0; subst h0; simp at h1
                  · simp only [Option.some.injEq, Addr.mk.injEq, and_true] at ha
                    subst ha
                    exact block_lt_of_cell (hcc i _ (strsV_at l i h1))
                have hkc : (k : Int) ≤ (cv : Int) := by omega
                have hkl2 : (k : Int) ≤ (out.length : Int) := by omega
                have hkn : ¬ cv = k := by omega
                have hbs := hB4.size
                have lt1 : (strsV (out.take k)).length ≤ 1000000 := by simp [strsV]; omega
                have lt2 : (strsV (out.drop k)).length ≤ 1000000 := by simp [strsV]; omega
                have C1 : Cells w4.drew (some ⟨g2, 0, none⟩) (strsV out) := hC4
                have C2 : ∀ o, Cells (w4.alloc o).drew (some ⟨g2, 0, none⟩) (strsV out) := fun o => hC4.alloc o
                have C3 : w4.drew.cell? ⟨g, i, none⟩ = some (.string s) := c4
                have C4 : ∀ o, (w4.alloc o).drew.cell? ⟨g, i, none⟩ = some (.string s) := fun o => cell_alloc c4 o
                have C5 : Below w.heap.size w w4.drew := hB4.drew
                have C6 : ∀ o, Below w.heap.size w (w4.alloc o).drew := fun o => (hB4.alloc hbs o).drew
                have C7 : ∀ t, (w4.alloc (.cells #[.string s] t)).drew.cell? ⟨w4.heap.size, 0, none⟩ = some (.string s) := fun t => by simp
                have hgsz : g2 < w4.heap.size := by
                  have h0 := C1.at (strsV_at out k h2)
                  obtain ⟨g', he, hcc⟩ := h0
                  simp only [Option.some.injEq, Addr.mk.injEq, and_true] at he
                  subst he
                  exact block_lt_of_cell hcc
                have HC1 := Lib.hid C1
                have HC2 := Lib.hid C2
                have HC3 := Lib.hid C3
                have HC4 := Lib.hid C4
                have HC5 := Lib.hid C5
                have HC6 := Lib.hid C6
                have HC7 := Lib.hid C7
                clear C1 C2 C3 C4 C5 C6 C7 hC4 hB4 c4
                go_region_held3 (fun w' => w'.cell? ⟨g, i, none⟩ = some (.string s))
                  (first | exact HC3.out | exact HC4.out _ | exact c5 | exact cell_alloc c5 _ | exact c6 | exact c7)
                  (first
                    | ((with_reducible refine step_if ?_ ?_)
                       · rfl
                       refine wp_append_all _ _ 79 rfl w.heap.size 9 (.string ⟨#[]⟩) 16 Tryd.underlying79 infoStr rfl v2 (strsV (out.take k) ++ [.string s]) rfl hM2 (.slice (some ⟨g2, k, none⟩) (out.length - k) (cv - k)) (strsV (out.drop k)) rfl ?_ oneStr ?_ ?_ ?_ ?_
                       · exact src_drop hC6 k _
                       · (simp only [maxLen, List.length_append, List.length_cons, List.length_nil]; omega)
                       · (simp only [List.length_append, List.length_cons, List.length_nil]; omega)
                       · (have := hB6.size; omega)
                       intro v3 w7 hM3 hg3 hat3
                       have hB7 := below_append hB6 hg3 hB6.size (fun q hq => (hM2.lt q hq).2)
                       have c7 : w7.cell? ⟨g, i, none⟩ = some (.string s) := grown_cell hg3 c6 (fun h => by have := (hM2.lt g h.symm).2; omega))
                    | ((with_reducible refine step_if ?_ ?_)
                       · rfl
                       refine wp_append_all _ _ 79 rfl w.heap.size 9 (.string ⟨#[]⟩) 16 Tryd.underlying79 infoStr rfl v1 (strsV (out.take k)) rfl ?_ (.slice (some ⟨_, 0, none⟩) 1 1) [.string s] rfl ?_ ?_ ?_ ?_ ?_ ?_
                       · first | exact hM1 | exact hM1.alloc _
                       · first | exact src_one c52 | exact src_one (by simp)
                       · (intro u hu; simp at hu; subst hu; rfl)
                       · (simp only [maxLen, List.length_cons, List.length_nil]; omega)
                       · (simp only [List.length_cons, List.length_nil]; omega)
                       · (have := hB5.size; first | omega | (simp; omega))
                       intro v2 w6 hM2 hg2' hat2
                       have hg2v : some g2 ≠ v1.ownBlock := by
                         intro h
                         rcases hat1 with h' | h'
                         · rw [← h] at h'; simp [Value.ownBlock] at h'
                         · rw [← h] at h'; have := hgsz; simp at h'; omega
                       have hC6 : Cells w6 (some ⟨g2, 0, none⟩) (strsV out) := by first | exact hC5.grown hg2' (fun q hq => by simp at hq; subst hq; exact hg2v) | exact (hC5.alloc _).grown hg2' (fun q hq => by simp at hq; subst hq; exact hg2v)
                       have hgv : some g ≠ v1.ownBlock := fun h => by have := (hM1.lt g h.symm).2; omega
                       have c6 : w6.cell? ⟨g, i, none⟩ = some (.string s) := by first | exact grown_cell hg2' c5 hgv | exact grown_cell hg2' (cell_alloc c5 _) hgv
                       have hB6 : Below w.heap.size w w6 := by first | exact below_append hB5 hg2' hB5.size (fun q hq => (hM1.lt q hq).2) | exact below_append (hB5.alloc hB5.size _) hg2' (by have := hB5.size; simp; omega) (fun q hq => (hM1.lt q hq).2))
                    | ((with_reducible refine step_if ?_ ?_)
                       · rfl
                       refine wp_append_all _ _ 79 rfl w.heap.size 9 (.string ⟨#[]⟩) 16 Tryd.underlying79 infoStr rfl (.slice none 0 0) [] rfl (Mine.nil _ _ _) (.slice (some ⟨g2, 0, none⟩) k cv) (strsV (out.take k)) rfl ?_ oneStr ?_ ?_ ?_ ?_
                       · first | exact src_take HC1.out k cv (by omega) | exact src_take (HC2.out _) k cv (by omega)
                       · (simp only [maxLen, List.length_nil]; omega)
                       · (simp only [List.length_nil]; omega)
                       · (simp; omega)
                       intro v1 w5 hM1 hg1 hat1
                       have hC5 : Cells w5 (some ⟨g2, 0, none⟩) (strsV out) := by first | exact HC1.out.grown hg1 (fun _ _ => by simp [Value.ownBlock]) | exact (HC2.out _).grown hg1 (fun _ _ => by simp [Value.ownBlock])
                       have c5 : w5.cell? ⟨g, i, none⟩ = some (.string s) := by first | exact grown_cell hg1 HC3.out (by simp [Value.ownBlock]) | exact grown_cell hg1 (HC4.out _) (by simp [Value.ownBlock])
                       have hB5 : Below w.heap.size w w5 := by first | exact below_append HC5.out hg1 HC5.out.size (fun q hq => by simp [Value.ownBlock] at hq) | exact below_append (HC6.out _) hg1 (HC6.out _).size (fun q hq => by simp [Value.ownBlock] at hq)
                       try (have c52 : w5.cell? ⟨w4.heap.size, 0, none⟩ = some (.string s) := grown_cell hg1 (HC7.out _) (by simp [Value.ownBlock]))))
                all_goals
                  have hM4 : Mine w7 w.heap.size 9 v3 (strsV (sortedL (l.take (i + 1)))) := by rw [HSN.out]; exact hM3
                  go_wp2
                  go_roundw
                  case rel => exact ⟨i + 1, by omega, by go_num, hM4, hB7⟩
                  case measure => simp [intOf]; omega
        · have hkl3 : k = out.length := by omega
          have HX := Lib.hid (show k = insAt out s by omega)
          have HSN := Lib.hid (show strsV (sortedL (l.take (i + 1))) = strsV (out.take k) ++ [.string s] ++ strsV (out.drop k) by
            rw [HS.out, insU_new (by rw [← HX.out, List.getElem?_eq_none (by omega)]; simp), ← HX.out])
          have d1 : decide (k < out.length) = false := by simp; omega
          have HKL := Lib.hid hkl3
          clear hkl3
          have hgl : g < w.heap.size := by
            rcases HC.out with h0 | ⟨gg, ha, hcc⟩
            · simp [strsV] at h0; subst h0; simp at h1
            · simp only [Option.some.injEq, Addr.mk.injEq, and_true] at ha
              subst ha
              exact block_lt_of_cell (hcc i _ (strsV_at l i h1))
          have lt1 : (strsV (out.take k)).length ≤ 1000000 := by simp [strsV]; omega
          have lt2 : (strsV (out.drop k)).length ≤ 1000000 := by simp [strsV]; omega
          have hM0 := HM.out.below hBi
          rcases slice_own HM.out with ⟨rfl, hc0, ho0⟩ | ⟨g2, rfl, hcap⟩
          · obtain rfl : out = [] := List.length_eq_zero_iff.1 ho0
            obtain rfl : k = 0 := by have := HKL.out; simpa using this
            subst hc0
            have HSN0 : Hid (strsV (sortedL (l.take (i + 1))) = [.string s]) := HSN.out
            clear lt1 lt2 HSN HKL
            go_wp2
            go_quiet (fail)
            go_wp2
            have f2 : (wr.drewN nq).cell? ⟨g, i, none⟩ = some (.string s) := e1
            have f3 : Below w.heap.size w (wr.drewN nq) := below_drewN (hB.trans (hBi.mono hB.size)) nq
            generalize wr.drewN nq = wq at f2 f3
            go_quiet (fail)
            go_wp2
            have c4 : (wq.drewN nq).cell? ⟨g, i, none⟩ = some (.string s) := f2
            have hB4 : Below w.heap.size w (wq.drewN nq) := below_drewN f3 nq
            generalize wq.drewN nq = w4 at c4 hB4
            clear e1 f2 f3
            have hbs := hB4.size
            have C3 : w4.drew.cell? ⟨g, i, none⟩ = some (.string s) := c4
            have C4 : ∀ o, (w4.alloc o).drew.cell? ⟨g, i, none⟩ = some (.string s) := fun o => cell_alloc c4 o
            have C5 : Below w.heap.size w w4.drew := hB4.drew
            have C6 : ∀ o, Below w.heap.size w (w4.alloc o).drew := fun o => (hB4.alloc hbs o).drew
            have C7 : ∀ t, (w4.alloc (.cells #[.string s] t)).drew.cell? ⟨w4.heap.size, 0, none⟩ = some (.string s) := fun t => by simp
            have HC3 := Lib.hid C3
            have HC4 := Lib.hid C4
            have HC5 := Lib.hid C5
            have HC6 := Lib.hid C6
            have HC7 := Lib.hid C7
            clear C3 C4 C5 C6 C7 hB4 c4
            go_region_held3 (fun w' => w'.cell? ⟨g, i, none⟩ = some (.string s))
              (first | exact HC3.out | exact HC4.out _ | exact c5 | exact cell_alloc c5 _ | exact c6 | exact c7)
              (first
                | ((with_reducible refine step_if ?_ ?_)
                   · rfl
                   refine wp_append_all _ _ 79 rfl w.heap.size 9 (.string ⟨#[]⟩) 16 Tryd.underlying79 infoStr rfl v2 [.string s] rfl hM2 (.slice none 0 0) [] rfl (.inl ⟨rfl, rfl⟩) ?_ ?_ ?_ ?_ ?_
                   · (intro u hu; simp at hu)
                   · simp [maxLen]
                   · simp
                   · (have := hB6.size; omega)
                   intro v3 w7 hM3 hg3 hat3
                   have hB7 := below_append hB6 hg3 hB6.size (fun q hq => (hM2.lt q hq).2)
                   have c7 : w7.cell? ⟨g, i, none⟩ = some (.string s) := grown_cell hg3 c6 (fun h => by have := (hM2.lt g h.symm).2; omega))
                | ((with_reducible refine step_if ?_ ?_)
                   · rfl
                   refine wp_append_all _ _ 79 rfl w.heap.size 9 (.string ⟨#[]⟩) 16 Tryd.underlying79 infoStr rfl v1 [] rfl ?_ (.slice (some ⟨_, 0, none⟩) 1 1) [.string s] rfl ?_ ?_ ?_ ?_ ?_ ?_
                   · first | exact hM1 | exact hM1.alloc _
                   · first | exact src_one c52 | exact src_one (by simp)
                   · (intro u hu; simp at hu; subst hu; rfl)
                   · simp [maxLen]
                   · simp
                   · (have := hB5.size; first | omega | (simp; omega))
                   intro v2 w6 hM2 hg2' hat2
                   have hgv : some g ≠ v1.ownBlock := fun h => by have := (hM1.lt g h.symm).2; omega
                   have c6 : w6.cell? ⟨g, i, none⟩ = some (.string s) := by first | exact grown_cell hg2' c5 hgv | exact grown_cell hg2' (cell_alloc c5 _) hgv
                   have hB6 : Below w.heap.size w w6 := by first | exact below_append hB5 hg2' hB5.size (fun q hq => (hM1.lt q hq).2) | exact below_append (hB5.alloc hB5.size _) hg2' (by have := hB5.size; simp; omega) (fun q hq => (hM1.lt q hq).2))
                | ((with_reducible refine step_if ?_ ?_)
                   · rfl
                   refine wp_append_all _ _ 79 rfl w.heap.size 9 (.string ⟨#[]⟩) 16 Tryd.underlying79 infoStr rfl (.slice none 0 0) [] rfl (Mine.nil _ _ _) (.slice none 0 0) [] rfl (.inl ⟨rfl, rfl⟩) ?_ ?_ ?_ ?_ ?_
                   · (intro u hu; simp at hu)
                   · simp [maxLen]
                   · simp
                   · (simp; omega)
                   intro v1 w5 hM1 hg1 hat1
                   have c5 : w5.cell? ⟨g, i, none⟩ = some (.string s) := by first | exact grown_cell hg1 HC3.out (by simp [Value.ownBlock]) | exact grown_cell hg1 (HC4.out _) (by simp [Value.ownBlock])
                   have hB5 : Below w.heap.size w w5 := by first | exact below_append HC5.out hg1 HC5.out.size (fun q hq => by simp [Value.ownBlock] at hq) | exact below_append (HC6.out _) hg1 (HC6.out _).size (fun q hq => by simp [Value.ownBlock] at hq)
                   try (have c52 : w5.cell? ⟨w4.heap.size, 0, none⟩ = some (.string s) := grown_cell hg1 (HC7.out _) (by simp [Value.ownBlock]))))
            all_goals
              have hM4 : Mine w7 w.heap.size 9 v3 (strsV (sortedL (l.take (i + 1)))) := by rw [HSN0.out]; exact hM3
              go_wp2
              go_roundw
              case rel => exact ⟨i + 1, by omega, by go_num, hM4, hB7⟩
              case measure => simp [intOf]; omega
          · have hck : cv = k ∨ ¬ cv = k := Decidable.em _
            rcases hck with hck | hkn
            · have hck' : k = cv := hck.symm
              clear hck
              subst hck'
              go_wp2
              go_quiet (fail)
              go_wp2
              have f1 : Mine (wr.drewN nq) w.heap.size 9 (.slice (some ⟨g2, 0, none⟩) out.length k) (strsV out) := hM0.draw ⟨_, rfl⟩
              have f2 : (wr.drewN nq).cell? ⟨g, i, none⟩ = some (.string s) := e1
              have f3 : Below w.heap.size w (wr.drewN nq) := below_drewN (hB.trans (hBi.mono hB.size)) nq
              generalize wr.drewN nq = wq at f1 f2 f3
              go_quiet (fail)
              go_wp2
              have hM4 : Mine (wq.drewN nq) w.heap.size 9 (.slice (some ⟨g2, 0, none⟩) out.length k) (strsV out) := f1.draw ⟨_, rfl⟩
              have c4 : (wq.drewN nq).cell? ⟨g, i, none⟩ = some (.string s) := f2
              have hB4 : Below w.heap.size w (wq.drewN nq) := below_drewN f3 nq
              generalize wq.drewN nq = w4 at hM4 c4 hB4
              clear e1 f1 f2 f3
              have hC4 : Cells w4 (some ⟨g2, 0, none⟩) (strsV out) := by
                obtain ⟨aa, cc, he, hcc⟩ := row_strs hM4.row
                simp only [Value.slice.injEq] at he
                rw [he.1]; exact hcc
              have hg2 : w.heap.size ≤ g2 := (hM4.lt g2 rfl).2
              have hkc : (k : Int) ≤ (k : Int) := by have := HKL.out; omega
              have hkl2 : (k : Int) ≤ (out.length : Int) := by have := HKL.out; omega
              have hol : out.length - k = 0 := by have := HKL.out; omega
              have HDR := Lib.hid (show strsV (out.drop k) = [] by rw [List.drop_eq_nil_of_le (by have := HKL.out; omega)]; rfl)
              have hbs := hB4.size
              have lt1 : (strsV (out.take k)).length ≤ 1000000 := by simp [strsV]; omega
              have lt2 : (strsV (out.drop k)).length ≤ 1000000 := by simp [strsV]; omega
              have C1 : Cells w4.drew (some ⟨g2, 0, none⟩) (strsV out) := hC4
              have C2 : ∀ o, Cells (w4.alloc o).drew (some ⟨g2, 0, none⟩) (strsV out) := fun o => hC4.alloc o
              have C3 : w4.drew.cell? ⟨g, i, none⟩ = some (.string s) := c4
              have C4 : ∀ o, (w4.alloc o).drew.cell? ⟨g, i, none⟩ = some (.string s) := fun o => cell_alloc c4 o
              have C5 : Below w.heap.size w w4.drew := hB4.drew
              have C6 : ∀ o, Below w.heap.size w (w4.alloc o).drew := fun o => (hB4.alloc hbs o).drew
              have C7 : ∀ t, (w4.alloc (.cells #[.string s] t)).drew.cell? ⟨w4.heap.size, 0, none⟩ = some (.string s) := fun t => by simp
              have hgsz : g2 < w4.heap.size := (hM4.lt g2 rfl).1
              have HC1 := Lib.hid C1
              have HC2 := Lib.hid C2
              have HC3 := Lib.hid C3
              have HC4 := Lib.hid C4
              have HC5 := Lib.hid C5
              have HC6 := Lib.hid C6
              have HC7 := Lib.hid C7
              clear C1 C2 C3 C4 C5 C6 C7 hC4 hB4 c4
              go_region_held3 (fun w' => w'.cell? ⟨g, i, none⟩ = some (.string s))
                (first | exact HC3.out | exact HC4.out _ | exact c5 | exact cell_alloc c5 _ | exact c6 | exact c7)
                (first
                  | ((with_reducible refine step_if ?_ ?_)
                     · rfl
                     refine wp_append_all _ _ 79 rfl w.heap.size 9 (.string ⟨#[]⟩) 16 Tryd.underlying79 infoStr rfl v2 (strsV (out.take k) ++ [.string s]) rfl hM2 _ (strsV (out.drop k)) rfl ?_ oneStr ?_ ?_ ?_ ?_
                     · exact src_end HDR.out
                     · (simp only [maxLen, List.length_append, List.length_cons, List.length_nil]; omega)
                     · (simp only [List.length_append, List.length_cons, List.length_nil]; omega)
                     · (have := hB6.size; omega)
                     intro v3 w7 hM3 hg3 hat3
                     have hB7 := below_append hB6 hg3 hB6.size (fun q hq => (hM2.lt q hq).2)
                     have c7 : w7.cell? ⟨g, i, none⟩ = some (.string s) := grown_cell hg3 c6 (fun h => by have := (hM2.lt g h.symm).2; omega))
                  | ((with_reducible refine step_if ?_ ?_)
                     · rfl
                     refine wp_append_all _ _ 79 rfl w.heap.size 9 (.string ⟨#[]⟩) 16 Tryd.underlying79 infoStr rfl v1 (strsV (out.take k)) rfl ?_ (.slice (some ⟨_, 0, none⟩) 1 1) [.string s] rfl ?_ ?_ ?_ ?_ ?_ ?_
                     · first | exact hM1 | exact hM1.alloc _
                     · first | exact src_one c52 | exact src_one (by simp)
                     · (intro u hu; simp at hu; subst hu; rfl)
                     · (simp only [maxLen, List.length_cons, List.length_nil]; omega)
                     · (simp only [List.length_cons, List.length_nil]; omega)
                     · (have := hB5.size; first | omega | (simp; omega))
                     intro v2 w6 hM2 hg2' hat2
                     have hg2v : some g2 ≠ v1.ownBlock := by
                       intro h
                       rcases hat1 with h' | h'
                       · rw [← h] at h'; simp [Value.ownBlock] at h'
                       · rw [← h] at h'; have := hgsz; simp at h'; omega
                     have hC6 : Cells w6 (some ⟨g2, 0, none⟩) (strsV out) := by first | exact hC5.grown hg2' (fun q hq => by simp at hq; subst hq; exact hg2v) | exact (hC5.alloc _).grown hg2' (fun q hq => by simp at hq; subst hq; exact hg2v)
                     have hgv : some g ≠ v1.ownBlock := fun h => by have := (hM1.lt g h.symm).2; omega
                     have c6 : w6.cell? ⟨g, i, none⟩ = some (.string s) := by first | exact grown_cell hg2' c5 hgv | exact grown_cell hg2' (cell_alloc c5 _) hgv
                     have hB6 : Below w.heap.size w w6 := by first | exact below_append hB5 hg2' hB5.size (fun q hq => (hM1.lt q hq).2) | exact below_append (hB5.alloc hB5.size _) hg2' (by have := hB5.size; simp; omega) (fun q hq => (hM1.lt q hq).2))
                  | ((with_reducible refine step_if ?_ ?_)
                     · rfl
                     refine wp_append_all _ _ 79 rfl w.heap.size 9 (.string ⟨#[]⟩) 16 Tryd.underlying79 infoStr rfl (.slice none 0 0) [] rfl (Mine.nil _ _ _) (.slice (some ⟨g2, 0, none⟩) k k) (strsV (out.take k)) rfl ?_ oneStr ?_ ?_ ?_ ?_
                     · first | exact src_take HC1.out k k (by omega) | exact src_take (HC2.out _) k k (by omega)
                     · (simp only [maxLen, List.length_nil]; omega)
                     · (simp only [List.length_nil]; omega)
                     · (simp; omega)
                     intro v1 w5 hM1 hg1 hat1
                     have hC5 : Cells w5 (some ⟨g2, 0, none⟩) (strsV out) := by first | exact HC1.out.grown hg1 (fun _ _ => by simp [Value.ownBlock]) | exact (HC2.out _).grown hg1 (fun _ _ => by simp [Value.ownBlock])
                     have c5 : w5.cell? ⟨g, i, none⟩ = some (.string s) := by first | exact grown_cell hg1 HC3.out (by simp [Value.ownBlock]) | exact grown_cell hg1 (HC4.out _) (by simp [Value.ownBlock])
                     have hB5 : Below w.heap.size w w5 := by first | exact below_append HC5.out hg1 HC5.out.size (fun q hq => by simp [Value.ownBlock] at hq) | exact below_append (HC6.out _) hg1 (HC6.out _).size (fun q hq => by simp [Value.ownBlock] at hq)
                     try (have c52 : w5.cell? ⟨w4.heap.size, 0, none⟩ = some (.string s) := grown_cell hg1 (HC7.out _) (by simp [Value.ownBlock]))))
              all_goals
                have hM4 : Mine w7 w.heap.size 9 v3 (strsV (sortedL (l.take (i + 1)))) := by rw [HSN.out]; exact hM3
                go_wp2
                go_roundw
                case rel => exact ⟨i + 1, by omega, by go_num, hM4, hB7⟩
                case measure => simp [intOf]; omega
            · go_wp2
              go_quiet (fail)
              go_wp2
              have f1 : Mine (wr.drewN nq) w.heap.size 9 (.slice (some ⟨g2, 0, none⟩) out.length cv) (strsV out) := hM0.draw ⟨_, rfl⟩
              have f2 : (wr.drewN nq).cell? ⟨g, i, none⟩ = some (.string s) := e1
              have f3 : Below w.heap.size w (wr.drewN nq) := below_drewN (hB.trans (hBi.mono hB.size)) nq
              generalize wr.drewN nq = wq at f1 f2 f3
              go_quiet (fail)
              go_wp2
              have hM4 : Mine (wq.drewN nq) w.heap.size 9 (.slice (some ⟨g2, 0, none⟩) out.length cv) (strsV out) := f1.draw ⟨_, rfl⟩
              have c4 : (wq.drewN nq).cell? ⟨g, i, none⟩ = some (.string s) := f2
              have hB4 : Below w.heap.size w (wq.drewN nq) := below_drewN f3 nq
              generalize wq.drewN nq = w4 at hM4 c4 hB4
              clear e1 f1 f2 f3
              have hC4 : Cells w4 (some ⟨g2, 0, none⟩) (strsV out) := by
                obtain ⟨aa, cc, he, hcc⟩ := row_strs hM4.row
                simp only [Value.slice.injEq] at he
                rw [he.1]; exact hcc
              have hg2 : w.heap.size ≤ g2 := (hM4.lt g2 rfl).2
              have hkc : (k : Int) ≤ (cv : Int) := by have := HKL.out; omega
              have hkl2 : (k : Int) ≤ (out.length : Int) := by have := HKL.out; omega
              have hol : out.length - k = 0 := by have := HKL.out; omega
              have HDR := Lib.hid (show strsV (out.drop k) = [] by rw [List.drop_eq_nil_of_le (by have := HKL.out; omega)]; rfl)
              have hbs := hB4.size
              have lt1 : (strsV (out.take k)).length ≤ 1000000 := by simp [strsV]; omega
              have lt2 : (strsV (out.drop k)).length ≤ 1000000 := by simp [strsV]; omega
              have C1 : Cells w4.drew (some ⟨g2, 0, none⟩) (strsV out) := hC4
              have C2 : ∀ o, Cells (w4.alloc o).drew (some ⟨g2, 0, none⟩) (strsV out) := fun o => hC4.alloc o
              have C3 : w4.drew.cell? ⟨g, i, none⟩ = some (.string s) := c4
              have C4 : ∀ o, (w4.alloc o).drew.cell? ⟨g, i, none⟩ = some (.string s) := fun o => cell_alloc c4 o
              have C5 : Below w.heap.size w w4.drew := hB4.drew
              have C6 : ∀ o, Below w.heap.size w (w4.alloc o).drew := fun o => (hB4.alloc hbs o).drew
              have C7 : ∀ t, (w4.alloc (.cells #[.string s] t)).drew.cell? ⟨w4.heap.size, 0, none⟩ = some (.string s) := fun t => by simp
              have hgsz : g2 < w4.heap.size := (hM4.lt g2 rfl).1
              have HC1 := Lib.hid C1
              have HC2 := Lib.hid C2
              have HC3 := Lib.hid C3
              have HC4 := Lib.hid C4
              have HC5 := Lib.hid C5
              have HC6 := Lib.hid C6
              have HC7 := Lib.hid C7
              clear C1 C2 C3 C4 C5 C6 C7 hC4 hB4 c4
              go_region_held3 (fun w' => w'.cell? ⟨g, i, none⟩ = some (.string s))
                (first | exact HC3.out | exact HC4.out _ | exact c5 | exact cell_alloc c5 _ | exact c6 | exact c7)
                (first
                  | ((with_reducible refine step_if ?_ ?_)
                     · rfl
                     refine wp_append_all _ _ 79 rfl w.heap.size 9 (.string ⟨#[]⟩) 16 Tryd.underlying79 infoStr rfl v2 (strsV (out.take k) ++ [.string s]) rfl hM2 _ (strsV (out.drop k)) rfl ?_ oneStr ?_ ?_ ?_ ?_
                     · exact src_end HDR.out
                     · (simp only [maxLen, List.length_append, List.length_cons, List.length_nil]; omega)
                     · (simp only [List.length_append, List.length_cons, List.length_nil]; omega)
                     · (have := hB6.size; omega)
                     intro v3 w7 hM3 hg3 hat3
                     have hB7 := below_append hB6 hg3 hB6.size (fun q hq => (hM2.lt q hq).2)
                     have c7 : w7.cell? ⟨g, i, none⟩ = some (.string s) := grown_cell hg3 c6 (fun h => by have := (hM2.lt g h.symm).2; omega))
                  | ((with_reducible refine step_if ?_ ?_)
                     · rfl
                     refine wp_append_all _ _ 79 rfl w.heap.size 9 (.string ⟨#[]⟩) 16 Tryd.underlying79 infoStr rfl v1 (strsV (out.take k)) rfl ?_ (.slice (some ⟨_, 0, none⟩) 1 1) [.string s] rfl ?_ ?_ ?_ ?_ ?_ ?_
                     · first | exact hM1 | exact hM1.alloc _
                     · first | exact src_one c52 | exact src_one (by simp)
                     · (intro u hu; simp at hu; subst hu; rfl)
                     · (simp only [maxLen, List.length_cons, List.length_nil]; omega)
                     · (simp only [List.length_cons, List.length_nil]; omega)
                     · (have := hB5.size; first | omega | (simp; omega))
                     intro v2 w6 hM2 hg2' hat2
                     have hg2v : some g2 ≠ v1.ownBlock := by
                       intro h
                       rcases hat1 with h' | h'
                       · rw [← h] at h'; simp [Value.ownBlock] at h'
                       · rw [← h] at h'; have := hgsz; simp at h'; omega
                     have hC6 : Cells w6 (some ⟨g2, 0, none⟩) (strsV out) := by first | exact hC5.grown hg2' (fun q hq => by simp at hq; subst hq; exact hg2v) | exact (hC5.alloc _).grown hg2' (fun q hq => by simp at hq; subst hq; exact hg2v)
                     have hgv : some g ≠ v1.ownBlock := fun h => by have := (hM1.lt g h.symm).2; omega
                     have c6 : w6.cell? ⟨g, i, none⟩ = some (.string s) := by first | exact grown_cell hg2' c5 hgv | exact grown_cell hg2' (cell_alloc c5 _) hgv
                     have hB6 : Below w.heap.size w w6 := by first | exact below_append hB5 hg2' hB5.size (fun q hq => (hM1.lt q hq).2) | exact below_append (hB5.alloc hB5.size _) hg2' (by have := hB5.size; simp; omega) (fun q hq => (hM1.lt q hq).2))
                  | ((with_reducible refine step_if ?_ ?_)
                     · rfl
                     refine wp_append_all _ _ 79 rfl w.heap.size 9 (.string ⟨#[]⟩) 16 Tryd.underlying79 infoStr rfl (.slice none 0 0) [] rfl (Mine.nil _ _ _) (.slice (some ⟨g2, 0, none⟩) k cv) (strsV (out.take k)) rfl ?_ oneStr ?_ ?_ ?_ ?_
                     · first | exact src_take HC1.out k cv (by omega) | exact src_take (HC2.out _) k cv (by omega)
                     · (simp only [maxLen, List.length_nil]; omega)
                     · (simp only [List.length_nil]; omega)
                     · (simp; omega)
                     intro v1 w5 hM1 hg1 hat1
                     have hC5 : Cells w5 (some ⟨g2, 0, none⟩) (strsV out) := by first | exact HC1.out.grown hg1 (fun _ _ => by simp [Value.ownBlock]) | exact (HC2.out _).grown hg1 (fun _ _ => by simp [Value.ownBlock])
                     have c5 : w5.cell? ⟨g, i, none⟩ = some (.string s) := by first | exact grown_cell hg1 HC3.out (by simp [Value.ownBlock]) | exact grown_cell hg1 (HC4.out _) (by simp [Value.ownBlock])
                     have hB5 : Below w.heap.size w w5 := by first | exact below_append HC5.out hg1 HC5.out.size (fun q hq => by simp [Value.ownBlock] at hq) | exact below_append (HC6.out _) hg1 (HC6.out _).size (fun q hq => by simp [Value.ownBlock] at hq)
                     try (have c52 : w5.cell? ⟨w4.heap.size, 0, none⟩ = some (.string s) := grown_cell hg1 (HC7.out _) (by simp [Value.ownBlock]))))
              all_goals
                have hM4 : Mine w7 w.heap.size 9 v3 (strsV (sortedL (l.take (i + 1)))) := by rw [HSN.out]; exact hM3
                go_wp2
                go_roundw
                case rel => exact ⟨i + 1, by omega, by go_num, hM4, hB7⟩
                case measure => simp [intOf]; omega
    · have HF : Hid (sortedL (l.take i) = sortedL l) := by
        show sortedL (l.take i) = sortedL l
        rw [List.take_of_length_le (by omega)]
      go_wp2
      go_ret
      exact ⟨_, rfl, by rw [← HF.out]; exact hM.row, hB⟩
end Go.Proofs.YtligapgjdpdihaaDoor.RefSort
