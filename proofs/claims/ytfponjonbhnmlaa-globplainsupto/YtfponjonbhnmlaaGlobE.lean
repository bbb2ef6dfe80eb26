/-
  What package glob reads as a pattern's signs.
-/
import Derived.Test.YtfponjonbhnmlaaGlobB
namespace Go.Proofs.Ytfponjonbhnmlaa.Glob
open Go.RowKit
open RuneM RefRune Own RefKeys GlobM Keys

/-- signs as cells -/
def flatS (l : List Sg) : List Value := l.flatMap fun x => [.int .i32 (x.1 : Int), .bool x.2]
theorem flatS_snoc (l : List Sg) (x : Sg) : flatS (l ++ [x]) = flatS l ++ [.int .i32 (x.1 : Int), .bool x.2] := by simp [flatS]
theorem flatS_at : ∀ (l : List Sg) (k : Nat) (x : Sg), l[k]? = some x → (flatS l)[2 * k]? = some (.int .i32 (x.1 : Int)) ∧ (flatS l)[2 * k + 1]? = some (.bool x.2)
  | [], k, x, h => by simp at h
  | y :: l, 0, x, h => by simp at h; subst h; exact ⟨rfl, rfl⟩
  | y :: l, k + 1, x, h => by
    have h1 := flatS_at l k x (by simpa using h)
    rw [show 2 * (k + 1) = 2 * k + 1 + 1 by omega]
    exact h1
def SignsM (w : World) (base : Nat) (v : Value) (l : List Sg) : Prop := w.ownsRow base 75 2 v l.length (flatS l)
/-- cells of a row of one's own -/
theorem owns_cell {w : World} {base : Nat} {e : TypeId} {size : Nat} {v : Value} {n : Nat} {xs : List Value} (h : w.ownsRow base e size v n xs) {j : Nat} {x : Value} (hx : xs[j]? = some x) : ∃ g cap, v = .slice (some ⟨g, 0, none⟩) n cap ∧ n ≤ cap ∧ g < w.heap.size ∧ base ≤ g ∧ w.cell? ⟨g, j, none⟩ = some x := by
  obtain ⟨hl, hv⟩ := h
  rcases hv with ⟨rfl, rfl⟩ | ⟨g, cap, cur, rfl, hb, hh, hn, _, hs, ht⟩
  · rw [Nat.zero_mul] at hl; have := List.length_eq_zero_iff.1 hl; subst this; simp at hx
  · refine ⟨g, cap, rfl, hn, (Array.getElem?_eq_some_iff.1 hh).1, hb, ?_⟩
    have hj : j < n * size := by rw [← hl]; exact (List.getElem?_eq_some_iff.1 hx).1
    rw [← ht, List.getElem?_take_of_lt hj] at hx
    have hx' : cur[j]? = some x := by simpa using hx
    simp [World.cell?, hh, hx']
theorem owns_cap {w : World} {base : Nat} {e : TypeId} {size : Nat} {v : Value} {n : Nat} {xs : List Value} (h : w.ownsRow base e size v n xs) : ∃ a cap, v = .slice a n cap ∧ n ≤ cap := by
  rcases h.2 with ⟨rfl, rfl⟩ | ⟨g, cap, cur, rfl, _, _, hn, _⟩
  · exact ⟨none, 0, rfl, Nat.le_refl _⟩
  · exact ⟨_, cap, rfl, hn⟩
theorem SignsM.sgn {w : World} {base : Nat} {v : Value} {l : List Sg} (h : SignsM w base v l) : Sgn w.heap.size w v l := by
  cases l with
  | nil =>
    obtain ⟨a, cap, rfl, hc⟩ := owns_cap h
    exact Sgn.none _ _ _ _
  | cons x t =>
    obtain ⟨g, cap, rfl, hn, hg, _, _⟩ := owns_cell h (flatS_at (x :: t) 0 x rfl).1
    refine ⟨_, cap, rfl, hn, .inr ⟨g, 0, rfl, hg, fun j y hj => ?_⟩⟩
    have h1 := flatS_at _ j y hj
    obtain ⟨g1, c1, e1, _, _, _, d1⟩ := owns_cell h h1.1
    obtain ⟨g2, c2, e2, _, _, _, d2⟩ := owns_cell h h1.2
    cases e1; cases e2
    rw [Nat.zero_add]
    exact ⟨d1, d2⟩
/-- signs of what is gone through, and whether a stroke was last -/
def sgDone (l : List Nat) : List Sg × Bool := l.foldl (fun a r => if r = 92 ∧ a.2 = false then (a.1, true) else (a.1 ++ [(r, a.2)], false)) ([], false)
theorem sgDone_snoc (l : List Nat) (r : Nat) : sgDone (l ++ [r]) = if r = 92 ∧ (sgDone l).2 = false then ((sgDone l).1, true) else ((sgDone l).1 ++ [(r, (sgDone l).2)], false) := by
  unfold sgDone; rw [List.foldl_append]; rfl
theorem sg_run : ∀ (n : Nat) (l : List Nat) (L : List Sg), l.length ≤ n → (l.foldl (fun a r => if r = 92 ∧ a.2 = false then (a.1, true) else (a.1 ++ [(r, a.2)], false)) (L, false)) = (match signsL l with
    | some T => (L ++ T, false)
    | none => ((l.foldl (fun a r => if r = 92 ∧ a.2 = false then (a.1, true) else (a.1 ++ [(r, a.2)], false)) (L, false)).1, true)) := by
  intro n
  induction n with
  | zero => intro l L h; have := List.length_eq_zero_iff.1 (Nat.le_zero.1 h); subst this; simp [signsL]
  | succ n ih =>
    intro l L h
    cases l with
    | nil => simp [signsL]
    | cons c t =>
      rw [signsL_cons]
      by_cases hc : c = 92
      · subst hc
        cases t with
        | nil => simp
        | cons d u =>
          have h1 := ih u (L ++ [(d, true)]) (by simp at h; omega)
          simp only [List.foldl_cons]
          simp only [true_and, and_true, if_true, Bool.true_eq_false, and_false, if_false]
          rw [h1]
          cases signsL u <;> simp
      · have h1 := ih t (L ++ [(c, false)]) (by simp at h; omega)
        simp only [List.foldl_cons, hc, false_and, if_false]
        rw [h1]
        cases signsL t <;> simp
theorem sgDone_some {l : List Nat} {L : List Sg} (h : signsL l = some L) : sgDone l = (L, false) := by
  unfold sgDone; rw [sg_run _ l [] (Nat.le_refl _), h]; simp
theorem sgDone_none {l : List Nat} (h : signsL l = none) : (sgDone l).2 = true := by
  unfold sgDone; rw [sg_run _ l [] (Nat.le_refl _), h]
theorem sgDone_len (l : List Nat) : (sgDone l).1.length ≤ l.length := by
  have : ∀ (l : List Nat) (a : List Sg × Bool), (l.foldl (fun a r => if r = 92 ∧ a.2 = false then (a.1, true) else (a.1 ++ [(r, a.2)], false)) a).1.length ≤ a.1.length + l.length := by
    intro l
    induction l with
    | nil => intro a; simp
    | cons c t ih =>
      intro a
      simp only [List.foldl_cons, List.length_cons]
      by_cases hc : c = 92 ∧ a.2 = false
      · rw [if_pos hc]; have := ih (a.1, true); simp only at this; omega
      · rw [if_neg hc]; have := ih (a.1 ++ [(c, a.2)], false); simp only [List.length_append, List.length_cons, List.length_nil] at this; omega
  have := this l ([], false)
  simpa [sgDone] using this
/-- what signs answers -/
def SignsSays (p : ByteArray) (w : World) (e : Ending) (w' : World) : Prop :=
  Below w.heap.size w w' ∧ (24 < (nums p).length → e = .returned (.tuple #[.slice none 0 0, .bool false])) ∧
    (¬ 24 < (nums p).length → ∃ v, e = .returned (.tuple #[v, .bool (!(sgDone (nums p)).2)]) ∧ SignsM w' w.heap.size v (sgDone (nums p)).1)
/-- where it stands in its loop -/
def SignsIn (p : ByteArray) (w w1 : World) (x4 x5 : Value) (wr : World) : Prop :=
  ∃ (pos : Nat) (done : List (Nat × Nat)), wr.heap[w1.heap.size]? = some (.stringIter p pos) ∧ Part p pos done ∧ x5 = .bool (sgDone (done.map (·.1))).2 ∧ SignsM wr (w1.heap.size + 1) x4 (sgDone (done.map (·.1))).1 ∧ Below w1.heap.size w1 wr
theorem iter_kept {wr w' : World} {k pos : Nat} {p : ByteArray} {row : Option Nat} (h : wr.heap[k]? = some (.stringIter p pos)) (hg : wr.grownBy w' row) (hr : row ≠ some k) : w'.heap[k]? = some (.stringIter p pos) := by
  rw [hg.block _ (Array.getElem?_eq_some_iff.1 h).1 (Ne.symm hr)]; exact h
theorem grown_iterAt (wr : World) (k : Nat) (s : ByteArray) (pos : Nat) : wr.grownBy (wr.iterAt k s pos) (some k) := by
  refine ⟨rfl, rfl, rfl, by rw [Lib.iterAt_size]; exact Nat.le_refl _, fun i _ hi => Lib.iterAt_other wr k i s pos (fun e => hi (by rw [e]))⟩
theorem owns_iterAt {wr : World} {k b : Nat} {s : ByteArray} {pos pos' : Nat} {e : TypeId} {size : Nat} {v : Value} {n : Nat} {xs : List Value} (h : wr.ownsRow b e size v n xs) (hk : k < b) : (wr.iterAt k s pos').ownsRow b e size v n xs :=
  World.ownsRow.kept h (grown_iterAt wr k s pos') (by
    cases hq : v.ownBlock with
    | none => exact .inl rfl
    | some j => right; have := (owns_lt h j hq).2; simp; omega)
theorem new_sign (w : World) (a b : Value) : ∀ j u, [a, b][j]? = some u → (w.alloc (.cells #[a, b] 75)).cell? ⟨w.heap.size, j, none⟩ = some u := by
  intro j u hj
  have h := heap_new w (.cells #[a, b] 75)
  match j, hj with
  | 0, hj => simp at hj; subst hj; unfold World.cell?; rw [h]; rfl
  | 1, hj => simp at hj; subst hj; unfold World.cell?; rw [h]; rfl
  | j + 2, hj => simp at hj
theorem sign_ones (a : Int) (b : Bool) : ∀ u ∈ [Value.int .i32 a, .bool b], u.oneCell' = true := by
  intro u hu; simp at hu; rcases hu with rfl | rfl <;> rfl
theorem runes_nums (p : ByteArray) : (nums p).length = (runes p).length := by simp [nums]
set_option maxRecDepth 100000 in
set_option maxHeartbeats 4000000 in
theorem signs_any (p : ByteArray) (hp : p.size ≤ lim) (w : World) : Calls Try.prog 32 #[.string p] w (SignsSays p w) := by
  have HC := Lib.hid (count_any p hp w)
  by_cases h24 : 24 < (runes p).length
  · have q : (24 : Int) < ((runes p).length : Int) := by omega
    have H24 := Lib.hid h24
    go_enter Try.func32, Try.ntmps32
    go_wp2_with fail
    go_at_call 19
    with_reducible refine HC.out.mono ?_
    rintro e w1 ⟨rfl, hb⟩
    have HB := Lib.hid hb
    clear hb h24
    go_wp2
    go_ret2
    exact ⟨HB.out, fun _ => rfl, fun h => absurd H24.out (by rw [runes_nums] at h; exact h)⟩
  · have q : ¬ (24 : Int) < ((runes p).length : Int) := by omega
    have H24 := Lib.hid h24
    go_enter Try.func32, Try.ntmps32
    go_wp2_with fail
    go_at_call 19
    with_reducible refine HC.out.mono ?_
    rintro e w1 ⟨rfl, hb⟩
    have HB := Lib.hid hb
    clear hb h24 HC
    go_wp2
    go_loopw [4, 5] (fun x4 x5 wr => SignsIn p w w1 x4 x5 wr) (fun _ _ wr => p.size - wr.iterPos w1.heap.size)
    case atStart => exact ⟨0, [], heap_new w1 _, Part.start p, rfl, ⟨rfl, .inl ⟨rfl, rfl⟩⟩, bel_alloc _ _⟩
    case round =>
      obtain ⟨pos, done, hi, hP, rfl, hM, hBw⟩ := hrel
      have HP := Lib.hid hP
      have HI := Lib.hid hi
      have HBW := Lib.hid hBw
      have hlen := sgDone_len (done.map (·.1))
      rw [List.length_map] at hlen
      by_cases hlt : pos < p.size
      · have hnx : ∀ ty, (Instr.next (.pointer (some ⟨w1.heap.size, 0, none⟩)) true ty).run Try.prog wr = _ := fun ty => Lib.run_next_any_at wr w1.heap.size p pos ty hi hlt
        have hw := dec_width p pos hlt
        have hmore := hP.more hlt
        have HNX := Lib.hid (hP.next hlt)
        have HM := Lib.hid (owns_iterAt (s := p) (pos := pos) (pos' := pos + (Utf8.decode p pos).2) hM (Nat.lt_succ_self w1.heap.size))
        have HI2 := Lib.hid (Lib.iterAt_heap wr w1.heap.size p pos (pos + (Utf8.decode p pos).2) hi)
        have HB2 := Lib.hid (Lib.below_iterAt hBw (Nat.le_refl _) p (pos + (Utf8.decode p pos).2))
        have HD := Lib.hid (sgDone_snoc (done.map (·.1)) (Utf8.decode p pos).1)
        have hsz : w1.heap.size < wr.heap.size := (Array.getElem?_eq_some_iff.1 hi).1
        clear hP hi hBw hM
        generalize Utf8.decode p pos = d at hnx hw HNX HM HI2 HB2 HD
        generalize sgDone (done.map (·.1)) = sd at HM HD hlen
        obtain ⟨sl, q0⟩ := sd
        simp only at HM HD hlen
        have HMAP : Hid ((done ++ [d]).map (·.1) = done.map (·.1) ++ [d.1]) := by show _ = _; simp
        have b1 : (sl.length + 1) * 8 ≤ 140737488355328 := by omega
        have b2 : sl.length + 1 ≤ maxLen := by simp only [maxLen]; omega
        have b3 : w1.heap.size + 1 ≤ (wr.iterAt w1.heap.size p (pos + d.2)).heap.size + 1 := by rw [Lib.iterAt_size]; omega
        by_cases h92 : d.1 = 92
        · have e92 : ((d.1 : Int) == 92) = true := by simp; omega
          cases q0 with
          | false =>
            have HD2 : Hid (sgDone ((done ++ [d]).map (·.1)) = (sl, true)) := by show _ = _; rw [HMAP.out, HD.out, if_pos ⟨h92, rfl⟩]
            clear HD h92
            go_wp2
            go_roundw
            case rel => exact ⟨_, _, HI2.out, HNX.out, by rw [HD2.out], by rw [HD2.out]; exact HM.out, HB2.out⟩
            case measure => simp [World.iterPos, HI.out, HI2.out]; omega
          | true =>
            have HD2 : Hid (sgDone ((done ++ [d]).map (·.1)) = (sl ++ [(d.1, true)], false)) := by show _ = _; rw [HMAP.out, HD.out, if_neg (by simp)]
            clear HD h92
            go_wp2_with (at_builtin; (refine appendN rfl _ _ 60 rfl (w1.heap.size + 1) 75 (.agg #[.int .i32 0, .bool false]) 2 8 Try.underlying60 infoSign rfl (by omega) u4 sl.length (flatS sl) rfl (owns_below HM.out (bel_alloc _ _)) _ [.int .i32 (d.1 : Int), .bool true] rfl rfl ?c1 ?c2 b1 b2 ?c3 ?_); (case c1 => exact new_sign _ _ _); (case c2 => exact sign_ones _ _); (case c3 => (rw [size_alloc]; exact b3)); intro g2 cap2 w4 hown2 hgr hat2; have HM4 := Lib.hid hown2; have HI4 := Lib.hid (iter_kept (iter_kept HI2.out (grown_alloc _ _) (by simp)) hgr (fun e => by have := (owns_lt HM.out _ e).2; omega)); have HB4 := Lib.hid ((HB2.out.trans ((bel_alloc _ _).mono HB2.out.size)).grown hgr (by rw [size_alloc]; exact Nat.le_trans HB2.out.size (Nat.le_succ _)) (fun k hk => by have := (owns_lt HM.out k hk).2; omega)))
            go_roundw
            case rel => exact ⟨_, _, HI4.out, HNX.out, by rw [HD2.out], by rw [HD2.out]; unfold SignsM; rw [flatS_snoc, List.length_append]; exact HM4.out, HB4.out⟩
            case measure => simp [World.iterPos, HI.out, HI4.out]; omega
        · have e92 : ((d.1 : Int) == 92) = false := by simp; omega
          have HD2 : Hid (sgDone ((done ++ [d]).map (·.1)) = (sl ++ [(d.1, q0)], false)) := by show _ = _; rw [HMAP.out, HD.out, if_neg (fun h => h92 h.1)]
          clear HD h92
          go_wp2_with (at_builtin; (refine appendN rfl _ _ 60 rfl (w1.heap.size + 1) 75 (.agg #[.int .i32 0, .bool false]) 2 8 Try.underlying60 infoSign rfl (by omega) u4 sl.length (flatS sl) rfl (owns_below HM.out (bel_alloc _ _)) _ [.int .i32 (d.1 : Int), .bool q0] rfl rfl ?c1 ?c2 b1 b2 ?c3 ?_); (case c1 => exact new_sign _ _ _); (case c2 => exact sign_ones _ _); (case c3 => (rw [size_alloc]; exact b3)); intro g2 cap2 w4 hown2 hgr hat2; have HM4 := Lib.hid hown2; have HI4 := Lib.hid (iter_kept (iter_kept HI2.out (grown_alloc _ _) (by simp)) hgr (fun e => by have := (owns_lt HM.out _ e).2; omega)); have HB4 := Lib.hid ((HB2.out.trans ((bel_alloc _ _).mono HB2.out.size)).grown hgr (by rw [size_alloc]; exact Nat.le_trans HB2.out.size (Nat.le_succ _)) (fun k hk => by have := (owns_lt HM.out k hk).2; omega)))
          go_roundw
          case rel => exact ⟨_, _, HI4.out, HNX.out, by rw [HD2.out], by rw [HD2.out]; unfold SignsM; rw [flatS_snoc, List.length_append]; exact HM4.out, HB4.out⟩
          case measure => simp [World.iterPos, HI.out, HI4.out]; omega
      · have hnx : ∀ ty, (Instr.next (.pointer (some ⟨w1.heap.size, 0, none⟩)) true ty).run Try.prog wr = _ := fun ty => Lib.run_next_end_at wr w1.heap.size p pos ty hi hlt
        have HR := Lib.hid (show sgDone (nums p) = sgDone (done.map (·.1)) by unfold nums; rw [hP.done hlt])
        have HM := Lib.hid hM
        clear hP hi hBw hM hlen
        generalize sgDone (done.map (·.1)) = sd at HM HR
        obtain ⟨sl, q0⟩ := sd
        simp only at HM HR
        go_wp2
        go_ret2
        exact ⟨HB.out.trans (HBW.out.mono HB.out.size), fun h => absurd h (by rw [runes_nums]; exact H24.out), fun _ => ⟨_, by rw [HR.out]; rfl, by rw [HR.out]; exact owns_base HM.out (Nat.le_trans HB.out.size (Nat.le_succ _))⟩⟩
end Go.Proofs.Ytfponjonbhnmlaa.Glob
