/-
  What the document's own reading of a set answers.
-/
import Derived.Test.YtfponjonbhnmlaaRefSet
import Derived.Deep.DeepCutAuto
namespace Go.Proofs.Ytfponjonbhnmlaa.RefGlob
open Go.RowKit
open RuneM RefRune Own RefKeys GlobM
open Go.Proofs.Ytfponjonbhnmlaa.Region

theorem setF_span {f : Nat} {sp : List (Nat × Nat)} {l : List Nat} {x : Nat × Nat} {t : List Nat} (h0 : ¬ l.head? = some 93) (h : spanL l = some (x, t)) : setF (f + 1) sp l = setF f (sp ++ [x]) t := by
  simp only [setF, if_neg h0, h]
theorem setF_stop {f : Nat} {sp : List (Nat × Nat)} {l : List Nat} (h0 : ¬ l.head? = some 93) (h : spanL l = none) : setF (f + 1) sp l = none := by
  simp only [setF, if_neg h0, h]
theorem span_one {l : List Nat} {a : Nat} {t : List Nat} (h : endL l = some (a, t)) (h2 : ¬ t.head? = some 45) : spanL l = some ((a, a), t) := by
  simp only [spanL, h, if_neg h2]
theorem span_two {l : List Nat} {a b : Nat} {t u : List Nat} (h : endL l = some (a, t)) (h2 : t.head? = some 45) (h3 : endL t.tail = some (b, u)) (h4 : ¬ b < a) : spanL l = some ((a, b), u) := by
  simp only [spanL, h, if_pos h2, h3, if_neg h4]
theorem span_none {l : List Nat} (h : endL l = none) : spanL l = none := by simp only [spanL, h]
theorem span_bad {l : List Nat} {a : Nat} {t : List Nat} (h : endL l = some (a, t)) (h2 : t.head? = some 45) (h3 : endL t.tail = none) : spanL l = none := by simp only [spanL, h, if_pos h2, h3]
theorem span_back {l : List Nat} {a b : Nat} {t u : List Nat} (h : endL l = some (a, t)) (h2 : t.head? = some 45) (h3 : endL t.tail = some (b, u)) (h4 : b < a) : spanL l = none := by simp only [spanL, h, if_pos h2, h3, if_pos h4]

/-- where set stands in its loop: what it reads still, and how that is the whole -/
def SetIn (l : List Nat) (i : Nat) (neg : Bool) (w : World) (x : Value) (wr : World) : Prop :=
  ∃ k sp lo hi2 f, x = .int .i64 ((k : Nat) : Int) ∧ k ≤ l.length ∧ (l.drop k).length < f ∧ setL (l.drop i) = (setF f sp (l.drop k)).map (fun x => (⟨3, neg, x.1⟩, x.2)) ∧ sp.length ≤ k ∧ SetAt w wr neg lo hi2 sp
theorem set_in0 {l : List Nat} {i : Nat} {w wr : World} {hi : i ≤ l.length} (hn : false = decide ((l.drop i).head? = some 94)) (h : SetAt w wr false (.slice none 0 0) (.slice none 0 0) []) : SetIn l i false w (.int .i64 (i : Int)) wr := by
  refine ⟨i, [], _, _, (l.drop i).length + 1, rfl, hi, Nat.lt_succ_self _, ?_, Nat.zero_le _, h⟩
  simp only [setL, ← hn]; rfl
theorem set_in1 {l : List Nat} {i : Nat} {w wr : World} (hn : true = decide ((l.drop i).head? = some 94)) (h : SetAt w wr true (.slice none 0 0) (.slice none 0 0) []) : SetIn l i true w (.int .i64 ((i : Int) + 1)) wr := by
  obtain ⟨h1, _⟩ := head_at.1 (of_decide_eq_true hn.symm)
  refine ⟨i + 1, [], _, _, (l.drop i).length + 1, rfl, h1, by simp; omega, ?_, Nat.zero_le _, h⟩
  simp only [setL, ← hn]
  simp [List.tail_drop]
/-- behind a span -/
def SpanIn (l : List Nat) (i k f : Nat) (neg : Bool) (sp : List (Nat × Nat)) (av : Nat) (s9 s11 : Value) : Prop :=
  ∃ bv nx2 : Nat, s9 = .int .i64 (nx2 : Int) ∧ s11 = .int .i64 (bv : Int) ∧ nx2 ≤ l.length ∧ (l.drop nx2).length < f ∧ k < nx2 ∧ setL (l.drop i) = (setF f (sp ++ [(av, bv)]) (l.drop nx2)).map (fun x => (⟨3, neg, x.1⟩, x.2))
theorem span_in1 {l : List Nat} {i k f nx av : Nat} {neg : Bool} {sp : List (Nat × Nat)} {t : List Nat} (hS : setL (l.drop i) = (setF (f + 1) sp (l.drop k)).map (fun x => (⟨3, neg, x.1⟩, x.2))) (hf : (l.drop k).length < f + 1) (h93 : ¬ (l.drop k).head? = some 93)
    (he : endL (l.drop k) = some (av, t)) (ht : t = l.drop nx) (hd : ¬ t.head? = some 45) (h2 : k < nx) (h3 : nx ≤ l.length) : SpanIn l i k f neg sp av (.int .i64 (nx : Int)) (.int .i64 (av : Int)) := by
  refine ⟨av, nx, rfl, rfl, h3, by simp at hf ⊢; omega, h2, ?_⟩
  rw [hS, setF_span h93 (span_one he hd), ht]
theorem span_in2 {l : List Nat} {i k f nx2 av bv : Nat} {neg : Bool} {sp : List (Nat × Nat)} {t u : List Nat} (hS : setL (l.drop i) = (setF (f + 1) sp (l.drop k)).map (fun x => (⟨3, neg, x.1⟩, x.2))) (hf : (l.drop k).length < f + 1) (h93 : ¬ (l.drop k).head? = some 93)
    (he : endL (l.drop k) = some (av, t)) (hd : t.head? = some 45) (he2 : endL t.tail = some (bv, u)) (hba : ¬ bv < av) (hu : u = l.drop nx2) (h2 : k < nx2) (h3 : nx2 ≤ l.length) : SpanIn l i k f neg sp av (.int .i64 (nx2 : Int)) (.int .i64 (bv : Int)) := by
  refine ⟨bv, nx2, rfl, rfl, h3, by simp at hf ⊢; omega, h2, ?_⟩
  rw [hS, setF_span h93 (span_two he hd he2 hba), hu]
theorem XAt.cells {w wr : World} {neg : Bool} {lo hi : Value} (h : XAt w wr neg lo hi) : wr.cell? ⟨w.heap.size + 1, 0, none⟩ = some (.int .i64 3) ∧ wr.cell? ⟨w.heap.size + 1, 1, none⟩ = some (.bool neg) ∧ wr.cell? ⟨w.heap.size + 1, 2, none⟩ = some lo ∧ wr.cell? ⟨w.heap.size + 1, 3, none⟩ = some hi ∧ wr.frozen? ⟨w.heap.size + 1, 1, none⟩ = false := by
  unfold XAt at h; refine ⟨?_, ?_, ?_, ?_, ?_⟩ <;> simp [World.cell?, World.frozen?, h]
theorem XAt.set1 {w wr : World} {neg : Bool} {lo hi : Value} (h : XAt w wr neg lo hi) (b : Bool) : XAt w (wr.setCell ⟨w.heap.size + 1, 1, none⟩ (.bool b)) b lo hi := by
  unfold XAt at h ⊢
  simp only [World.setCell]
  rw [Array.getElem?_modify, if_pos rfl, h]; rfl
theorem set_start (w : World) : SetAt w ((w.alloc (.cells #[.int .i64 0, .bool false, .slice none 0 0, .slice none 0 0] 46)).alloc (.cells #[.int .i64 3, .bool false, .slice none 0 0, .slice none 0 0] 46)) false (.slice none 0 0) (.slice none 0 0) [] := by
  have push : ∀ (h : Array Obj) (o1 o2 : Obj), ((h.push o1).push o2)[h.size + 1]? = some o2 ∧ ((h.push o1).push o2)[h.size]? = some o1 := by
    intro h o1 o2
    constructor
    · rw [Array.getElem?_push, if_pos (by simp)]
    · rw [Array.getElem?_push, if_neg (by simp), Array.getElem?_push, if_pos rfl]
  refine ⟨(push _ _ _).1, ⟨_, _, _, _, (push _ _ _).2⟩, Mine.nil _ _ _, Mine.nil _ _ _, .inl rfl, ((Below.refl _ _).alloc (Nat.le_refl _) _).alloc ?_ _⟩
  show w.heap.size ≤ (w.heap.push _).size
  simp
theorem SetAt.neg {w wr : World} {lo hi : Value} {sp : List (Nat × Nat)} {b : Bool} (h : SetAt w wr b lo hi sp) (c : Bool) : SetAt w (wr.setCell ⟨w.heap.size + 1, 1, none⟩ (.bool c)) c lo hi sp := by
  have hg := grown_set wr ⟨w.heap.size + 1, 1, none⟩ (.bool c)
  exact ⟨h.x.set1 c, h.r.kept hg (by simp), h.l.kept hg (.inr (own_far h.l).2.1), h.h.kept hg (.inr (own_far h.h).2.1), h.ne, h.below.grown hg h.below.size (fun k hk => by cases hk; exact Nat.le_succ _)⟩
theorem RAt.cells {w wr : World} (h : RAt w wr) : ∃ p : Value × Value × Value × Value, wr.cell? ⟨w.heap.size, 0, none⟩ = some p.1 ∧ wr.cell? ⟨w.heap.size, 1, none⟩ = some p.2.1 ∧ wr.cell? ⟨w.heap.size, 2, none⟩ = some p.2.2.1 ∧ wr.cell? ⟨w.heap.size, 3, none⟩ = some p.2.2.2 ∧
    wr.frozen? ⟨w.heap.size, 0, none⟩ = false ∧ wr.frozen? ⟨w.heap.size, 1, none⟩ = false ∧ wr.frozen? ⟨w.heap.size, 2, none⟩ = false ∧ wr.frozen? ⟨w.heap.size, 3, none⟩ = false := by
  obtain ⟨a, b, c, d, h⟩ := h
  refine ⟨(a, b, c, d), ?_, ?_, ?_, ?_, ?_, ?_, ?_, ?_⟩ <;> simp [World.cell?, World.frozen?, h]
theorem below4 {w wr : World} (hB : Below w.heap.size w wr) (a b c d : Value) : Below w.heap.size w ((((wr.setCell ⟨w.heap.size, 0, none⟩ a).setCell ⟨w.heap.size, 1, none⟩ b).setCell ⟨w.heap.size, 2, none⟩ c).setCell ⟨w.heap.size, 3, none⟩ d) :=
  (((hB.setCell (Nat.le_refl _) _).setCell (Nat.le_refl _) _).setCell (Nat.le_refl _) _).setCell (Nat.le_refl _) _
theorem mine4 {w wr : World} {v : Value} {l : List Value} (h : Mine wr (w.heap.size + 2) 3 v l) (a b c d : Value) : Mine ((((wr.setCell ⟨w.heap.size, 0, none⟩ a).setCell ⟨w.heap.size, 1, none⟩ b).setCell ⟨w.heap.size, 2, none⟩ c).setCell ⟨w.heap.size, 3, none⟩ d) (w.heap.size + 2) 3 v l := by
  have st : ∀ {w1 : World} (o : Nat) (x : Value), Mine w1 (w.heap.size + 2) 3 v l → Mine (w1.setCell ⟨w.heap.size, o, none⟩ x) (w.heap.size + 2) 3 v l := fun o x h1 => h1.kept (grown_set _ _ _) (.inr (own_far h1).1)
  exact st _ _ (st _ _ (st _ _ (st _ _ h)))
theorem set_no {l : List Nat} {i : Nat} {w wr : World} (h : setL (l.drop i) = none) (hB : Below w.heap.size w wr) (nb : Bool) (p q : Option Addr × Nat × Nat) (n : Value) (a b c d : Value) :
    SetSays l i w (.returned (.tuple #[.agg #[.int .i64 3, .bool nb, .slice p.1 p.2.1 p.2.2, .slice q.1 q.2.1 q.2.2], n, .bool false])) ((((wr.setCell ⟨w.heap.size, 0, none⟩ a).setCell ⟨w.heap.size, 1, none⟩ b).setCell ⟨w.heap.size, 2, none⟩ c).setCell ⟨w.heap.size, 3, none⟩ d) :=
  ⟨below4 hB a b c d, by rw [h]; exact ⟨nb, p, q, n, rfl⟩⟩
theorem set_yes {l : List Nat} {i k f : Nat} {neg : Bool} {sp : List (Nat × Nat)} {w wr : World} {lo hi : Value} (h : setL (l.drop i) = (setF (f + 1) sp (l.drop k)).map (fun x => (⟨3, neg, x.1⟩, x.2))) (hk : k < l.length) (h93 : l[k] = 93)
    (hl : Mine wr (w.heap.size + 2) 3 lo (ns (sp.map (·.1)))) (hh : Mine wr (w.heap.size + 2) 3 hi (ns (sp.map (·.2)))) (hB : Below w.heap.size w wr) (a b c d : Value) :
    SetSays l i w (.returned (.tuple #[.agg #[.int .i64 3, .bool neg, lo, hi], .int .i64 (k : Int), .bool (decide (0 < sp.length))])) ((((wr.setCell ⟨w.heap.size, 0, none⟩ a).setCell ⟨w.heap.size, 1, none⟩ b).setCell ⟨w.heap.size, 2, none⟩ c).setCell ⟨w.heap.size, 3, none⟩ d) := by
  refine ⟨below4 hB a b c d, ?_⟩
  have hd : (l.drop k).head? = some 93 := head_at.2 ⟨hk, h93⟩
  rw [h]
  simp only [setF, if_pos hd]
  by_cases hs : sp = []
  · subst hs
    obtain ⟨p, rfl⟩ := mine_slice hl
    obtain ⟨q, rfl⟩ := mine_slice hh
    exact ⟨neg, p, q, _, rfl⟩
  · have h0 : 0 < sp.length := List.length_pos_iff.2 hs
    simp only [if_neg hs, Option.map_some]
    refine ⟨.agg #[.int .i64 3, .bool neg, lo, hi], ?_, lo, hi, rfl, mine_zero (mine4 hl a b c d), mine_zero (mine4 hh a b c d)⟩
    have : l.length - (l.drop k).tail.length - 1 = k := by simp; omega
    rw [this, decide_eq_true h0]
theorem SetSays.drew {l : List Nat} {i : Nat} {w w' : World} {e : Ending} (h : SetSays l i w e w') : SetSays l i w e w'.drew := ⟨h.1.drew, h.2⟩
theorem mine_len {w : World} {base : Nat} {e : TypeId} {a : Option Addr} {n c : Nat} {l : List Value} (h : Mine w base e (.slice a n c) l) : n = l.length := by
  rcases h.2 with ⟨e, hn⟩ | ⟨g, cap, cur, e, _⟩
  · simp only [Value.slice.injEq] at e; omega
  · simp only [Value.slice.injEq] at e; exact e.2.1
set_option maxRecDepth 100000 in
set_option maxHeartbeats 8000000 in
theorem set_any (a : Option Addr) (l : List Nat) (cap i : Nat) (hl : l.length ≤ 1000) (hi : i ≤ l.length) (w : World) (hc : Cells w a (ns l)) :
    Calls Try.prog 34 #[.slice a l.length cap, .int .i64 (i : Int)] w (SetSays l i w) := by
  obtain ⟨neg, hng⟩ : ∃ b : Bool, b = decide ((l.drop i).head? = some 94) := ⟨_, rfl⟩
  have HNG := Lib.hid hng
  have HC := Lib.hid hc
  clear hc hng
  go_enter Try.func34, Try.ntmps34
  go_upto_region 2 with fail
  go_cut [23] (fun s wx => s = .bool neg ∧ SetAt w wx false (.slice none 0 0) (.slice none 0 0) [])
  case first =>
    by_cases h1 : i < l.length
    · obtain ⟨g, rfl, e1⟩ := HC.out.at (ns_at l i h1)
      have l1 : (i : Int) < (l.length : Int) := by omega
      have hgl := block_lt_of_cell e1
      have n1 : g ≠ w.heap.size := Nat.ne_of_lt hgl
      have n2 : g ≠ w.heap.size + 1 := by have : g < w.heap.size := hgl; omega
      have q1 : (((l[i] : Nat) : Int) == 94) = neg := by
        rw [HNG.out, Bool.eq_iff_iff, beq_iff_eq, decide_eq_true_eq, head_at]
        exact ⟨fun h => ⟨h1, by omega⟩, fun ⟨_, h⟩ => by omega⟩
      go_wp2
      go_meet
      case rel => exact ⟨rfl, set_start w⟩
    · have l1 : ¬ (i : Int) < (l.length : Int) := by omega
      have q1 : neg = false := by
        rw [HNG.out]; exact decide_eq_false (by rw [head_at]; rintro ⟨h, _⟩; exact h1 h)
      go_wp2
      go_meet
      case rel => exact ⟨by first | rfl | rw [q1], set_start w⟩
  case rest =>
    obtain ⟨rfl, hA⟩ := hcut
    go_upto_if 23 with fail
    go_cut [1] (fun x wx => SetIn l i neg w x wx)
    case first =>
      have c1 := hA.x.cells.2.1
      have f1 := hA.x.cells.2.2.2.2
      have HA := Lib.hid hA
      clear hA
      cases hnn : neg with
      | false =>
        have H0 := Lib.hid (set_in0 (hi := hi) (hnn ▸ HNG.out) HA.out)
        go_wp2
        go_meet
        case rel => rw [hnn]; exact H0.out
      | true =>
        have H0 := Lib.hid (set_in1 (hnn ▸ HNG.out) (HA.out.neg true))
        go_wp2
        go_meet
        case rel => rw [hnn]; exact H0.out
    case rest =>
      have HIN := Lib.hid hcut
      clear hcut hA
      go_wp2
      go_loopw [1] (fun x wr => SetIn l i neg w x wr) (fun x _ => l.length - (intOf x).toNat)
      case atStart => exact HIN.out
      case round =>
        obtain ⟨k, sp, lo, hi2, f, rfl, hk, hf, hS, hsp, hA⟩ := hrel
        obtain ⟨f, rfl⟩ : ∃ m, f = m + 1 := ⟨f - 1, by omega⟩
        obtain ⟨hX, hR, hL, hH, hne, hB⟩ := hA
        have HX := Lib.hid hX
        have HR := Lib.hid hR
        have HL := Lib.hid hL
        have HH := Lib.hid hH
        have HNE := Lib.hid hne
        have hBel := Lib.hid hB
        have HS := Lib.hid hS
        have HF := Lib.hid hf
        have hcr := Lib.hid (HC.out.below hB)
        clear hX hR hL hH hne hB hS hf
        by_cases hk1 : k < l.length
        · obtain ⟨g, rfl, e2⟩ := hcr.out.at (ns_at l k hk1)
          have l2 : (k : Int) < (l.length : Int) := by omega
          by_cases h93 : l[k] = 93
          · have HY := Lib.hid (fun a b c d => set_yes HS.out hk1 h93 HL.out HH.out hBel.out a b c d)
            rw [h93] at e2
            with_reducible refine Exists.elim (mine_slice HL.out) ?_
            intro pl el
            subst el
            with_reducible refine Exists.elim (mine_slice HH.out) ?_
            intro ph eh
            subst eh
            have c0 := HX.out.cells.1
            have c1 := HX.out.cells.2.1
            have c2 := HX.out.cells.2.2.1
            have c3 := HX.out.cells.2.2.2.1
            with_reducible refine Exists.elim HR.out.cells ?_
            intro pr hrd
            have r0 := hrd.1
            have r1 := hrd.2.1
            have r2 := hrd.2.2.1
            have r3 := hrd.2.2.2.1
            have f0 := hrd.2.2.2.2.1
            have f1 := hrd.2.2.2.2.2.1
            have f2 := hrd.2.2.2.2.2.2.1
            have f3 := hrd.2.2.2.2.2.2.2
            clear hrd
            have hln := mine_len HL.out
            rw [ns_len, List.length_map] at hln
            rw [← hln] at HY
            clear hln
            go_wp2
            go_region
            all_goals go_wp2
            all_goals
              (try simp only [Exit.inBlock, Exit.then])
              refine bodyPost_ret (by simp [results, Try.results34, go_sem, r0, r1, r2, r3]; try rfl) rfl ?_
              exact (HY.out _ _ _ _).drew
          · have q2 : (((l[k] : Nat) : Int) == 93) = false := by simp; omega
            have H93 := Lib.hid (show ¬ (l.drop k).head? = some 93 by rw [head_at]; rintro ⟨_, h⟩; exact h93 h)
            have HE := Lib.hid (fun w hc => end_any (some ⟨g, 0, none⟩) l cap k (by omega) hk w hc)
            cases hee : endL (l.drop k) with
            | none =>
              rw [endV_none hee] at HE
              have HSN := Lib.hid (show setL (l.drop i) = none by rw [HS.out, setF_stop H93.out (span_none hee)]; rfl)
              with_reducible refine Exists.elim (mine_slice HL.out) ?_
              intro pl el
              subst el
              with_reducible refine Exists.elim (mine_slice HH.out) ?_
              intro ph eh
              subst eh
              have c0 := HX.out.cells.1
              have c1 := HX.out.cells.2.1
              have c2 := HX.out.cells.2.2.1
              have c3 := HX.out.cells.2.2.2.1
              with_reducible refine Exists.elim HR.out.cells ?_
              intro pr hrd
              have r0 := hrd.1
              have r1 := hrd.2.1
              have r2 := hrd.2.2.1
              have r3 := hrd.2.2.2.1
              have f0 := hrd.2.2.2.2.1
              have f1 := hrd.2.2.2.2.2.1
              have f2 := hrd.2.2.2.2.2.2.1
              have f3 := hrd.2.2.2.2.2.2.2
              clear hrd
              go_wp2_with (go_at_call 42; (with_reducible refine (HE.out _ hcr.out).mono ?_); rintro e w2 ⟨rfl, hw2⟩; (have hw2 := hw2.symm); subst hw2)
              (try simp only [Exit.inBlock, Exit.then])
              refine bodyPost_ret (by simp [results, Try.results34, go_sem, r0, r1, r2, r3]; try rfl) rfl ?_
              exact set_no HSN.out hBel.out _ _ _ _ _ _ _ _
            | some z =>
              obtain ⟨av, t⟩ := z
              rw [endV_some hee] at HE
              obtain ⟨t1, t2, t3, t4⟩ := endL_at hee
              generalize hnx : l.length - t.length = nx at HE t1 t2 t3 t4
              obtain ⟨dash, hdash⟩ : ∃ b : Bool, b = decide (t.head? = some 45) := ⟨_, rfl⟩
              have HDA := Lib.hid hdash
              have HEE := Lib.hid hee
              have HT := Lib.hid t1
              clear hdash hee t1 hnx
              go_upto_region 11 with (go_at_call 42; (with_reducible refine (HE.out _ hcr.out).mono ?_); rintro e w2 ⟨rfl, hw2⟩; (have hw2 := hw2.symm); subst hw2)
              go_cut [66] (fun s wx => s = .bool dash ∧ wr = wx)
              case first =>
                by_cases hnl : nx < l.length
                · obtain ⟨g2, e0, e3⟩ := hcr.out.at (ns_at l nx hnl)
                  cases e0
                  have l3 : (nx : Int) < (l.length : Int) := by omega
                  have q3 : (((l[nx] : Nat) : Int) == 45) = dash := by
                    rw [HDA.out, Bool.eq_iff_iff, beq_iff_eq, decide_eq_true_eq, HT.out, head_at]
                    exact ⟨fun h => ⟨hnl, by omega⟩, fun ⟨_, h⟩ => by omega⟩
                  go_wp2
                  go_meet
                  case rel => exact ⟨rfl, rfl⟩
                · have l3 : ¬ (nx : Int) < (l.length : Int) := by omega
                  have q3 : dash = false := by
                    rw [HDA.out]; exact decide_eq_false (by rw [HT.out, head_at]; rintro ⟨h, _⟩; exact hnl h)
                  go_wp2
                  go_meet
                  case rel => exact ⟨by first | rfl | rw [q3], rfl⟩
              case rest =>
                obtain ⟨rfl, rfl⟩ := hcut
                go_upto_if 66 with fail
                go_cut [9, 11] (fun s9 s11 wx => wr = wx ∧ SpanIn l i k f neg sp av s9 s11)
                case first =>
                  cases hda : dash with
                  | false =>
                    have HSP := Lib.hid (span_in1 HS.out HF.out H93.out HEE.out HT.out (of_decide_eq_false (hda ▸ HDA.out).symm) t2 t3)
                    go_wp2
                    go_meet
                    case rel => exact ⟨rfl, HSP.out⟩
                  | true =>
                    have hdd := of_decide_eq_true (hda ▸ HDA.out).symm
                    have hnl : nx < l.length := by rw [HT.out, head_at] at hdd; exact hdd.1
                    have htl := Lib.hid (show t.tail = l.drop (nx + 1) by rw [HT.out, List.tail_drop])
                    have HDD := Lib.hid hdd
                    have HE2 := Lib.hid (fun w hc => end_any (some ⟨g, 0, none⟩) l cap (nx + 1) (by omega) (by omega) w hc)
                    have hcast : ((nx + 1 : Nat) : Int) = (nx : Int) + 1 := by omega
                    rw [hcast] at HE2
                    clear hdd hcast
                    cases hee2 : endL (l.drop (nx + 1)) with
                    | none =>
                      rw [endV_none hee2] at HE2
                      have HSN := Lib.hid (show setL (l.drop i) = none by rw [HS.out, setF_stop H93.out (span_bad HEE.out HDD.out (by rw [htl.out]; exact hee2))]; rfl)
                      with_reducible refine Exists.elim (mine_slice HL.out) ?_
                      intro pl el
                      subst el
                      with_reducible refine Exists.elim (mine_slice HH.out) ?_
                      intro ph eh
                      subst eh
                      have c0 := HX.out.cells.1
                      have c1 := HX.out.cells.2.1
                      have c2 := HX.out.cells.2.2.1
                      have c3 := HX.out.cells.2.2.2.1
                      with_reducible refine Exists.elim HR.out.cells ?_
                      intro pr hrd
                      have r0 := hrd.1
                      have r1 := hrd.2.1
                      have r2 := hrd.2.2.1
                      have r3 := hrd.2.2.2.1
                      have f0 := hrd.2.2.2.2.1
                      have f1 := hrd.2.2.2.2.2.1
                      have f2 := hrd.2.2.2.2.2.2.1
                      have f3 := hrd.2.2.2.2.2.2.2
                      clear hrd
                      go_wp2_with (go_at_call 42; (with_reducible refine (HE2.out _ hcr.out).mono ?_); rintro e w2 ⟨rfl, hw2⟩; (have hw2 := hw2.symm); subst hw2)
                      (try simp only [Exit.inBlock, Exit.then])
                      refine bodyPost_ret (by simp [results, Try.results34, go_sem, r0, r1, r2, r3]; try rfl) rfl ?_
                      exact set_no HSN.out hBel.out _ _ _ _ _ _ _ _
                    | some z2 =>
                      obtain ⟨bv, u⟩ := z2
                      rw [endV_some hee2] at HE2
                      obtain ⟨v1, v2, v3, v4⟩ := endL_at hee2
                      generalize hnx2 : l.length - u.length = nx2 at HE2 v1 v2 v3 v4
                      by_cases hba : bv < av
                      · have q5 : decide ((bv : Int) < (av : Int)) = true := by simp; omega
                        have HSN := Lib.hid (show setL (l.drop i) = none by rw [HS.out, setF_stop H93.out (span_back HEE.out HDD.out (by rw [htl.out]; exact hee2) hba)]; rfl)
                        with_reducible refine Exists.elim (mine_slice HL.out) ?_
                        intro pl el
                        subst el
                        with_reducible refine Exists.elim (mine_slice HH.out) ?_
                        intro ph eh
                        subst eh
                        have c0 := HX.out.cells.1
                        have c1 := HX.out.cells.2.1
                        have c2 := HX.out.cells.2.2.1
                        have c3 := HX.out.cells.2.2.2.1
                        with_reducible refine Exists.elim HR.out.cells ?_
                        intro pr hrd
                        have r0 := hrd.1
                        have r1 := hrd.2.1
                        have r2 := hrd.2.2.1
                        have r3 := hrd.2.2.2.1
                        have f0 := hrd.2.2.2.2.1
                        have f1 := hrd.2.2.2.2.2.1
                        have f2 := hrd.2.2.2.2.2.2.1
                        have f3 := hrd.2.2.2.2.2.2.2
                        clear hrd
                        go_wp2_with (go_at_call 42; (with_reducible refine (HE2.out _ hcr.out).mono ?_); rintro e w2 ⟨rfl, hw2⟩; (have hw2 := hw2.symm); subst hw2)
                        (try simp only [Exit.inBlock, Exit.then])
                        refine bodyPost_ret (by simp [results, Try.results34, go_sem, r0, r1, r2, r3]; try rfl) rfl ?_
                        exact set_no HSN.out hBel.out _ _ _ _ _ _ _ _
                      · have q5 : decide ((bv : Int) < (av : Int)) = false := by simp; omega
                        have HSP := Lib.hid (span_in2 HS.out HF.out H93.out HEE.out HDD.out (by rw [htl.out]; exact hee2) hba v1 (by omega) v3)
                        clear v1
                        go_wp2_with (go_at_call 42; (with_reducible refine (HE2.out _ hcr.out).mono ?_); rintro e w2 ⟨rfl, hw2⟩; (have hw2 := hw2.symm); subst hw2)
                        go_meet
                        case rel => exact ⟨rfl, HSP.out⟩
                case rest =>
                  obtain ⟨rfl, bv, nx2, rfl, rfl, hN1, hN2, hN3, hSt⟩ := hcut
                  have HN := Lib.hid (show nx2 ≤ l.length ∧ (l.drop nx2).length < f ∧ k < nx2 from ⟨hN1, hN2, hN3⟩)
                  have HSTEP := Lib.hid hSt
                  have HLO := Lib.hid (fun k e => (HL.out.lt k e).1)
                  have HHI := Lib.hid (fun k e => (HH.out.lt k e).1)
                  have HW2 := Lib.hid HX.out.lt
                  have b1 : ((ns (sp.map (·.1))).length + 1) * 8 ≤ 140737488355328 := by rw [ns_len, List.length_map]; omega
                  have b2 : (ns (sp.map (·.1))).length + 1 ≤ maxLen := by rw [ns_len, List.length_map]; simp only [maxLen]; omega
                  have b3 : ((ns (sp.map (·.2))).length + 1) * 8 ≤ 140737488355328 := by rw [ns_len, List.length_map]; omega
                  have b4 : (ns (sp.map (·.2))).length + 1 ≤ maxLen := by rw [ns_len, List.length_map]; simp only [maxLen]; omega
                  clear hSt hN1 hN2 hN3 HE HC HNG HIN H93
                  go_wp2
                  refine wp_region_each2 [some 84, some 85, some 86, some 87, some 88, some 89, some 90, some 91, some 92, some 93, some 94, none, some 95, none] (J15 w wr neg lo hi2 sp av bv) (by kernel_rfl) (by kernel_rfl) (by simp [slots]) ?start ?each ?done
                  case start =>
                    intro ys
                    exact ⟨hBel.out.drew, Nat.le_refl _, HR.out, HX.out, by simp, by simp, by simp, by simp, by simp, by simp, fun _ => HL.out, by simp, by simp, by simp, by simp, by simp, by simp, fun _ => HH.out, by simp, by simp, by simp⟩
                  case each =>
                    simp only [Each2]
                    refine ⟨?o0, ?o1, ?o2, ?o3, ?o4, ?o5, ?o6, ?o7, ?o8, ?o9, ?o10, ?o11, ?o12, ?o13, trivial⟩
                    case o0 =>
                      intro d ys wx hJ hd hw hdep
                      simp only [fill, slots, List.filterMap_cons, List.filterMap_nil, id, List.foldl_cons, List.foldl_nil, Act.put, List.setIfInBounds_toArray, List.set_cons_succ, List.set_cons_zero]
                      go_wp2
                      exact ⟨_, rfl, { hJ with s84 := fun _ => rfl }⟩
                    case o1 =>
                      intro d ys wx hJ hd hw hdep
                      have h0 : d 0 = true := by simp [Deps2, Region.binds] at hdep; simp [hdep]
                      have h11 := hw 11 (by kernel_rfl)
                      have hx := hJ.x
                      rw [if_neg (by rw [h11]; simp)] at hx
                      have c2 := hx.cell2.1
                      clear hx
                      simp only [fill, slots, List.filterMap_cons, List.filterMap_nil, id, List.foldl_cons, List.foldl_nil, Act.put, List.setIfInBounds_toArray, List.set_cons_succ, List.set_cons_zero, hJ.s84 h0]
                      go_wp2
                      exact ⟨_, rfl, { hJ with s85 := fun _ => rfl }⟩
                    case o2 =>
                      intro d ys wx hJ hd hw hdep
                      simp only [fill, slots, List.filterMap_cons, List.filterMap_nil, id, List.foldl_cons, List.foldl_nil, Act.put, List.setIfInBounds_toArray, List.set_cons_succ, List.set_cons_zero]
                      go_wp2
                      exact ⟨_, rfl, { hJ with s86 := fun _ => rfl }⟩
                    case o3 =>
                      intro d ys wx hJ hd hw hdep
                      have h0 : d 2 = true := by simp [Deps2, Region.binds] at hdep; simp [hdep]
                      simp only [fill, slots, List.filterMap_cons, List.filterMap_nil, id, List.foldl_cons, List.foldl_nil, Act.put, List.setIfInBounds_toArray, List.set_cons_succ, List.set_cons_zero, hJ.s86 h0]
                      go_wp2
                      exact ⟨_, rfl, { hJ.grown (grown_alloc _ _) with s87 := fun _ => ⟨_, rfl, hJ.size, by simp⟩ }⟩
                    case o4 =>
                      intro d ys wx hJ hd hw hdep
                      have h1 : d 1 = true := by simp [Deps2, Region.binds] at hdep; simp [hdep]
                      have h3 : d 3 = true := by simp [Deps2, Region.binds] at hdep; simp [hdep]
                      have h11 := hw 11 (by kernel_rfl)
                      have hsz := hJ.x.lt
                      with_reducible refine Exists.elim (hJ.s87 h3).out ?_
                      intro g87 hh
                      have eg := hh.1
                      have hcell := hh.2.2
                      clear hh
                      have hMl := hJ.l hd
                      simp only [fill, slots, List.filterMap_cons, List.filterMap_nil, id, List.foldl_cons, List.foldl_nil, Act.put, List.setIfInBounds_toArray, List.set_cons_succ, List.set_cons_zero, hJ.s85 h1, eg]
                      go_wp2_with (at_builtin; (refine append_one rfl _ _ 42 rfl (w.heap.size + 2) 3 (.int .i64 0) 8 Try.underlying42 infoInt rfl lo (ns (sp.map (·.1))) rfl hMl g87 (.int .i64 (av : Int)) rfl hcell rfl b1 b2 hsz ?_); intro g cap2 w2 hM2 hgr hat hlt2)
                      exact ⟨_, rfl, hJ.app88 h11 hd HNE.out HLO.out HHI.out hM2 hgr (hat.elim (fun h => .inl h.symm) (fun h => .inr (by rw [h]; rfl)))⟩
                    case o5 =>
                      intro d ys wx hJ hd hw hdep
                      simp only [fill, slots, List.filterMap_cons, List.filterMap_nil, id, List.foldl_cons, List.foldl_nil, Act.put, List.setIfInBounds_toArray, List.set_cons_succ, List.set_cons_zero]
                      go_wp2
                      exact ⟨_, rfl, { hJ with s89 := fun _ => rfl }⟩
                    case o6 =>
                      intro d ys wx hJ hd hw hdep
                      have h0 : d 5 = true := by simp [Deps2, Region.binds] at hdep; simp [hdep]
                      have h13 := hw 13 (by kernel_rfl)
                      have hx := hJ.x
                      have e2 : (if d 13 = true then ys 93 else hi2) = hi2 := if_neg (by rw [h13]; simp)
                      rw [e2] at hx
                      have c2 := hx.cell3.1
                      clear hx e2
                      simp only [fill, slots, List.filterMap_cons, List.filterMap_nil, id, List.foldl_cons, List.foldl_nil, Act.put, List.setIfInBounds_toArray, List.set_cons_succ, List.set_cons_zero, hJ.s89 h0]
                      go_wp2
                      exact ⟨_, rfl, { hJ with s90 := fun _ => rfl }⟩
                    case o7 =>
                      intro d ys wx hJ hd hw hdep
                      simp only [fill, slots, List.filterMap_cons, List.filterMap_nil, id, List.foldl_cons, List.foldl_nil, Act.put, List.setIfInBounds_toArray, List.set_cons_succ, List.set_cons_zero]
                      go_wp2
                      exact ⟨_, rfl, { hJ with s91 := fun _ => rfl }⟩
                    case o8 =>
                      intro d ys wx hJ hd hw hdep
                      have h0 : d 7 = true := by simp [Deps2, Region.binds] at hdep; simp [hdep]
                      simp only [fill, slots, List.filterMap_cons, List.filterMap_nil, id, List.foldl_cons, List.foldl_nil, Act.put, List.setIfInBounds_toArray, List.set_cons_succ, List.set_cons_zero, hJ.s91 h0]
                      go_wp2
                      exact ⟨_, rfl, { hJ.grown (grown_alloc _ _) with s92 := fun _ => ⟨_, rfl, hJ.size, by simp⟩ }⟩
                    case o9 =>
                      intro d ys wx hJ hd hw hdep
                      have h1 : d 6 = true := by simp [Deps2, Region.binds] at hdep; simp [hdep]
                      have h3 : d 8 = true := by simp [Deps2, Region.binds] at hdep; simp [hdep]
                      have h13 := hw 13 (by kernel_rfl)
                      have hsz := hJ.x.lt
                      with_reducible refine Exists.elim (hJ.s92 h3).out ?_
                      intro g87 hh
                      have eg := hh.1
                      have hcell := hh.2.2
                      clear hh
                      have hMl := hJ.h hd
                      simp only [fill, slots, List.filterMap_cons, List.filterMap_nil, id, List.foldl_cons, List.foldl_nil, Act.put, List.setIfInBounds_toArray, List.set_cons_succ, List.set_cons_zero, hJ.s90 h1, eg]
                      go_wp2_with (at_builtin; (refine append_one rfl _ _ 42 rfl (w.heap.size + 2) 3 (.int .i64 0) 8 Try.underlying42 infoInt rfl hi2 (ns (sp.map (·.2))) rfl hMl g87 (.int .i64 (bv : Int)) rfl hcell rfl b3 b4 hsz ?_); intro g cap2 w2 hM2 hgr hat hlt2)
                      exact ⟨_, rfl, hJ.app93 h13 hd HNE.out HLO.out HHI.out hM2 hgr (hat.elim (fun h => .inl h.symm) (fun h => .inr (by rw [h]; rfl)))⟩
                    case o10 =>
                      intro d ys wx hJ hd hw hdep
                      simp only [fill, slots, List.filterMap_cons, List.filterMap_nil, id, List.foldl_cons, List.foldl_nil, Act.put, List.setIfInBounds_toArray, List.set_cons_succ, List.set_cons_zero]
                      go_wp2
                      exact ⟨_, rfl, { hJ with s94 := fun _ => rfl }⟩
                    case o11 =>
                      intro d ys wx hJ hd hw hdep
                      have h4 : d 4 = true := by simp [Deps2, Region.binds] at hdep; simp [hdep]
                      have h10 : d 10 = true := by simp [Deps2, Region.binds] at hdep; simp [hdep]
                      have c2 := hJ.x.cell2.1
                      have c3 := hJ.x.cell2.2
                      have hst := hJ.st2 h4 HW2.out
                      with_reducible refine Exists.elim (mine_slice (hJ.s88 h4)) ?_
                      intro pv ev
                      rw [ev] at hst
                      simp only [fill, slots, List.filterMap_cons, List.filterMap_nil, id, List.foldl_cons, List.foldl_nil, Act.put, List.setIfInBounds_toArray, List.set_cons_succ, List.set_cons_zero, hJ.s94 h10, ev]
                      go_wp2
                      exact ⟨rfl, undef, hst⟩
                    case o12 =>
                      intro d ys wx hJ hd hw hdep
                      simp only [fill, slots, List.filterMap_cons, List.filterMap_nil, id, List.foldl_cons, List.foldl_nil, Act.put, List.setIfInBounds_toArray, List.set_cons_succ, List.set_cons_zero]
                      go_wp2
                      exact ⟨_, rfl, { hJ with s95 := fun _ => rfl }⟩
                    case o13 =>
                      intro d ys wx hJ hd hw hdep
                      have h4 : d 9 = true := by simp [Deps2, Region.binds] at hdep; simp [hdep]
                      have h10 : d 12 = true := by simp [Deps2, Region.binds] at hdep; simp [hdep]
                      have c2 := hJ.x.cell3.1
                      have c3 := hJ.x.cell3.2
                      have hst := hJ.st3 h4 HW2.out
                      with_reducible refine Exists.elim (mine_slice (hJ.s93 h4)) ?_
                      intro pv ev
                      rw [ev] at hst
                      simp only [fill, slots, List.filterMap_cons, List.filterMap_nil, id, List.foldl_cons, List.foldl_nil, Act.put, List.setIfInBounds_toArray, List.set_cons_succ, List.set_cons_zero, hJ.s95 h10, ev]
                      go_wp2
                      exact ⟨rfl, undef, hst⟩
                  case done =>
                    intro d ys wx hJ hd
                    have HAT := Lib.hid (hJ.end (fun i hi => hd i hi))
                    clear hJ hd
                    simp only [fill, slots, List.filterMap_cons, List.filterMap_nil, id, List.foldl_cons, List.foldl_nil, Act.put, List.setIfInBounds_toArray, List.set_cons_succ, List.set_cons_zero]
                    go_wp2
                    go_roundw
                    case rel =>
                      exact ⟨_, _, _, _, f, rfl, HN.out.1, HN.out.2.1, HSTEP.out, by have := HN.out; simp; omega, HAT.out⟩
                    case measure => have := HN.out; simp [intOf]; omega
        · have l2 : ¬ (k : Int) < (l.length : Int) := by omega
          have hee : endL (l.drop k) = none := by rw [List.drop_of_length_le (by omega)]; rfl
          have H93 := Lib.hid (show ¬ (l.drop k).head? = some 93 by rw [head_at]; rintro ⟨h, _⟩; exact hk1 h)
          have HE := Lib.hid (fun w hc => end_any a l cap k (by omega) hk w hc)
          rw [endV_none hee] at HE
          have HSN := Lib.hid (show setL (l.drop i) = none by rw [HS.out, setF_stop H93.out (span_none hee)]; rfl)
          with_reducible refine Exists.elim (mine_slice HL.out) ?_
          intro pl el
          subst el
          with_reducible refine Exists.elim (mine_slice HH.out) ?_
          intro ph eh
          subst eh
          have c0 := HX.out.cells.1
          have c1 := HX.out.cells.2.1
          have c2 := HX.out.cells.2.2.1
          have c3 := HX.out.cells.2.2.2.1
          with_reducible refine Exists.elim HR.out.cells ?_
          intro pr hrd
          have r0 := hrd.1
          have r1 := hrd.2.1
          have r2 := hrd.2.2.1
          have r3 := hrd.2.2.2.1
          have f0 := hrd.2.2.2.2.1
          have f1 := hrd.2.2.2.2.2.1
          have f2 := hrd.2.2.2.2.2.2.1
          have f3 := hrd.2.2.2.2.2.2.2
          clear hrd
          go_wp2_with (go_at_call 42; (with_reducible refine (HE.out _ hcr.out).mono ?_); rintro e w2 ⟨rfl, hw2⟩; (have hw2 := hw2.symm); subst hw2)
          (try simp only [Exit.inBlock, Exit.then])
          refine bodyPost_ret (by simp [results, Try.results34, go_sem, r0, r1, r2, r3]; try rfl) rfl ?_
          exact set_no HSN.out hBel.out _ _ _ _ _ _ _ _
theorem set_none (a : Option Addr) (l : List Nat) (cap i : Nat) (hl : l.length ≤ 1000) (hi : i ≤ l.length) (h : setL (l.drop i) = none) (w : World) (hc : Cells w a (ns l)) :
    Calls Try.prog 34 #[.slice a l.length cap, .int .i64 (i : Int)] w fun e w' => ∃ (nb : Bool) (p q : Option Addr × Nat × Nat) (n : Value), e = .returned (.tuple #[.agg #[.int .i64 3, .bool nb, .slice p.1 p.2.1 p.2.2, .slice q.1 q.2.1 q.2.2], n, .bool false]) ∧ Below w.heap.size w w' := by
  refine (set_any a l cap i hl hi w hc).mono ?_
  rintro e w' ⟨hb, hm⟩
  rw [h] at hm
  obtain ⟨nb, p, q, n, rfl⟩ := hm
  exact ⟨nb, p, q, n, rfl, hb⟩
theorem set_some (a : Option Addr) (l : List Nat) (cap i : Nat) (hl : l.length ≤ 1000) (hi : i ≤ l.length) (it : It) (t : List Nat) (h : setL (l.drop i) = some (it, t)) (w : World) (hc : Cells w a (ns l)) :
    Calls Try.prog 34 #[.slice a l.length cap, .int .i64 (i : Int)] w fun e w' => ∃ (p q : Option Addr × Nat × Nat), e = .returned (.tuple #[.agg #[.int .i64 (it.kind : Int), .bool it.neg, .slice p.1 p.2.1 p.2.2, .slice q.1 q.2.1 q.2.2], .int .i64 ((l.length - t.length - 1 : Nat) : Int), .bool true]) ∧
      Mine w' 0 3 (.slice p.1 p.2.1 p.2.2) (ns (it.sp.map (·.1))) ∧ Mine w' 0 3 (.slice q.1 q.2.1 q.2.2) (ns (it.sp.map (·.2))) ∧ Below w.heap.size w w' := by
  refine (set_any a l cap i hl hi w hc).mono ?_
  rintro e w' ⟨hb, hm⟩
  rw [h] at hm
  obtain ⟨x, rfl, lo, hi2, rfl, h1, h2⟩ := hm
  obtain ⟨p, rfl⟩ := mine_slice h1
  obtain ⟨q, rfl⟩ := mine_slice h2
  exact ⟨p, q, rfl, h1, h2, hb⟩
end Go.Proofs.Ytfponjonbhnmlaa.RefGlob
