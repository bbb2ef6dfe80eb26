/-
  What package glob reads of signs: bare, end, item.
-/
import Derived.Test.YtfponjonbhnmlaaGlobMathB
import Derived.Test.YtfponjonbhnmlaaKeysA
import Derived.Deep.QuietTactic
import Derived.RegionTactic
namespace Go.Proofs.Ytfponjonbhnmlaa.Glob
open Go.RowKit
open RuneM RefRune Own RefKeys GlobM Keys

/-- v is a slice of signs, in a block below B -/
def Sgn (B : Nat) (w : World) (v : Value) (L : List Sg) : Prop :=
  ∃ a cap, v = .slice a L.length cap ∧ L.length ≤ cap ∧ (L = [] ∨ ∃ g off, a = some ⟨g, off, none⟩ ∧ g < B ∧ ∀ j x, L[j]? = some x → w.cell? ⟨g, off + 2 * j, none⟩ = some (.int .i32 (x.1 : Int)) ∧ w.cell? ⟨g, off + 2 * j + 1, none⟩ = some (.bool x.2))
theorem Sgn.below {B : Nat} {w w' : World} {v : Value} {L : List Sg} (h : Sgn B w v L) (hb : Below B w w') : Sgn B w' v L := by
  obtain ⟨a, cap, hv, hc, hl | ⟨g, off, ha, hg, hx⟩⟩ := h
  · exact ⟨a, cap, hv, hc, .inl hl⟩
  · refine ⟨a, cap, hv, hc, .inr ⟨g, off, ha, hg, fun j x hj => ?_⟩⟩
    have h1 := hx j x hj
    rw [hb.cell (p := ⟨g, _, none⟩) hg, hb.cell (p := ⟨g, _, none⟩) hg]
    exact h1
theorem Sgn.nil {B : Nat} {w : World} {v : Value} (h : Sgn B w v []) : ∃ a cap, v = .slice a 0 cap := by
  obtain ⟨a, cap, hv, _⟩ := h; exact ⟨a, cap, hv⟩
theorem Sgn.none (B : Nat) (w : World) (a : Option Addr) (cap : Nat) : Sgn B w (.slice a 0 cap) [] := ⟨a, cap, rfl, Nat.zero_le _, .inl rfl⟩
/-- the first sign, and what is behind it -/
theorem Sgn.cons {B : Nat} {w : World} {v : Value} {s : Sg} {L : List Sg} (h : Sgn B w v (s :: L)) : ∃ g off cap ad, v = .slice (some ⟨g, off, .none⟩) (L.length + 1) cap ∧ L.length + 1 ≤ cap ∧ w.cell? ⟨g, off, .none⟩ = some (.int .i32 (s.1 : Int)) ∧ w.cell? ⟨g, off + 1, .none⟩ = some (.bool s.2) ∧ g < B ∧
    (if cap = 1 then some ({ block := g, off := off } : Addr) else some { block := g, off := off + 2 }) = ad ∧ ∀ w', Below B w w' → Sgn B w' (.slice ad L.length (cap - 1)) L := by
  obtain ⟨a, cap, hv, hc, hl | ⟨g, off, rfl, hg, hx⟩⟩ := h
  · cases hl
  · have h0 := hx 0 s rfl
    refine ⟨g, off, cap, _, hv, hc, h0.1, h0.2, hg, rfl, fun w' hb => Sgn.below ⟨_, _, rfl, by simp at hc; omega, ?_⟩ hb⟩
    by_cases h1 : cap = 1
    · left; simp [h1] at hc; exact hc
    right
    rw [if_neg h1]
    refine ⟨g, off + 2, rfl, hg, fun j x hj => ?_⟩
    have h1 := hx (j + 1) x (by simpa using hj)
    rw [show off + 2 + 2 * j = off + 2 * (j + 1) by omega]; exact h1
theorem bare_any (s : Sg) (c : Nat) (ci : Int) (hci : ci = (c : Int)) (w : World) : Calls Try.prog 40 #[.agg #[.int .i32 (s.1 : Int), .bool s.2], .int .i32 ci] w fun e w' => e = .returned (.bool (bare s c)) ∧ Below w.heap.size w w' := by
  subst hci
  have HB : Hid (bare s c = (decide (s.1 = c) && !s.2)) := rfl
  by_cases h : s.1 = c
  · have d : ((s.1 : Int) == (c : Int)) = true := by simp; omega
    go_enter Try.func40, Try.ntmps40
    go_wp2
    go_ret
    exact ⟨ret_bool (by rw [HB.out]; simp [h]), (Below.refl _ _).alloc (Nat.le_refl _) _⟩
  · have d : ((s.1 : Int) == (c : Int)) = false := by simp; omega
    go_enter Try.func40, Try.ntmps40
    go_wp2
    go_ret
    exact ⟨ret_bool (by rw [HB.out]; simp [h]), (Below.refl _ _).alloc (Nat.le_refl _) _⟩
/-- what end answers -/
def EndSays (B : Nat) (L : List Sg) (w : World) (e : Ending) (w' : World) : Prop :=
  Below w.heap.size w w' ∧ match endS L with
  | none => e = .returned (.tuple #[.int .i32 0, .slice none 0 0, .bool false])
  | some (a, T) => ∃ u, e = .returned (.tuple #[.int .i32 (a : Int), u, .bool true]) ∧ Sgn B w' u T
theorem end_no {B : Nat} {L : List Sg} {w w' : World} (h : endS L = none) (hb : Below w.heap.size w w') : EndSays B L w (.returned (.tuple #[.int .i32 0, .slice none 0 0, .bool false])) w' := by
  refine ⟨hb, ?_⟩; rw [h]
theorem end_is {B : Nat} {L : List Sg} {w w' : World} {a : Nat} {T : List Sg} {u : Value} (h : endS L = some (a, T)) (hb : Below w.heap.size w w') (hu : Sgn B w' u T) : EndSays B L w (.returned (.tuple #[.int .i32 (a : Int), u, .bool true])) w' := by
  refine ⟨hb, ?_⟩; rw [h]; exact ⟨u, rfl, hu⟩
set_option maxHeartbeats 1000000 in
theorem end_any (B : Nat) (L : List Sg) (v : Value) (hl : L.length ≤ 1000000) (w : World) (hB : B ≤ w.heap.size) (h : Sgn B w v L) : Calls Try.prog 52 #[v] w (EndSays B L w) := by
  cases L with
  | nil =>
    obtain ⟨a, cap, rfl⟩ := h.nil
    have HE := Lib.hid (fun w' => end_no (B := B) (L := []) (w := w) (w' := w') rfl)
    clear h
    go_enter Try.func52, Try.ntmps52
    go_wp2
    go_ret3
    exact HE.out _ (Below.refl _ _)
  | cons s T =>
    obtain ⟨g, off, cap, ad, rfl, hcap, c0, c1, hg, hif, hS⟩ := h.cons
    have hg := Nat.lt_of_lt_of_le hg hB
    have HS := Lib.hid hS
    have HC0 := Lib.hid c0
    have HC1 := Lib.hid c1
    clear h hS
    simp only [List.length_cons] at hl
    have n0 : (((T.length : Nat) : Int) + 1 == 0) = false := by simp; omega
    by_cases b1 : bare s 93 = true
    · have HE := Lib.hid (fun w' => end_no (B := B) (L := s :: T) (w := w) (w' := w') (by simp [endS, b1]))
      have HB := Lib.hid (fun w => bare_any s 93 93 rfl w)
      rw [b1] at HB
      clear b1
      go_enter Try.func52, Try.ntmps52
      go_wp2_with fail
      go_at_call 40
      with_reducible refine (HB.out _).mono ?_
      rintro e w1 ⟨rfl, hb⟩
      have HB1 := Lib.hid hb
      clear hb
      go_wp2
      go_ret3
      exact HE.out _ HB1.out
    · have b1' : bare s 93 = false := by simpa using b1
      have HB := Lib.hid (fun w => bare_any s 93 93 rfl w)
      rw [b1'] at HB
      have HBB := Lib.hid (fun w => bare_any s 45 45 rfl w)
      by_cases b2 : bare s 45 = true
      · have HE := Lib.hid (fun w' => end_no (B := B) (L := s :: T) (w := w) (w' := w') (by simp [endS, b2]))
        rw [b2] at HBB
        clear b1 b2 b1'
        go_enter Try.func52, Try.ntmps52
        go_wp2_with fail
        go_at_call 40
        with_reducible refine (HB.out _).mono ?_
        rintro e w1 ⟨rfl, hb⟩
        have HB1 := Lib.hid hb
        have d0 : w1.cell? ⟨g, off, none⟩ = some (.int .i32 (s.1 : Int)) := by rw [hb.cell hg]; exact HC0.out
        have d1 : w1.cell? ⟨g, off + 1, none⟩ = some (.bool s.2) := by rw [hb.cell hg]; exact HC1.out
        clear hb c0 c1
        go_wp2_with fail
        go_at_call 40
        with_reducible refine (HBB.out _).mono ?_
        rintro e w2 ⟨rfl, hb⟩
        have HB2 := Lib.hid hb
        clear hb
        go_wp2
        go_ret3
        exact HE.out _ (HB1.out.trans (HB2.out.mono HB1.out.size))
      · have b2' : bare s 45 = false := by simpa using b2
        rw [b2'] at HBB
        have HE := Lib.hid (fun w' u => end_is (B := B) (L := s :: T) (w := w) (w' := w') (a := s.1) (T := T) (u := u) (by simp [endS, b1', b2']))
        clear b1 b2 b1' b2'
        go_enter Try.func52, Try.ntmps52
        go_wp2_with fail
        go_at_call 40
        with_reducible refine (HB.out _).mono ?_
        rintro e w1 ⟨rfl, hb⟩
        have HB1 := Lib.hid hb
        have d0 : w1.cell? ⟨g, off, none⟩ = some (.int .i32 (s.1 : Int)) := by rw [hb.cell hg]; exact HC0.out
        have d1 : w1.cell? ⟨g, off + 1, none⟩ = some (.bool s.2) := by rw [hb.cell hg]; exact HC1.out
        clear hb c0 c1
        go_wp2_with fail
        go_at_call 40
        with_reducible refine (HBB.out _).mono ?_
        rintro e w2 ⟨rfl, hb⟩
        have HB2 := Lib.hid (HB1.out.trans (hb.mono HB1.out.size))
        have f0 : w2.cell? ⟨g, off, none⟩ = some (.int .i32 (s.1 : Int)) := by rw [HB2.out.cell hg]; exact HC0.out
        clear hb HB1 d0 d1
        go_wp2
        go_quiet (fail)
        have HS2 := HS.out _ ((below_drewN HB2.out nq).mono hB)
        have HS3 := Lib.hid HS2
        clear HS2 HS
        go_wp2
        go_ret3
        exact HE.out _ _ (below_drewN HB2.out _) HS3.out
/-- an own block with two cells, and with three -/
def Two (w : World) (k : Nat) (t : TypeId) (a b : Value) : Prop := w.heap[k]? = some (.cells #[a, b] t (0, 0))
theorem Two.facts {w : World} {k : Nat} {t : TypeId} {a b : Value} (h : Two w k t a b) : w.cell? ⟨k, 0, none⟩ = some a ∧ w.cell? ⟨k, 1, none⟩ = some b ∧ w.frozen? ⟨k, 0, none⟩ = false ∧ w.frozen? ⟨k, 1, none⟩ = false := by
  unfold Two at h
  refine ⟨?_, ?_, ?_, ?_⟩ <;> simp [World.cell?, World.frozen?, h]
theorem Two.below {w w' : World} {k B : Nat} {t : TypeId} {a b : Value} (h : Two w k t a b) (hb : Below B w w') (hk : k < B) : Two w' k t a b := by
  unfold Two at h ⊢; rw [hb.block k hk]; exact h
def Three (w : World) (k : Nat) (t : TypeId) (a b c : Value) : Prop := w.heap[k]? = some (.cells #[a, b, c] t (0, 0))
theorem Three.facts {w : World} {k : Nat} {t : TypeId} {a b c : Value} (h : Three w k t a b c) : w.cell? ⟨k, 0, none⟩ = some a ∧ w.cell? ⟨k, 1, none⟩ = some b ∧ w.cell? ⟨k, 2, none⟩ = some c ∧ w.frozen? ⟨k, 0, none⟩ = false ∧ w.frozen? ⟨k, 1, none⟩ = false ∧ w.frozen? ⟨k, 2, none⟩ = false := by
  unfold Three at h
  refine ⟨?_, ?_, ?_, ?_, ?_, ?_⟩ <;> simp [World.cell?, World.frozen?, h]
theorem Three.below {w w' : World} {k B : Nat} {t : TypeId} {a b c : Value} (h : Three w k t a b c) (hb : Below B w w') (hk : k < B) : Three w' k t a b c := by
  unfold Three at h ⊢; rw [hb.block k hk]; exact h
theorem heap_new (w : World) (o : Obj) : (w.alloc o).heap[w.heap.size]? = some o := by
  show (w.heap.push o)[w.heap.size]? = some o
  simp
theorem size_alloc (w : World) (o : Obj) : (w.alloc o).heap.size = w.heap.size + 1 := by
  show (w.heap.push o).size = _; simp
theorem bel_alloc (w : World) (o : Obj) : Below w.heap.size w (w.alloc o) := (Below.refl _ _).alloc (Nat.le_refl _) o
/-- what item answers -/
def ItemSays (B : Nat) (L : List Sg) (w : World) (e : Ending) (w' : World) : Prop :=
  Below w.heap.size w w' ∧ match spanS L with
  | none => e = .returned (.tuple #[.agg #[.int .i32 0, .int .i32 0], .slice none 0 0, .bool false])
  | some (x, T) => ∃ u, e = .returned (.tuple #[.agg #[.int .i32 (x.1 : Int), .int .i32 (x.2 : Int)], u, .bool true]) ∧ Sgn B w' u T
theorem item_no {B : Nat} {L : List Sg} {w w' : World} (h : spanS L = none) (hb : Below w.heap.size w w') : ItemSays B L w (.returned (.tuple #[.agg #[.int .i32 0, .int .i32 0], .slice none 0 0, .bool false])) w' := by
  refine ⟨hb, ?_⟩; rw [h]
theorem item_is {B : Nat} {L : List Sg} {w w' : World} {x : Nat × Nat} {T : List Sg} {u : Value} (h : spanS L = some (x, T)) (hb : Below w.heap.size w w') (hu : Sgn B w' u T) : ItemSays B L w (.returned (.tuple #[.agg #[.int .i32 (x.1 : Int), .int .i32 (x.2 : Int)], u, .bool true])) w' := by
  refine ⟨hb, ?_⟩; rw [h]; exact ⟨u, rfl, hu⟩
set_option maxHeartbeats 1000000 in
theorem item_any (B : Nat) (L : List Sg) (v : Value) (hl : L.length ≤ 1000000) (w : World) (hB : B ≤ w.heap.size) (h : Sgn B w v L) : Calls Try.prog 50 #[v] w (ItemSays B L w) := by
  have HX := Lib.hid (fun w hB (h : Sgn B w v L) => end_any B L v hl w hB h)
  have HV := Lib.hid h
  have HT : Hid (Two (w.alloc (Obj.cells #[Value.int IntKind.i32 0, Value.int IntKind.i32 0] 77)) w.heap.size 77 (.int .i32 0) (.int .i32 0)) := heap_new w _
  have HA := Lib.hid (bel_alloc w (Obj.cells #[Value.int IntKind.i32 0, Value.int IntKind.i32 0] 77))
  cases he : endS L with
  | none =>
    have HE := Lib.hid (fun w' => item_no (B := B) (L := L) (w := w) (w' := w') (by simp [spanS, he]))
    go_enter Try.func50, Try.ntmps50
    go_wp2_with fail
    go_at_call 52
    with_reducible refine (HX.out _ (by rw [size_alloc]; omega) (HV.out.below ((bel_alloc _ _).mono hB))).mono ?_
    rintro e w1 ⟨hb, hm⟩
    rw [he] at hm
    subst hm
    have HT1 := Lib.hid (HT.out.below hb (by rw [size_alloc]; omega))
    have HB1 := Lib.hid (HA.out.trans (hb.mono (by rw [size_alloc]; omega)))
    obtain ⟨t0, t1, t2, t3⟩ := HT1.out.facts
    clear hb he h HT HA HX
    go_wp2
    (try simp only [Exit.inBlock, Exit.then])
    refine bodyPost_ret (by simp [results, Try.results50, go_sem, t0, t1, t2, t3]; try rfl) rfl ?_
    exact HE.out _ ((HB1.out.setCell (Nat.le_refl _) _).setCell (Nat.le_refl _) _)
  | some y =>
    obtain ⟨a, T⟩ := y
    have hTl := endS_less he
    cases T with
    | nil =>
      have HE := Lib.hid (fun w' u => item_is (B := B) (L := L) (w := w) (w' := w') (u := u) (x := (a, a)) (T := []) (by simp [spanS, he, dash]))
      go_enter Try.func50, Try.ntmps50
      go_wp2_with fail
      go_at_call 52
      with_reducible refine (HX.out _ (by rw [size_alloc]; omega) (HV.out.below ((bel_alloc _ _).mono hB))).mono ?_
      rintro e w1 ⟨hb, hm⟩
      rw [he] at hm
      obtain ⟨u, rfl, hu⟩ := hm
      obtain ⟨ua, ucap, rfl⟩ := hu.nil
      have HU := Lib.hid hu
      have HT1 := Lib.hid (HT.out.below hb (by rw [size_alloc]; omega))
      have HB1 := Lib.hid (HA.out.trans (hb.mono (by rw [size_alloc]; omega)))
      obtain ⟨t0, t1, t2, t3⟩ := HT1.out.facts
      clear hb he h HT HA HX hu
      go_wp2
      (try simp only [Exit.inBlock, Exit.then])
      refine bodyPost_ret (by simp [results, Try.results50, go_sem, t0, t1, t2, t3]; try rfl) rfl ?_
      have HB2 := Lib.hid ((HB1.out.setCell (Nat.le_refl _) (.int .i32 (a : Int)) (p := ⟨w.heap.size, 0, none⟩)).setCell (Nat.le_refl _) (.int .i32 (a : Int)) (p := ⟨w.heap.size, 1, none⟩))
      exact HE.out _ _ HB2.out (Sgn.none _ _ _ _)
    | cons s T =>
      by_cases hd : bare s 45 = true
      · have HX2 := Lib.hid (fun w hB u (h : Sgn B w u T) => end_any B T u (by simp at hTl; omega) w hB h)
        have HBA := Lib.hid (fun w => bare_any s 45 45 rfl w)
        rw [hd] at HBA
        cases he2 : endS T with
        | none =>
          have HE := Lib.hid (fun w' => item_no (B := B) (L := L) (w := w) (w' := w') (by simp [spanS, he, dash, hd, he2]))
          go_enter Try.func50, Try.ntmps50
          go_wp2_with fail
          go_at_call 52
          with_reducible refine (HX.out _ (by rw [size_alloc]; omega) (HV.out.below ((bel_alloc _ _).mono hB))).mono ?_
          rintro e w1 ⟨hb, hm⟩
          rw [he] at hm
          obtain ⟨u, rfl, hu⟩ := hm
          have HT1 := Lib.hid (HT.out.below hb (by rw [size_alloc]; omega))
          have HB1 := Lib.hid (HA.out.trans (hb.mono (by rw [size_alloc]; omega)))
          obtain ⟨g, off, cap, ad, rfl, hcap, c0, c1, hg, hif, hS⟩ := hu.cons
          have ht1 : w.heap.size < w1.heap.size := by have := hb.size; rw [size_alloc] at this; omega
          have n0 : (((T.length : Nat) : Int) + 1 == 0) = false := by simp; omega
          have HU0 := Lib.hid hu
          clear hb he h HT HA HX hu hd
          go_wp2_with fail
          go_at_call 40
          with_reducible refine (HBA.out _).mono ?_
          rintro e w2 ⟨rfl, hb⟩
          have HT2 := Lib.hid (HT1.out.below hb ht1)
          have ht2 : w.heap.size < w2.heap.size := Nat.lt_of_lt_of_le ht1 hb.size
          have HB2 := Lib.hid (HB1.out.trans (hb.mono HB1.out.size))
          have HS2 := hS _ (hb.mono (Nat.le_trans hB HB1.out.size))
          have HU1 := Lib.hid (HU0.out.below (hb.mono (Nat.le_trans hB HB1.out.size)))
          have hB3 : B ≤ w2.heap.size := Nat.le_trans hB HB2.out.size
          have hTL : T.length + 1 ≤ 1000000 := by simp at hTl; omega
          clear hb HB1 HBA hS HT1 HU0
          have HS3 := Lib.hid HS2
          clear HS2
          go_wp2_with fail
          go_at_call 52
          with_reducible refine (HX2.out _ hB3 _ HS3.out).mono ?_
          rintro e w3 ⟨hb, hm⟩
          rw [he2] at hm
          subst hm
          have HT3 := Lib.hid (HT2.out.below hb ht2)
          have HB3 := Lib.hid (HB2.out.trans (hb.mono HB2.out.size))
          obtain ⟨t0, t1, t2, t3⟩ := HT3.out.facts
          clear hb he2 HT2 HX2
          go_wp2
          (try simp only [Exit.inBlock, Exit.then])
          refine bodyPost_ret (by simp [results, Try.results50, go_sem, t0, t1, t2, t3]; try rfl) rfl ?_
          exact HE.out _ ((HB3.out.setCell (Nat.le_refl _) _).setCell (Nat.le_refl _) _)
        | some z =>
          obtain ⟨b, U⟩ := z
          by_cases hba : b < a
          · have HE := Lib.hid (fun w' => item_no (B := B) (L := L) (w := w) (w' := w') (by simp [spanS, he, dash, hd, he2, hba]))
            have q1 : decide ((b : Int) < (a : Int)) = true := by simp; omega
            go_enter Try.func50, Try.ntmps50
            go_wp2_with fail
            go_at_call 52
            with_reducible refine (HX.out _ (by rw [size_alloc]; omega) (HV.out.below ((bel_alloc _ _).mono hB))).mono ?_
            rintro e w1 ⟨hb, hm⟩
            rw [he] at hm
            obtain ⟨u, rfl, hu⟩ := hm
            have HT1 := Lib.hid (HT.out.below hb (by rw [size_alloc]; omega))
            have HB1 := Lib.hid (HA.out.trans (hb.mono (by rw [size_alloc]; omega)))
            obtain ⟨g, off, cap, ad, rfl, hcap, c0, c1, hg, hif, hS⟩ := hu.cons
            have ht1 : w.heap.size < w1.heap.size := by have := hb.size; rw [size_alloc] at this; omega
            have n0 : (((T.length : Nat) : Int) + 1 == 0) = false := by simp; omega
            have HU0 := Lib.hid hu
            clear hb he h HT HA HX hu hd
            go_wp2_with fail
            go_at_call 40
            with_reducible refine (HBA.out _).mono ?_
            rintro e w2 ⟨rfl, hb⟩
            have HT2 := Lib.hid (HT1.out.below hb ht1)
            have ht2 : w.heap.size < w2.heap.size := Nat.lt_of_lt_of_le ht1 hb.size
            have HB2 := Lib.hid (HB1.out.trans (hb.mono HB1.out.size))
            have HS2 := hS _ (hb.mono (Nat.le_trans hB HB1.out.size))
            have HU1 := Lib.hid (HU0.out.below (hb.mono (Nat.le_trans hB HB1.out.size)))
            have hB3 : B ≤ w2.heap.size := Nat.le_trans hB HB2.out.size
            have hTL : T.length + 1 ≤ 1000000 := by simp at hTl; omega
            clear hb HB1 HBA hS HT1 HU0
            have HS3 := Lib.hid HS2
            clear HS2
            go_wp2_with fail
            go_at_call 52
            with_reducible refine (HX2.out _ hB3 _ HS3.out).mono ?_
            rintro e w3 ⟨hb, hm⟩
            rw [he2] at hm
            obtain ⟨u3, rfl, hu⟩ := hm
            have HU := Lib.hid hu
            have HT3 := Lib.hid (HT2.out.below hb ht2)
            have HB3 := Lib.hid (HB2.out.trans (hb.mono HB2.out.size))
            obtain ⟨t0, t1, t2, t3⟩ := HT3.out.facts
            clear hb he2 HT2 HX2 hu
            go_wp2
            (try simp only [Exit.inBlock, Exit.then])
            refine bodyPost_ret (by simp [results, Try.results50, go_sem, t0, t1, t2, t3]; try rfl) rfl ?_
            exact HE.out _ ((HB3.out.setCell (Nat.le_refl _) _).setCell (Nat.le_refl _) _)
          · have HE := Lib.hid (fun w' u => item_is (B := B) (L := L) (w := w) (w' := w') (u := u) (x := (a, b)) (T := U) (by simp [spanS, he, dash, hd, he2, hba]))
            have q1 : decide ((b : Int) < (a : Int)) = false := by simp; omega
            go_enter Try.func50, Try.ntmps50
            go_wp2_with fail
            go_at_call 52
            with_reducible refine (HX.out _ (by rw [size_alloc]; omega) (HV.out.below ((bel_alloc _ _).mono hB))).mono ?_
            rintro e w1 ⟨hb, hm⟩
            rw [he] at hm
            obtain ⟨u, rfl, hu⟩ := hm
            have HT1 := Lib.hid (HT.out.below hb (by rw [size_alloc]; omega))
            have HB1 := Lib.hid (HA.out.trans (hb.mono (by rw [size_alloc]; omega)))
            obtain ⟨g, off, cap, ad, rfl, hcap, c0, c1, hg, hif, hS⟩ := hu.cons
            have ht1 : w.heap.size < w1.heap.size := by have := hb.size; rw [size_alloc] at this; omega
            have n0 : (((T.length : Nat) : Int) + 1 == 0) = false := by simp; omega
            have HU0 := Lib.hid hu
            clear hb he h HT HA HX hu hd
            go_wp2_with fail
            go_at_call 40
            with_reducible refine (HBA.out _).mono ?_
            rintro e w2 ⟨rfl, hb⟩
            have HT2 := Lib.hid (HT1.out.below hb ht1)
            have ht2 : w.heap.size < w2.heap.size := Nat.lt_of_lt_of_le ht1 hb.size
            have HB2 := Lib.hid (HB1.out.trans (hb.mono HB1.out.size))
            have HS2 := hS _ (hb.mono (Nat.le_trans hB HB1.out.size))
            have HU1 := Lib.hid (HU0.out.below (hb.mono (Nat.le_trans hB HB1.out.size)))
            have hB3 : B ≤ w2.heap.size := Nat.le_trans hB HB2.out.size
            have hTL : T.length + 1 ≤ 1000000 := by simp at hTl; omega
            clear hb HB1 HBA hS HT1 HU0
            have HS3 := Lib.hid HS2
            clear HS2
            go_wp2_with fail
            go_at_call 52
            with_reducible refine (HX2.out _ hB3 _ HS3.out).mono ?_
            rintro e w3 ⟨hb, hm⟩
            rw [he2] at hm
            obtain ⟨u3, rfl, hu⟩ := hm
            have HU := Lib.hid hu
            have HT3 := Lib.hid (HT2.out.below hb ht2)
            have HB3 := Lib.hid (HB2.out.trans (hb.mono HB2.out.size))
            obtain ⟨t0, t1, t2, t3⟩ := HT3.out.facts
            clear hb he2 HT2 HX2 hu
            go_wp2
            (try simp only [Exit.inBlock, Exit.then])
            refine bodyPost_ret (by simp [results, Try.results50, go_sem, t0, t1, t2, t3]; try rfl) rfl ?_
            have hbl := Below.refl w.heap.size w3
            exact HE.out _ _ ((HB3.out.setCell (Nat.le_refl _) _).setCell (Nat.le_refl _) _) (HU.out.below (((hbl.setCell (Nat.le_refl _) _).setCell (Nat.le_refl _) _).mono hB))
      · have hd2 : bare s 45 = false := by simpa using hd
        have HBA := Lib.hid (fun w => bare_any s 45 45 rfl w)
        rw [hd2] at HBA
        have HE := Lib.hid (fun w' u => item_is (B := B) (L := L) (w := w) (w' := w') (u := u) (x := (a, a)) (T := s :: T) (by simp [spanS, he, dash, hd2]))
        clear hd2
        go_enter Try.func50, Try.ntmps50
        go_wp2_with fail
        go_at_call 52
        with_reducible refine (HX.out _ (by rw [size_alloc]; omega) (HV.out.below ((bel_alloc _ _).mono hB))).mono ?_
        rintro e w1 ⟨hb, hm⟩
        rw [he] at hm
        obtain ⟨u, rfl, hu⟩ := hm
        have HT1 := Lib.hid (HT.out.below hb (by rw [size_alloc]; omega))
        have HB1 := Lib.hid (HA.out.trans (hb.mono (by rw [size_alloc]; omega)))
        obtain ⟨g, off, cap, ad, rfl, hcap, c0, c1, hg, hif, hS⟩ := hu.cons
        have ht1 : w.heap.size < w1.heap.size := by have := hb.size; rw [size_alloc] at this; omega
        have n0 : (((T.length : Nat) : Int) + 1 == 0) = false := by simp; omega
        have HU0 := Lib.hid hu
        clear hb he h HT HA HX hu hd
        go_wp2_with fail
        go_at_call 40
        with_reducible refine (HBA.out _).mono ?_
        rintro e w2 ⟨rfl, hb⟩
        have HT2 := Lib.hid (HT1.out.below hb ht1)
        have ht2 : w.heap.size < w2.heap.size := Nat.lt_of_lt_of_le ht1 hb.size
        have HB2 := Lib.hid (HB1.out.trans (hb.mono HB1.out.size))
        have HS2 := hS _ (hb.mono (Nat.le_trans hB HB1.out.size))
        have HU1 := Lib.hid (HU0.out.below (hb.mono (Nat.le_trans hB HB1.out.size)))
        have hB3 : B ≤ w2.heap.size := Nat.le_trans hB HB2.out.size
        have hTL : T.length + 1 ≤ 1000000 := by simp at hTl; omega
        clear hb HB1 HBA hS HT1 HU0
        have HS3 := Lib.hid HS2
        clear HS2
        obtain ⟨t0, t1, t2, t3⟩ := HT2.out.facts
        clear HT2
        go_wp2
        (try simp only [Exit.inBlock, Exit.then])
        refine bodyPost_ret (by simp [results, Try.results50, go_sem, t0, t1, t2, t3]; try rfl) rfl ?_
        have hbl := Below.refl w.heap.size w2
        exact HE.out _ _ ((HB2.out.setCell (Nat.le_refl _) _).setCell (Nat.le_refl _) _) (HU1.out.below (((hbl.setCell (Nat.le_refl _) _).setCell (Nat.le_refl _) _).mono hB))
end Go.Proofs.Ytfponjonbhnmlaa.Glob
