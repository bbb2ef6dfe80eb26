/-
  Joined texts: FlashXa, FlashXb, FlashXc, FlashXd.
-/
import Derived.Test.YtcmjambbdfangaaGreatRunFlashE
import Derived.Test.YtcmjambbdfangaaGreatRunGeomA
/-
  The landed device in memory, and what its small calls answer.
-/
set_option linter.unusedVariables false
set_option linter.unusedSimpArgs false
namespace Go.Proofs.YtcmjambbdfangaaGreat.Flash
open Go.RowKit
open Go.Proofs.YtcmjambbdfangaaGreat.Own
open Tup Bytes Foot
open Go.Proofs.YtcmjambbdfangaaGreat.Region (fill Then Deps Each wp_region_is wp_region_is_tail)

/-- a page that is pending, as the landed device has it: its bytes are a row of their own -/
structure Ent where
  q : Nat
  b : List UInt8
  g : Nat
  c : Nat
def rowC (l : List Ent) : List Value := l.flatMap fun x => [.int .i64 (x.q : Int), .slice (some ⟨x.g, 0, none⟩) x.b.length x.c]
theorem rowC_length (l : List Ent) : (rowC l).length = l.length * 2 := by
  induction l with
  | nil => rfl
  | cons x r ih => simp only [rowC, List.flatMap_cons, List.length_append] at ih ⊢; simp only [List.length_cons, List.length_nil, ih]; omega
theorem rowC_append (a b : List Ent) : rowC (a ++ b) = rowC a ++ rowC b := by simp [rowC]
theorem rowC_get {l : List Ent} {k : Nat} (h : k < l.length) : (rowC l)[2 * k]? = some (.int .i64 (l[k].q : Int)) ∧ (rowC l)[2 * k + 1]? = some (.slice (some ⟨l[k].g, 0, none⟩) l[k].b.length l[k].c) := by
  induction l generalizing k with
  | nil => simp at h
  | cons x r ih =>
    cases k with
    | zero => exact ⟨rfl, rfl⟩
    | succ k =>
      have := ih (k := k) (by simpa using h)
      simp only [rowC, List.flatMap_cons] at this ⊢
      rw [show 2 * (k + 1) = 2 * k + 2 by omega, show 2 * k + 2 + 1 = (2 * k + 1) + 2 by omega]
      exact this
def entW (x : Ent) : Nat × List UInt8 := (x.q, x.b)
/-- the landed device, at p: its bytes at bB, what is pending in wv -/
structure FAt (w : World) (p : Nat) (d : Dev) (bB cap : Nat) (wv : Value) (fz : Nat) (E : List Ent) : Prop where
  var : Var w p 85 [.int .i64 (d.pg : Int), .int .i64 (d.pgs : Int), .int .i64 (d.rgs : Int), .slice (some ⟨bB, 0, none⟩) d.img.length cap, wv, .bool d.down, .bool d.fuse.isSome, .int .i64 (fz : Int)]
  row : Row8 w bB d.img
  lt : bB < w.heap.size
  wait : w.ownsRow 0 104 2 wv E.length (rowC E)
  ents : d.wait = E.map entW
  rows : ∀ x ∈ E, Row8 w x.g x.b ∧ x.b.length ≤ x.c ∧ x.g < w.heap.size ∧ x.g ≠ p ∧ x.g ≠ bB ∧ wv.ownBlock ≠ some x.g
  fuz : ∀ k, d.fuse = some k → fz = k
  fuz0 : fz < 9223372036854775808
  capl : d.img.length ≤ cap
  ne1 : bB ≠ p
  ne2 : wv.ownBlock ≠ some p
  ne3 : wv.ownBlock ≠ some bB
/-- the blocks that it has -/
def footF (p bB : Nat) (wv : Value) (E : List Ent) : Nat → Prop := fun k => k = p ∨ k = bB ∨ wv.ownBlock = some k ∨ ∃ x ∈ E, x.g = k
theorem FAt.grows {S : Nat → Prop} {w w' : World} {p : Nat} {d : Dev} {bB cap : Nat} {wv : Value} {fz : Nat} {E : List Ent} (h : FAt w p d bB cap wv fz E) (g : Grows S w w') (hn : ∀ k, footF p bB wv E k → ¬ S k) : FAt w' p d bB cap wv fz E :=
  ⟨g.var h.var (hn p (.inl rfl)), h.row.grows g (hn bB (.inr (.inl rfl))), Nat.lt_of_lt_of_le h.lt g.size, owns_grows h.wait g (fun k hk => hn k (.inr (.inr (.inl hk)))), h.ents,
    fun x hx => by
      obtain ⟨a, b, c, e⟩ := h.rows x hx
      exact ⟨a.grows g (hn _ (.inr (.inr (.inr ⟨x, hx, rfl⟩)))), b, Nat.lt_of_lt_of_le c g.size, e⟩,
    h.fuz, h.fuz0, h.capl, h.ne1, h.ne2, h.ne3⟩
theorem FAt.below {w w' : World} {p : Nat} {d : Dev} {bB cap : Nat} {wv : Value} {fz : Nat} {E : List Ent} (h : FAt w p d bB cap wv fz E) (g : Below w.heap.size w w') : FAt w' p d bB cap wv fz E := h.grows (Grows.of_below (S := fun _ => False) g) (fun _ _ x => x)
theorem FAt.foot_lt {w : World} {p : Nat} {d : Dev} {bB cap : Nat} {wv : Value} {fz : Nat} {E : List Ent} (h : FAt w p d bB cap wv fz E) : ∀ k, footF p bB wv E k → k < w.heap.size := by
  rintro k (rfl | rfl | hk | ⟨x, hx, rfl⟩)
  · exact h.var.lt
  · exact h.lt
  · exact Flash.owns_lt h.wait hk
  · exact (h.rows x hx).2.2.1
theorem FAt.wlen {w : World} {p : Nat} {d : Dev} {bB cap : Nat} {wv : Value} {fz : Nat} {E : List Ent} (h : FAt w p d bB cap wv fz E) : E.length = d.wait.length := by rw [h.ents, List.length_map]
theorem FAt.slice {w : World} {p : Nat} {d : Dev} {bB cap : Nat} {wv : Value} {fz : Nat} {E : List Ent} (h : FAt w p d bB cap wv fz E) : ∃ a c, wv = .slice a E.length c := owns_slice h.wait
/-- what stands at p is turned alone -/
theorem FAt.turn {w w' : World} {p : Nat} {d e : Dev} {bB cap : Nat} {wv : Value} {fz fy : Nat} {E : List Ent} (h : FAt w p d bB cap wv fz E) (g : Grows (· = p) w w')
    (hv : Var w' p 85 [.int .i64 (e.pg : Int), .int .i64 (e.pgs : Int), .int .i64 (e.rgs : Int), .slice (some ⟨bB, 0, none⟩) e.img.length cap, wv, .bool e.down, .bool e.fuse.isSome, .int .i64 (fy : Int)])
    (hi : e.img = d.img) (hw : e.wait = d.wait) (hf : ∀ k, e.fuse = some k → fy = k) (hf0 : fy < 9223372036854775808) : FAt w' p e bB cap wv fy E :=
  ⟨hv, by rw [hi]; exact h.row.grows g h.ne1, Nat.lt_of_lt_of_le h.lt g.size, owns_grows h.wait g (fun k hk e => h.ne2 (by rw [← e]; exact hk)), by rw [hw]; exact h.ents,
    fun x hx => by
      obtain ⟨a, b, c, u, v⟩ := h.rows x hx
      exact ⟨a.grows g u, b, Nat.lt_of_lt_of_le c g.size, u, v⟩,
    hf, hf0, by rw [hi]; exact h.capl, h.ne1, h.ne2, h.ne3⟩
theorem FAt.pend {w : World} {p : Nat} {d : Dev} {bB cap : Nat} {a : Option Addr} {m c fz k : Nat} {E : List Ent} (h : FAt w p d bB cap (.slice a m c) fz E) (hk : k < E.length) :
    ∃ g, a = some ⟨g, 0, none⟩ ∧ w.cell? ⟨g, k * 2, none⟩ = some (.int .i64 (E[k].q : Int)) ∧ w.cell? ⟨g, k * 2 + 1, none⟩ = some (.slice (some ⟨E[k].g, 0, none⟩) E[k].b.length E[k].c) := by
  obtain ⟨h0, h1⟩ := rowC_get hk
  rcases At.of_owns h.wait with hn | ⟨b, off, ha, hl⟩
  · have := rowC_length E
    rw [hn] at this
    simp at this; omega
  · obtain ⟨_, rfl, _, _⟩ := owns_block h.wait b off ha
    refine ⟨b, ha, ?_, ?_⟩
    · have := hl _ _ h0
      rwa [Nat.zero_add, Nat.mul_comm] at this
    · have := hl _ _ h1
      rwa [Nat.zero_add, Nat.mul_comm] at this
/-- the landed device, with the blocks that it has -/
def FHas (w : World) (p : Nat) (d : Dev) (S : Nat → Prop) : Prop := ∃ bB cap wv fz E, FAt w p d bB cap wv fz E ∧ S = footF p bB wv E
theorem FHas.grows {T S : Nat → Prop} {w w' : World} {p : Nat} {d : Dev} (h : FHas w p d S) (g : Grows T w w') (hn : ∀ k, S k → ¬ T k) : FHas w' p d S := by
  obtain ⟨a, b, c, f, E, h, rfl⟩ := h
  exact ⟨a, b, c, f, E, h.grows g hn, rfl⟩
theorem FHas.lt {w : World} {p : Nat} {d : Dev} {S : Nat → Prop} (h : FHas w p d S) : ∀ k, S k → k < w.heap.size := by
  obtain ⟨a, b, c, f, E, h, rfl⟩ := h
  exact h.foot_lt
set_option maxRecDepth 100000 in
theorem atDown_any {w : World} {p : Nat} {d : Dev} {bB cap : Nat} {wv : Value} {fz : Nat} {E : List Ent} (h : FAt w p d bB cap wv fz E) :
    Calls Tryz.prog 21 #[ptr p] w fun e w' => e = .returned (.bool d.down) ∧ w = w' := by
  have c5 := h.var.cell (j := 5) rfl
  clear h
  unfold ptr
  go_enter Tryz.func21, Tryz.ntmps21
  go_wp2
  go_ret
  exact ⟨rfl, rfl⟩
set_option maxRecDepth 100000 in
theorem atPending_any {w : World} {p : Nat} {d : Dev} {bB cap : Nat} {wv : Value} {fz : Nat} {E : List Ent} (h : FAt w p d bB cap wv fz E) :
    Calls Tryz.prog 20 #[ptr p] w fun e w' => e = .returned (.int .i64 (d.wait.length : Int)) ∧ w = w' := by
  have hL := h.wlen
  obtain ⟨a, c, rfl⟩ := h.slice
  have c4 := h.var.cell (j := 4) rfl
  rw [hL] at c4
  clear h hL
  unfold ptr
  go_enter Tryz.func20, Tryz.ntmps20
  go_wp2
  go_ret
  exact ⟨rfl, rfl⟩
set_option maxRecDepth 100000 in
theorem atImage_any {w : World} {p : Nat} {d : Dev} {bB cap : Nat} {wv : Value} {fz : Nat} {E : List Ent} (h : FAt w p d bB cap wv fz E) :
    Calls Tryz.prog 18 #[ptr p] w fun e w' => e = .returned (.string (bs d.img)) ∧ w = w' := by
  have c3 := h.var.cell (j := 3) rfl
  have htx := text8 h.row 0 d.img.length cap (by omega)
  have hc : cut d.img 0 d.img.length = d.img := by simp [cut]
  rw [hc] at htx
  clear h hc
  unfold ptr
  go_enter Tryz.func18, Tryz.ntmps18
  go_wp2
  go_ret
  exact ⟨rfl, rfl⟩
set_option maxRecDepth 100000 in
theorem atGeom_any {w : World} {p : Nat} {d : Dev} {bB cap : Nat} {wv : Value} {fz : Nat} {E : List Ent} (h : FAt w p d bB cap wv fz E) :
    Calls Tryz.prog 45 #[ptr p] w fun e w' => e = .returned (Geom.gV ⟨d.pg, d.pgs, d.rgs⟩) ∧ Below w.heap.size w w' := by
  have c0 := h.var.cell (j := 0) rfl
  have c1 := h.var.cell (j := 1) rfl
  have c2 := h.var.cell (j := 2) rfl
  have hp := h.var.lt
  clear h
  unfold ptr Geom.gV
  go_enter Tryz.func45, Tryz.ntmps45
  go_wp2
  refine bodyPost_ret (v := .agg #[.int .i64 (d.pg : Int), .int .i64 (d.pgs : Int), .int .i64 (d.rgs : Int)]) (by simp [results, Tryz.results45, go_sem]) rfl ⟨rfl, Geom.bel_alloc _ _⟩
/-- what a call that counts answers -/
def Dev.code (d : Dev) : Int := if d.blow.1 then 6 else 0
theorem code_ok {d : Dev} (h : d.blow.1 = false) : d.code = 0 := by unfold Dev.code; rw [h]; rfl
theorem code_blown {d : Dev} (h : d.blow.1 = true) : d.code = 6 := by unfold Dev.code; rw [h]; rfl
set_option maxRecDepth 100000 in
theorem atCount_any {w : World} {p : Nat} {d : Dev} {bB cap : Nat} {wv : Value} {fz : Nat} {E : List Ent} (h : FAt w p d bB cap wv fz E) :
    Calls Tryz.prog 70 #[ptr p] w fun e w' => e = .returned (.int .i64 d.code) ∧ Grows (· = p) w w' ∧ ∃ fy, FAt w' p d.blow.2 bB cap wv fy E := by
  have c5 := h.var.cell (j := 5) rfl
  have c6 := h.var.cell (j := 6) rfl
  have c7 := h.var.cell (j := 7) rfl
  have f5 := h.var.frozen 5
  have f7 := h.var.frozen 7
  have HA := Lib.hid h
  unfold ptr
  rcases hf : d.fuse with _ | k
  · rw [hf] at c6
    have HE := Lib.hid (show d.blow = (false, d) by unfold Dev.blow; rw [hf])
    have HC := Lib.hid (code_ok (d := d) (by rw [HE.out]))
    clear h hf
    go_enter Tryz.func70, Tryz.ntmps70
    go_wp2
    go_ret
    rw [HE.out, HC.out]
    exact ⟨rfl, .refl _ _, fz, HA.out⟩
  · obtain rfl := h.fuz k hf
    rw [hf] at c6
    cases fz with
    | zero =>
      have HE := Lib.hid (show d.blow = (true, { d with down := true }) by unfold Dev.blow; rw [hf])
      have HF := Lib.hid hf
      have HC := Lib.hid (code_blown (d := d) (by rw [HE.out]))
      clear h hf
      go_enter Tryz.func70, Tryz.ntmps70
      go_wp2
      go_ret
      rw [HE.out, HC.out]
      refine ⟨rfl, Grows.set _ _ _ rfl, 0, HA.out.turn (Grows.set _ _ _ rfl) ?_ rfl rfl HA.out.fuz HA.out.fuz0⟩
      exact HA.out.var.set 5 (.bool true)
    | succ k =>
      have HE := Lib.hid (show d.blow = (false, { d with fuse := some k }) by unfold Dev.blow; rw [hf])
      have HF := Lib.hid hf
      have HC := Lib.hid (code_ok (d := d) (by rw [HE.out]))
      have b0 := h.fuz0
      have d1 : decide (0 < ((k + 1 : Nat) : Int)) = true := decide_eq_true (by omega)
      have HS := Lib.hid (show ((k + 1 : Nat) : Int) - 1 = (k : Int) by omega)
      have c7' : w.cell? ⟨p, 7, none⟩ = some (.int .i64 ((k + 1 : Nat) : Int)) := c7
      generalize hz : ((k + 1 : Nat) : Int) = z at *
      clear h hf c7
      go_enter Tryz.func70, Tryz.ntmps70
      go_wp2
      go_ret
      rw [HE.out, HC.out]
      refine ⟨rfl, Grows.set _ _ _ rfl, k, HA.out.turn (Grows.set _ _ _ rfl) ?_ rfl rfl (by intro j hj; simpa using hj) (by have := HA.out.fuz0; omega)⟩
      have := HA.out.var.set 7 (.int .i64 (z - 1))
      rw [HF.out] at this
      rw [HS.out] at this ⊢
      exact this
set_option maxRecDepth 100000 in
theorem atFuse_any {w : World} {p : Nat} {d : Dev} {bB cap : Nat} {wv : Value} {fz : Nat} {E : List Ent} (h : FAt w p d bB cap wv fz E) (n : Int) (hn : n < 9223372036854775808) :
    Calls Tryz.prog 14 #[ptr p, .int .i64 n] w fun e w' => e = .returned (.tuple #[]) ∧ Grows (· = p) w w' ∧ ∃ fy, FAt w' p (fuseD d n) bB cap wv fy E := by
  have c6 := h.var.cell (j := 6) rfl
  have f6 := h.var.frozen 6
  have c7 := h.var.cell (j := 7) rfl
  have f7 := h.var.frozen 7
  have HA := Lib.hid h
  obtain ⟨z, hz⟩ : ∃ z : Nat, (z : Int) = max n 0 := ⟨(max n 0).toNat, by omega⟩
  have hmx := fun w ts t => max2 (P := Tryz.prog) w ts t n 0 (z : Int) hz
  have hd : decide (0 ≤ n) = (fuseD d n).fuse.isSome := by
    unfold fuseD
    by_cases h0 : n < 0
    · simp [h0]
    · simp [h0]; omega
  have HF := Lib.hid (show ∀ k, (fuseD d n).fuse = some k → z = k by
    unfold fuseD
    intro k hk
    by_cases h0 : n < 0
    · simp [h0] at hk
    · simp [h0] at hk; omega)
  have hz0 : z < 9223372036854775808 := by omega
  have HV := Lib.hid ((h.var.set 6 (.bool (fuseD d n).fuse.isSome)).set 7 (.int .i64 (z : Int)))
  clear h hz
  unfold ptr
  go_enter Tryz.func14, Tryz.ntmps14
  go_wp2
  refine bodyPost_end (results_none rfl _ _ _) rfl ?_
  have g := (Grows.set (S := (· = p)) w ⟨p, 6, none⟩ (.bool (fuseD d n).fuse.isSome) rfl).trans (Grows.set (S := (· = p)) _ ⟨p, 7, none⟩ (.int .i64 (z : Int)) rfl) (fun _ h => .inl h)
  exact ⟨rfl, g, _, HA.out.turn g HV.out rfl rfl HF.out hz0⟩
theorem whereG_ok {d : Dev} (hd : d.Ok) (q : Int) : (Geom.whereG ⟨d.pg, d.pgs, d.rgs⟩ q).2.2 = d.has q := by
  have hr : Geom.rightG ⟨d.pg, d.pgs, d.rgs⟩ = true := Geom.right_small.mpr ⟨by simp only; have := hd.p0; omega, by simp only; have := hd.p1; omega, by simp only; have := hd.s0; omega, by simp only; have := hd.s1; omega, by simp only; have := hd.r0; omega, by simp only; have := hd.r1; omega⟩
  unfold Geom.whereG Dev.has Dev.n
  rw [hr]
  simp only [true_and, Int.natCast_mul]
  split
  · rename_i h
    simp only [decide_eq_true h.1]
    simp
    omega
  · rename_i h
    symm
    simp only [Bool.and_eq_false_iff, decide_eq_false_iff_not]
    omega
set_option maxRecDepth 100000 in
theorem atHas_any {w : World} {p : Nat} {d : Dev} {bB cap : Nat} {wv : Value} {fz : Nat} {E : List Ent} (h : FAt w p d bB cap wv fz E) (hd : d.Ok) (q : Int) :
    Calls Tryz.prog 63 #[ptr p, .int .i64 q] w fun e w' => e = .returned (.bool (d.has q)) ∧ Below w.heap.size w w' := by
  have c0 := h.var.cell (j := 0) rfl
  have c1 := h.var.cell (j := 1) rfl
  have c2 := h.var.cell (j := 2) rfl
  have HW := Lib.hid (fun w => Geom.where_any ⟨d.pg, d.pgs, d.rgs⟩ q w)
  rw [whereG_ok hd] at HW
  clear h hd
  unfold Geom.gV at HW
  generalize (Geom.whereG ⟨d.pg, d.pgs, d.rgs⟩ q).1 = x1 at *
  generalize (Geom.whereG ⟨d.pg, d.pgs, d.rgs⟩ q).2.1 = x2 at *
  unfold ptr
  go_enter Tryz.func63, Tryz.ntmps63
  go_wp2_with (go_at_call 95; (with_reducible refine (HW.out _).mono ?_); rintro e w3 ⟨rfl, hn⟩)
  go_ret
  exact ⟨rfl, hn⟩
theorem slice8l {L l cap : Nat} (bB : Nat) (h1 : l ≤ L) (x : Int) (hx : x = (l : Int)) (hl : l < cap) (w : World) :
    (Instr.slice 55 (.slice (some ⟨bB, 0, none⟩) L cap) (some (.int .i64 x)) none none).run Tryz.prog w = .ok (.slice (some ⟨bB, l, none⟩) (L - l) (cap - l)) w := by
  subst hx
  have hu : Tryz.prog.underlying 55 = some (.slice (Tryz.prog.elem 55)) := by kernel_rfl
  have hz : ∀ w, (sizeOf (Tryz.prog.elem 55)).run Tryz.prog w = .ok 1 w := by
    have : Tryz.prog.elem 55 = 5 := by kernel_rfl
    rw [this]; intro w
    obtain ⟨i0, hi, hz0, hz1, hz2⟩ := info_parts info8
    simp [sizeOf, hi, hz1] <;> rfl
  rw [run_slice_l (P := Tryz.prog) w 55 (some ⟨bB, 0, none⟩) L cap hu .i64 (l : Int) (by omega) (by omega), hz]
  simp only [Result.andThen, sliced, Int.toNat_natCast, Nat.mul_one]
  rw [if_neg (by omega)]
  simp [Addr.add]
  intro e; omega
theorem slice8h {L h off cap : Nat} (bB : Nat) (h2 : h ≤ cap) (x : Int) (hx : x = (h : Int)) (w : World) :
    (Instr.slice 55 (.slice (some ⟨bB, off, none⟩) L cap) none (some (.int .i64 x)) none).run Tryz.prog w = .ok (.slice (some ⟨bB, off, none⟩) h cap) w := by
  subst hx
  have hu : Tryz.prog.underlying 55 = some (.slice (Tryz.prog.elem 55)) := by kernel_rfl
  have hz : ∀ w, (sizeOf (Tryz.prog.elem 55)).run Tryz.prog w = .ok 1 w := by
    have : Tryz.prog.elem 55 = 5 := by kernel_rfl
    rw [this]; intro w
    obtain ⟨i0, hi, hz0, hz1, hz2⟩ := info_parts info8
    simp [sizeOf, hi, hz1] <;> rfl
  rw [run_slice_h (P := Tryz.prog) w 55 (some ⟨bB, off, none⟩) L cap hu .i64 (h : Int) (by omega) (by omega), hz]
  simp [Result.andThen, sliced, Addr.add]
set_option maxRecDepth 100000 in
theorem atStands_any {w : World} {p : Nat} {d : Dev} {bB cap : Nat} {wv : Value} {fz : Nat} {E : List Ent} (h : FAt w p d bB cap wv fz E) (hd : d.Ok) (q : Nat) (hq : q < d.n) :
    Calls Tryz.prog 65 #[ptr p, .int .i64 (q : Int)] w fun e w' => e = .returned (.slice (some ⟨bB, q * d.pg, none⟩) d.pg (cap - q * d.pg)) ∧ ∃ k, w' = w.drewN k := by
  have c0 := h.var.cell (j := 0) rfl
  have c3 := h.var.cell (j := 3) rfl
  have hpg := hd.page hq
  have him := hd.img_le
  have hp0 := hd.p0
  have hp1 := hd.p1
  have hq1 : q < 120 := Nat.lt_of_lt_of_le hq hd.n_le
  have hcap := h.capl
  have m1 : (q : Int) * (d.pg : Int) = ((q * d.pg : Nat) : Int) := by rw [Int.natCast_mul]
  have b1 : 0 ≤ (q : Int) * (d.pg : Int) ∧ (q : Int) * (d.pg : Int) ≤ 100000 := by rw [m1]; omega
  have hs1 := slice8l (L := d.img.length) (cap := cap) bB (show q * d.pg ≤ d.img.length by omega) _ m1 (by omega)
  have hs2 := slice8h (L := d.img.length - q * d.pg) (off := q * d.pg) (cap := cap - q * d.pg) bB (show d.pg ≤ cap - q * d.pg by omega) _ rfl
  clear h hd hq m1
  unfold ptr
  go_enter Tryz.func65, Tryz.ntmps65
  go_wp2
  go_quiet (fail)
  go_wp2
  go_ret
  exact ⟨rfl, _, rfl⟩
end Go.Proofs.YtcmjambbdfangaaGreat.Flash
/-
  The landed device: is a page pending, is it blank; bytes that are made blank.
-/
set_option linter.unusedVariables false
set_option linter.unusedSimpArgs false
namespace Go.Proofs.YtcmjambbdfangaaGreat.Flash
open Go.RowKit
open Go.Proofs.YtcmjambbdfangaaGreat.Own
open Tup Bytes Foot
open Go.Proofs.YtcmjambbdfangaaGreat.Region (fill Then Deps Each wp_region_is wp_region_is_tail)

theorem FAt.ent {w : World} {p : Nat} {d : Dev} {bB cap : Nat} {wv : Value} {fz k : Nat} {E : List Ent} (h : FAt w p d bB cap wv fz E) (hk : k < E.length) : ∃ hl : k < d.wait.length, d.wait[k] = entW E[k] := by
  have hl : k < d.wait.length := by rw [← h.wlen]; exact hk
  refine ⟨hl, ?_⟩
  have e := h.ents
  have : d.wait[k]? = (E.map entW)[k]? := by rw [e]
  rw [List.getElem?_eq_getElem hl, List.getElem?_map, List.getElem?_eq_getElem hk] at this
  simpa using this
set_option maxRecDepth 100000 in
set_option maxHeartbeats 4000000 in
theorem atPendingAt_any {w : World} {p : Nat} {d : Dev} {bB cap : Nat} {wv : Value} {fz : Nat} {E : List Ent} (h : FAt w p d bB cap wv fz E) (hd : d.Ok) (q : Nat) :
    Calls Tryz.prog 64 #[ptr p, .int .i64 (q : Int)] w fun e w' => (∃ i : Nat, e = .returned (.tuple #[.int .i64 (i : Int), .bool (d.waits q)]) ∧ (d.waits q = true → ∃ hl : i < d.wait.length, (d.wait[i]).1 = q)) ∧ Below w.heap.size w w' := by
  obtain ⟨a, c, rfl⟩ := h.slice
  have c4 := h.var.cell (j := 4) rfl
  have hn := hd.wait_le
  have hw := h.wlen
  have HA := Lib.hid h
  unfold ptr
  clear h hd
  obtain ⟨L, hL⟩ : ∃ L, E.length = L := ⟨_, rfl⟩
  rw [hL] at c4 hw
  have HL := Lib.hid hL
  have HW := Lib.hid hw
  rw [← hw] at hn
  clear hL hw
  go_enter Tryz.func64, Tryz.ntmps64
  go_wp2
  go_loopw [13] (fun i wr => ∃ k : Nat, i = .int .i64 (k : Int) ∧ k ≤ L ∧ (d.wait.take k).any (fun x => decide (x.1 = q)) = false ∧ Below w.heap.size w wr) (fun i _ => L - (intOf i).toNat)
  case atStart => exact ⟨0, rfl, Nat.zero_le _, rfl, Below.refl _ _⟩
  case round =>
    obtain ⟨k, rfl, hk, hv, hB⟩ := hrel
    have HN := Lib.hid hv
    have HB := Lib.hid hB
    by_cases hlt : k < L
    · have hkE : k < E.length := by rw [HL.out]; exact hlt
      obtain ⟨hkl, hke⟩ := HA.out.ent hkE
      have hR := HA.out.below hB
      rw [HL.out] at hR
      obtain ⟨g, ha, e0, e1⟩ := hR.pend hkE
      subst ha
      have HT := Lib.hid (any_take (f := fun x => decide (x.1 = q)) hkl)
      have HH := Lib.hid (fun hf => any_hit (f := fun x => decide (x.1 = q)) hkl hf)
      have HKE := Lib.hid hke
      have HQ := Lib.hid (show ∃ hl : k < d.wait.length, (d.wait[k]'hl).1 = E[k].q from ⟨hkl, by rw [hke]; rfl⟩)
      have hb0 : g < wr.heap.size := block_lt_of_cell e0
      have d1 : decide ((k : Int) < (L : Int)) = true := by simp; omega
      have d2 : decide (k < L) = true := by simp; omega
      clear hv hB hke hR
      generalize hy : E[k] = y at *
      obtain ⟨yq, yb, yg, yc⟩ := y
      simp only at e0 e1
      clear hy
      by_cases he : yq = q
      · subst he
        have HE := Lib.hid (show d.waits yq = true from HH.out (by rw [HKE.out]; simp [entW]))
        clear HT HH HKE
        go_wp2
        go_ret2
        rw [HE.out]
        exact ⟨⟨k, rfl, fun _ => HQ.out⟩, HB.out.trans ((Geom.bel_alloc _ _).mono HB.out.size)⟩
      · have dq : ((yq : Int) == (q : Int)) = false := by simp; omega
        have dq2 : (yq == q) = false := by simp; omega
        have HK := Lib.hid (show (d.wait.take (k + 1)).any (fun x => decide (x.1 = q)) = false by rw [HT.out, HN.out, HKE.out, Bool.false_or]; exact decide_eq_false he)
        clear HT HH HKE HQ
        go_wp2
        refine ⟨⟨k + 1, by go_num, by omega, HK.out, HB.out.trans ((Geom.bel_alloc _ _).mono HB.out.size)⟩, by simp [intOf]; omega⟩
    · obtain rfl : k = L := by omega
      have d1 : decide ((k : Int) < (k : Int)) = false := by simp
      have HE := Lib.hid (show d.waits q = false by
        have := HN.out
        rw [List.take_of_length_le (by rw [HW.out]; exact Nat.le_refl _)] at this
        exact this)
      clear hv hB
      go_wp2
      go_ret2
      rw [HE.out]
      exact ⟨⟨0, rfl, fun e => Bool.noConfusion e⟩, HB.out⟩
/-- is one of these pages pending? -/
def Dev.anyOf (d : Dev) (F n : Nat) : Bool := d.wait.any fun x => decide (F ≤ x.1) && decide (x.1 < F + n)
theorem anyOf_zero (d : Dev) (F : Nat) : d.anyOf F 0 = false := by
  unfold Dev.anyOf
  rw [List.any_eq_false]
  intro x _; simp
theorem anyOf_succ (d : Dev) (F n : Nat) : d.anyOf F (n + 1) = (d.anyOf F n || d.waits (F + n)) := by
  unfold Dev.anyOf Dev.waits
  rw [Bool.eq_iff_iff]
  simp only [Bool.or_eq_true, List.any_eq_true, Bool.and_eq_true, decide_eq_true_eq]
  constructor
  · rintro ⟨x, hx, h1, h2⟩
    by_cases h : x.1 = F + n
    · exact .inr ⟨x, hx, h⟩
    · exact .inl ⟨x, hx, h1, by omega⟩
  · rintro (⟨x, hx, h1, h2⟩ | ⟨x, hx, h⟩)
    · exact ⟨x, hx, h1, by omega⟩
    · exact ⟨x, hx, by omega, by omega⟩
theorem anyOf_one (d : Dev) (q : Nat) : d.anyOf q 1 = d.waits q := by
  rw [anyOf_succ, anyOf_zero, Bool.false_or, Nat.add_zero]
theorem anyOf_mono {d : Dev} {F k n : Nat} (h : d.anyOf F k = true) (hk : k ≤ n) : d.anyOf F n = true := by
  unfold Dev.anyOf at h ⊢
  simp only [List.any_eq_true, Bool.and_eq_true, decide_eq_true_eq] at h ⊢
  obtain ⟨x, hx, h1, h2⟩ := h
  exact ⟨x, hx, h1, by omega⟩
set_option maxRecDepth 100000 in
set_option maxHeartbeats 4000000 in
theorem atAnyPending_any {w : World} {p : Nat} {d : Dev} {bB cap : Nat} {wv : Value} {fz : Nat} {E : List Ent} (h : FAt w p d bB cap wv fz E) (hd : d.Ok) (F n : Nat) (hF : F < 1000) (hn : n < 1000) :
    Calls Tryz.prog 76 #[ptr p, .int .i64 (F : Int), .int .i64 (n : Int)] w fun e w' => e = .returned (.bool (d.anyOf F n)) ∧ Below w.heap.size w w' := by
  have HP := Lib.hid (fun w' (hb : Below w.heap.size w w') q => atPendingAt_any (h.below hb) hd q)
  unfold ptr at HP ⊢
  clear h hd
  go_enter Tryz.func76, Tryz.ntmps76
  go_wp2
  go_loopw [11] (fun i wr => ∃ k : Nat, i = .int .i64 (k : Int) ∧ k ≤ n ∧ d.anyOf F k = false ∧ Below w.heap.size w wr) (fun i _ => n - (intOf i).toNat)
  case atStart => exact ⟨0, rfl, Nat.zero_le _, anyOf_zero _ _, Below.refl _ _⟩
  case round =>
    obtain ⟨k, rfl, hk, hv, hB⟩ := hrel
    have HB := Lib.hid hB
    have HS := Lib.hid (anyOf_succ d F k)
    rw [hv, Bool.false_or] at HS
    have HM := Lib.hid (fun h => anyOf_mono (d := d) (F := F) (k := k + 1) (n := n) h)
    have HQ := Lib.hid (HP.out wr hB (F + k))
    rw [show ((F + k : Nat) : Int) = (F : Int) + (k : Int) by omega] at HQ
    clear hB
    by_cases hlt : k < n
    · have d1 : decide ((k : Int) < (n : Int)) = true := by simp; omega
      have d2 : decide (k < n) = true := by simp; omega
      rcases hwt : d.waits (F + k) with _ | _
      · rw [hwt] at HS HQ
        clear hv hwt
        go_wp2_with (go_at_call 64; (with_reducible refine HQ.out.mono ?_); rintro e w3 ⟨⟨i, rfl, -⟩, hb3⟩)
        refine ⟨⟨k + 1, by go_num, by omega, HS.out, bel2 HB.out hb3⟩, by simp [intOf]; omega⟩
      · rw [hwt] at HS HQ
        have HE := Lib.hid (HM.out HS.out (by omega))
        clear hv hwt
        go_wp2_with (go_at_call 64; (with_reducible refine HQ.out.mono ?_); rintro e w3 ⟨⟨i, rfl, -⟩, hb3⟩)
        go_ret
        rw [HE.out]
        exact ⟨rfl, bel2 HB.out hb3⟩
    · obtain rfl : k = n := by omega
      have d1 : decide ((k : Int) < (k : Int)) = false := by simp
      have HE := Lib.hid hv
      clear hv
      go_wp2
      go_ret
      exact ⟨ret_bool HE.out.symm, HB.out⟩
theorem blankl_snoc (l : List UInt8) (k : Nat) (h : k < l.length) : blank (l.take (k + 1)) = (blank (l.take k) && (l[k] == 255)) := by
  rw [List.take_succ_eq_append_getElem h]
  simp only [blank, List.all_append, List.all_cons, List.all_nil, Bool.and_true]
theorem blankl_drop (l : List UInt8) (k : Nat) (h : k < l.length) (h2 : (l[k] == 255) = false) : blank l = false := by
  unfold blank
  rw [List.all_eq_false]
  exact ⟨l[k], List.getElem_mem h, by simpa using h2⟩
theorem cut_getElem {img : List UInt8} {P n k : Nat} (hk : k < n) (h : P + n ≤ img.length) : (cut img P n)[k]'(by rw [cut_length h]; exact hk) = img.getD (P + k) 0 := by
  unfold cut
  rw [List.getElem_take, List.getElem_drop, List.getD_eq_getElem?_getD, List.getElem?_eq_getElem (by omega)]; rfl
set_option maxRecDepth 100000 in
set_option maxHeartbeats 4000000 in
theorem isBlank_any {w : World} {B : Nat} {img : List UInt8} (h : Row8 w B img) (P n cap : Nat) (hl : P + n ≤ img.length) (hn : img.length < 100000) :
    Calls Tryz.prog 86 #[.slice (some ⟨B, P, none⟩) n cap] w fun e w' => e = .returned (.bool (blank (cut img P n))) ∧ w = w' := by
  have HR := Lib.hid h
  have HC := Lib.hid (cut_length hl)
  clear h
  go_enter Tryz.func86, Tryz.ntmps86
  go_wp2
  go_loop [7] (fun i => ∃ k : Nat, k ≤ n ∧ i = .int .i64 (k : Int) ∧ blank ((cut img P n).take k) = true) (fun i => n - (intOf i).toNat)
  case atStart => exact ⟨0, Nat.zero_le _, rfl, rfl⟩
  case round =>
    obtain ⟨k, hk, rfl, hbl⟩ := hrel
    by_cases hlt : k < n
    · have d1 : decide ((k : Int) < (n : Int)) = true := by simp; omega
      have d2 : decide (k < n) = true := by simp; omega
      have hkl : k < (cut img P n).length := by rw [HC.out]; exact hlt
      have e0 := (HR.out (P + k) (by omega)).1
      rw [← cut_getElem hlt hl] at e0
      have HS := Lib.hid (blankl_snoc (cut img P n) k hkl)
      have HD := Lib.hid (blankl_drop (cut img P n) k hkl)
      rw [hbl] at HS
      clear hbl
      generalize (cut img P n)[k] = c at *
      cases hc : (c == 255) with
      | true =>
        have q : ((c.toNat : Int) != 255) = false := by simp only [beq_iff_eq] at hc; rw [hc]; rfl
        have q2 : ((c.toNat : Int) == 255) = true := by simp only [beq_iff_eq] at hc; rw [hc]; rfl
        rw [hc] at HS
        clear hc HD
        go_wp2
        go_round
        case rel => exact ⟨k + 1, by omega, by go_num, by rw [HS.out]; rfl⟩
        case measure => simp [intOf]; omega
      | false =>
        have q2 : ((c.toNat : Int) == 255) = false := by
          simp only [beq_eq_false_iff_ne, ne_eq] at hc ⊢
          intro h
          have : c.toNat = 255 := by omega
          exact hc (UInt8.toNat_inj.1 this)
        have q : ((c.toNat : Int) != 255) = true := by simp only [bne, q2]; rfl
        have HE := Lib.hid (HD.out hc)
        clear hc HS HD
        go_wp2
        go_ret
        exact ⟨by rw [HE.out]; rfl, rfl⟩
    · obtain rfl : k = n := by omega
      have d1 : decide ((k : Int) < (k : Int)) = false := by simp
      have HE := Lib.hid (show blank (cut img P k) = true by rw [List.take_of_length_le (by rw [HC.out]; exact Nat.le_refl _)] at hbl; exact hbl)
      clear hbl
      go_wp2
      go_ret
      exact ⟨by rw [HE.out]; rfl, rfl⟩
theorem over_rep_snoc {img : List UInt8} {P k : Nat} (c : UInt8) (hP : P + k < img.length) : (over img P (List.replicate k c)).set (P + k) c = over img P (List.replicate (k + 1) c) := by
  have := over_snoc (img := img) (b := List.replicate (k + 1) c) (P := P) (k := k) (by simp) hP
  simp only [List.getElem_replicate, List.take_replicate] at this
  rwa [Nat.min_eq_left (by omega), Nat.min_eq_left (by omega)] at this
set_option maxRecDepth 100000 in
set_option maxHeartbeats 4000000 in
theorem wipe_any {w : World} {B : Nat} {img : List UInt8} (h : Row8 w B img) (P n cap : Nat) (hl : P + n ≤ img.length) (hn : img.length < 100000) :
    Calls Tryz.prog 77 #[.slice (some ⟨B, P, none⟩) n cap] w fun e w' => e = .returned (.tuple #[]) ∧ Row8 w' B (over img P (List.replicate n 255)) ∧ Grows (· = B) w w' := by
  have HR := Lib.hid (show Row8 w B (over img P (List.replicate 0 255)) by rw [List.replicate_zero, over_nil]; exact h)
  clear h
  go_enter Tryz.func77, Tryz.ntmps77
  go_wp2
  go_loopw [5] (fun i wr => ∃ k : Nat, k ≤ n ∧ i = .int .i64 (k : Int) ∧ Row8 wr B (over img P (List.replicate k 255)) ∧ Grows (· = B) w wr) (fun i _ => n - (intOf i).toNat)
  case atStart => exact ⟨0, Nat.zero_le _, rfl, HR.out, Grows.refl _ _⟩
  case round =>
    obtain ⟨k, hk, rfl, hR, hG⟩ := hrel
    have HGr := Lib.hid hG
    clear HR hG
    by_cases hlt : k < n
    · have hL : (over img P (List.replicate k (255 : UInt8))).length = img.length := over_length (by rw [List.length_replicate]; omega)
      have hPk : P + k < (over img P (List.replicate k (255 : UInt8))).length := by rw [hL]; omega
      obtain ⟨e0, e1⟩ := hR (P + k) hPk
      have HS := Lib.hid (hR.set (P + k) 255 hPk)
      rw [over_rep_snoc 255 (by omega)] at HS
      have HG := Lib.hid (HGr.out.trans (Grows.set (S := (· = B)) wr ⟨B, P + k, none⟩ (.int .u8 ((255 : UInt8).toNat : Int)) rfl) (fun _ h => .inl h))
      have d1 : decide ((k : Int) < (n : Int)) = true := by simp; omega
      have d2 : decide (k < n) = true := by simp; omega
      rw [show (((255 : UInt8).toNat : Int)) = 255 from rfl] at HS HG
      generalize (over img P (List.replicate k (255 : UInt8))).getD (P + k) 0 = u at *
      clear hR hL hPk
      go_wp2
      exact ⟨⟨k + 1, by omega, by go_num, HS.out, HG.out⟩, by simp [intOf]; omega⟩
    · obtain rfl : k = n := by omega
      have d1 : decide ((k : Int) < (k : Int)) = false := by simp
      have HE := Lib.hid hR
      clear hR
      go_wp2
      refine bodyPost_end (results_none rfl _ _ _) rfl ?_
      exact ⟨rfl, HE.out, HGr.out⟩
set_option maxRecDepth 100000 in
set_option maxHeartbeats 4000000 in
theorem blanks_any (n : Nat) (hn : n < 100000) (w : World) :
    Calls Tryz.prog 59 #[.int .i64 (n : Int)] w fun e w' => (∃ g c, e = .returned (.slice (some ⟨g, 0, none⟩) n c) ∧ n ≤ c ∧ Row8 w' g (List.replicate n 255) ∧ w.heap.size ≤ g ∧ g < w'.heap.size) ∧ Below w.heap.size w w' := by
  obtain ⟨i0, hi, hz0, hz1, hz2⟩ := info_parts info8
  obtain ⟨w1, hmk, hown, hgr⟩ := run_makeSlice_full (P := Tryz.prog) w w.heap.size 55 5 i0 _ 1 Tryz.underlying55 hi hz0 hz1 .i64 .i64 n (by omega) (by rw [hz2]; omega) (by simp only [maxLen]; omega) (Nat.le_refl _)
  have HW := Lib.hid (wipe_any (Row8.of_make hown) 0 n n (by simp) (by simp; omega))
  have HB1 := Lib.hid (below_make hgr)
  have HO := Lib.hid (show over (List.replicate n (0 : UInt8)) 0 (List.replicate n 255) = List.replicate n 255 by simp [over])
  have HLT := Lib.hid (show w.heap.size < w1.heap.size from Flash.owns_lt hown rfl)
  clear hown hgr hi hz0 hz1 hz2
  go_enter Tryz.func59, Tryz.ntmps59
  go_wp2_with (go_at_call 77; (with_reducible refine HW.out.mono ?_); rintro e w3 ⟨rfl, hr3, hg3⟩)
  go_ret
  rw [HO.out] at hr3
  refine ⟨⟨_, _, rfl, Nat.le_refl _, hr3, Nat.le_refl _, Nat.lt_of_lt_of_le HLT.out hg3.size⟩, ?_⟩
  exact HB1.out.trans (hg3.below HB1.out.size (by rintro k rfl; exact Nat.le_refl _))
end Go.Proofs.YtcmjambbdfangaaGreat.Flash
/-
  The landed device: Read, Program, Rot.
-/
set_option linter.unusedVariables false
set_option linter.unusedSimpArgs false
namespace Go.Proofs.YtcmjambbdfangaaGreat.Flash
open Go.RowKit
open Go.Proofs.YtcmjambbdfangaaGreat.Own
open Tup Bytes Foot
open Go.Proofs.YtcmjambbdfangaaGreat.Region (fill Then Deps Each wp_region_is wp_region_is_tail)

theorem waits_at {d : Dev} {q : Nat} (h : d.waits q = true) : ∃ i, ∃ hl : i < d.wait.length, (d.wait[i]'hl).1 = q := by
  unfold Dev.waits at h
  obtain ⟨x, hx, hq⟩ := List.any_eq_true.1 h
  obtain ⟨i, hl, rfl⟩ := List.getElem_of_mem hx
  exact ⟨i, hl, by simpa using hq⟩
theorem at_one {d : Dev} (hd : d.Ok) {i j : Nat} (hi : i < d.wait.length) (hj : j < d.wait.length) (e : (d.wait[i]).1 = (d.wait[j]).1) : i = j := by
  have hn := hd.once
  have hi' : i < (d.wait.map (·.1)).length := by simpa using hi
  have hj' : j < (d.wait.map (·.1)).length := by simpa using hj
  exact (List.getElem_inj (h₀ := hi') (h₁ := hj') hn).1 (by simpa using e)
theorem foldl_miss (q : Nat) : ∀ (l : List (Nat × List UInt8)) (s : List UInt8), (∀ x ∈ l, x.1 ≠ q) → l.foldl (fun s x => if x.1 = q then x.2 else s) s = s
  | [], _, _ => rfl
  | x :: r, s, h => by rw [List.foldl_cons, if_neg (h x (List.mem_cons_self ..))]; exact foldl_miss q r s (fun y hy => h y (List.mem_cons_of_mem _ hy))
theorem foldl_hit (q : Nat) (b : List UInt8) : ∀ (l : List (Nat × List UInt8)) (s : List UInt8), (l.map (·.1)).Nodup → (q, b) ∈ l → l.foldl (fun s x => if x.1 = q then x.2 else s) s = b
  | [], _, _, h => by simp at h
  | x :: r, s, hn, h => by
    rw [List.map_cons, List.nodup_cons] at hn
    rw [List.foldl_cons]
    rcases List.mem_cons.1 h with rfl | hr
    · rw [if_pos rfl]
      exact foldl_miss q r b (fun y hy e => hn.1 (List.mem_map.2 ⟨y, hy, e⟩))
    · exact foldl_hit q b r _ hn.2 hr
theorem held_at {d : Dev} (hd : d.Ok) {i : Nat} (hl : i < d.wait.length) : d.held (d.wait[i]).1 = (d.wait[i]).2 := by
  unfold Dev.held
  exact foldl_hit _ _ _ _ hd.once (List.getElem_mem hl)
theorem held_off {d : Dev} {q : Nat} (h : d.waits q = false) : d.held q = cut d.img (q * d.pg) d.pg := by
  unfold Dev.held
  refine foldl_miss q _ _ (fun x hx e => ?_)
  exact waits_not h (List.mem_map.2 ⟨x, hx, e⟩)
theorem atPending_hit {w : World} {p : Nat} {d : Dev} {bB cap : Nat} {wv : Value} {fz : Nat} {E : List Ent} (h : FAt w p d bB cap wv fz E) (hd : d.Ok) (q i : Nat) (hl : i < d.wait.length) (hq : (d.wait[i]).1 = q) :
    Calls Tryz.prog 64 #[ptr p, .int .i64 (q : Int)] w fun e w' => e = .returned (.tuple #[.int .i64 (i : Int), .bool true]) ∧ Below w.heap.size w w' := by
  refine (atPendingAt_any h hd q).mono ?_
  rintro e w' ⟨⟨j, rfl, hj⟩, hb⟩
  have ht : d.waits q = true := any_hit (f := fun x : Nat × List UInt8 => decide (x.1 = q)) hl (by simpa using hq)
  obtain ⟨hl', hq'⟩ := hj ht
  have : j = i := at_one hd hl' hl (by rw [hq', hq])
  subst this
  rw [ht]
  exact ⟨rfl, hb⟩
set_option maxRecDepth 100000 in
set_option maxHeartbeats 4000000 in
theorem atRead_any {w : World} {p : Nat} {d : Dev} {bB cap : Nat} {wv : Value} {fz : Nat} {E : List Ent} (h : FAt w p d bB cap wv fz E) (hd : d.Ok) (q : Int) :
    Calls Tryz.prog 31 #[ptr p, .int .i64 q] w fun e w' => e = .returned (.tuple #[.string (bs (readD d q).1), .int .i64 ((readD d q).2 : Int)]) ∧ Below w.heap.size w w' := by
  have HD := Lib.hid (fun w' (hb : Below w.heap.size w w') => atDown_any (h.below hb))
  have HH := Lib.hid (fun w' (hb : Below w.heap.size w w') q => atHas_any (h.below hb) hd q)
  unfold ptr at HD HH ⊢
  rcases hdn : d.down with _ | _
  · rw [hdn] at HD
    rcases hh : d.has q with _ | _
    · have HHq := Lib.hid (fun w' hb => HH.out w' hb q)
      rw [hh] at HHq
      have HE := Lib.hid (show readD d q = ([], 1) by unfold readD; rw [hdn, hh]; rfl)
      clear h hd hdn hh HH
      go_enter Tryz.func31, Tryz.ntmps31
      go_wp2_with (first
        | (go_at_call 21; (with_reducible refine (HD.out _ (Below.refl _ _)).mono ?_); rintro e w3 ⟨rfl, rfl⟩)
        | (go_at_call 63; (with_reducible refine (HHq.out _ (Below.refl _ _)).mono ?_); rintro e w4 ⟨rfl, hb4⟩))
      go_ret2
      rw [HE.out]
      exact ⟨rfl, hb4⟩
    · obtain ⟨i1, i2⟩ := has_lt hh
      obtain ⟨k, rfl⟩ : ∃ k : Nat, q = (k : Int) := ⟨q.toNat, by omega⟩
      rw [Int.toNat_natCast] at i1
      have HHq := Lib.hid (fun w' hb => HH.out w' hb (k : Int))
      rw [hh] at HHq
      have HE := Lib.hid (show readD d k = (d.held k, 0) by unfold readD; rw [hdn, hh, Int.toNat_natCast]; rfl)
      rcases hw : d.waits k with _ | _
      · have HP := Lib.hid (fun w' (hb : Below w.heap.size w w') => atPendingAt_any (h.below hb) hd k)
        rw [hw] at HP
        have HS := Lib.hid (fun w' (hb : Below w.heap.size w w') => atStands_any (h.below hb) hd k i1)
        unfold ptr at HP HS
        have HTX := Lib.hid (fun wx (hb : Below w.heap.size w wx) => text8 (h.below hb).row (k * d.pg) d.pg (cap - k * d.pg) (hd.page i1))
        rw [held_off hw] at HE
        clear h hd hdn hh HH i1 i2 hw
        go_enter Tryz.func31, Tryz.ntmps31
        go_wp2_with (first
          | (go_at_call 21; (with_reducible refine (HD.out _ (Below.refl _ _)).mono ?_); rintro e w3 ⟨rfl, rfl⟩)
          | (go_at_call 63; (with_reducible refine (HHq.out _ (Below.refl _ _)).mono ?_); rintro e w4 ⟨rfl, hb4⟩)
          | (go_at_call 64; (with_reducible refine (HP.out _ hb4).mono ?_); rintro e w5 ⟨⟨i, rfl, -⟩, hb5⟩)
          | (go_at_call 65; (with_reducible refine (HS.out _ (bel2 hb4 hb5)).mono ?_); rintro e w6 ⟨rfl, k6, rfl⟩; have htx := HTX.out _ (bel2 (bel2 hb4 hb5) (below_drewN _ k6))))
        go_ret2
        rw [HE.out]
        exact ⟨rfl, bel2 (bel2 hb4 hb5) (below_drewN _ _)⟩
      · obtain ⟨i, hl, hq⟩ := waits_at hw
        have HP := Lib.hid (fun w' (hb : Below w.heap.size w w') => atPending_hit (h.below hb) hd k i hl hq)
        unfold ptr at HP
        have hiE : i < E.length := by rw [h.wlen]; exact hl
        obtain ⟨hl2, hie⟩ := h.ent hiE
        have hkb : d.held k = E[i].b := by rw [← hq, held_at hd hl, hie]; rfl
        rw [hkb] at HE
        obtain ⟨a, c, rfl⟩ := h.slice
        obtain ⟨g, rfl, f0, f1⟩ := h.pend hiE
        have hgl := block_lt_of_cell f1
        have c4 := h.var.cell (j := 4) rfl
        have hpl := h.var.lt
        have hrw := h.rows E[i] (List.getElem_mem hiE)
        obtain ⟨L, hL⟩ : ∃ L, E.length = L := ⟨_, rfl⟩
        obtain ⟨yq, yb, yg, yc, hy⟩ : ∃ yq yb yg yc, E[i] = ⟨yq, yb, yg, yc⟩ := ⟨_, _, _, _, rfl⟩
        rw [hy] at f1 hrw HE
        rw [hL] at c4 hiE
        simp only at f1 hrw HE
        have HTX := Lib.hid (fun wx (hb : Below w.heap.size w wx) => (hrw.1.below hb).text (P := Tryz.prog) 55 9 5 yc Tryz.underlying55 Tryz.underlying5 Tryz.underlying9 yb.length rfl)
        have HC4 := Lib.hid (fun wx (hb : Below w.heap.size w wx) => hb.cell (p := ⟨p, 4, none⟩) hpl |>.trans c4)
        have HF1 := Lib.hid (fun wx (hb : Below w.heap.size w wx) => hb.cell (p := ⟨g, i * 2 + 1, none⟩) hgl |>.trans f1)
        have hiL : (i : Int) < (L : Int) := by omega
        clear h hd hdn hh HH i1 i2 hw hq hkb hie hl2 hl hy f0 hrw hL
        go_enter Tryz.func31, Tryz.ntmps31
        go_wp2_with (first
          | (go_at_call 21; (with_reducible refine (HD.out _ (Below.refl _ _)).mono ?_); rintro e w3 ⟨rfl, rfl⟩)
          | (go_at_call 63; (with_reducible refine (HHq.out _ (Below.refl _ _)).mono ?_); rintro e w4 ⟨rfl, hb4⟩)
          | (go_at_call 64; (with_reducible refine (HP.out _ hb4).mono ?_); rintro e w5 ⟨rfl, hb5⟩; have d4 := HC4.out _ (bel2 hb4 hb5); have g1 := HF1.out _ (bel2 hb4 hb5); have htx := HTX.out _ (bel2 hb4 hb5)))
        go_ret2
        rw [HE.out]
        exact ⟨rfl, bel2 hb4 hb5⟩
  · rw [hdn] at HD
    have HE := Lib.hid (show readD d q = ([], 6) by unfold readD; rw [hdn]; rfl)
    clear h hd hdn HH
    go_enter Tryz.func31, Tryz.ntmps31
    go_wp2_with (go_at_call 21; (with_reducible refine (HD.out _ (Below.refl _ _)).mono ?_); rintro e w3 ⟨rfl, rfl⟩)
    go_ret2
    rw [HE.out]
    exact ⟨rfl, Below.refl _ _⟩
end Go.Proofs.YtcmjambbdfangaaGreat.Flash
/-
  The landed device: Program.
-/
set_option linter.unusedVariables false
set_option linter.unusedSimpArgs false
namespace Go.Proofs.YtcmjambbdfangaaGreat.Flash
open Go.RowKit
open Go.Proofs.YtcmjambbdfangaaGreat.Own
open Tup Bytes Foot

theorem infoChange : (Tryz.prog.info? 104).map (fun i => (i.zero, i.size, i.bytes)) = some (some (.agg #[.int .i64 0, .slice none 0 0]), 2, 32) := by kernel_rfl
/-- a page is laid behind what is pending: its bytes are a new row -/
theorem FAt.push {w0 w5 w6 : World} {p : Nat} {e : Dev} {bB cap : Nat} {wv : Value} {fy : Nat} {E : List Ent} (h0 : FAt w0 p e bB cap wv fy E) (hb : Below w0.heap.size w0 w5) (o : Obj) (y : Ent)
    (hy : Row8 w5 y.g y.b ∧ y.b.length ≤ y.c ∧ w0.heap.size ≤ y.g ∧ y.g < w5.heap.size) {g cap2 n : Nat} (hn : n = E.length)
    (hown : w6.ownsRow 0 104 2 (.slice (some ⟨g, 0, none⟩) (n + 1) cap2) (n + 1) (rowC E ++ rowC [y])) (hgr : (w5.alloc o).grownBy w6 wv.ownBlock) (hat : wv.ownBlock = some g ∨ g = (w5.alloc o).heap.size) :
    FAt (w6.setCell ⟨p, 4, none⟩ (.slice (some ⟨g, 0, none⟩) (n + 1) cap2)) p { e with wait := e.wait ++ [(y.q, y.b)] } bB cap (.slice (some ⟨g, 0, none⟩) (n + 1) cap2) fy (E ++ [y])
    ∧ After (footF p bB wv E) w0 (w6.setCell ⟨p, 4, none⟩ (.slice (some ⟨g, 0, none⟩) (n + 1) cap2)) (footF p bB (.slice (some ⟨g, 0, none⟩) (n + 1) cap2) (E ++ [y])) := by
  have h := h0.below hb
  obtain ⟨hy1, hy2, hy3, hy4⟩ := hy
  have hp := h.var.lt
  have hB := h.lt
  have hp0 := h0.var.lt
  have hB0 := h0.lt
  have hw0 : ∀ k, wv.ownBlock = some k → k < w0.heap.size := fun k hk => Flash.owns_lt h0.wait hk
  have hsz := hb.size
  have hs : (w5.alloc o).heap.size = w5.heap.size + 1 := by simp
  have hgp : g ≠ p := by
    rcases hat with x | x
    · intro z; subst z; exact h.ne2 x
    · omega
  have hgB : g ≠ bB := by
    rcases hat with x | x
    · intro z; subst z; exact h.ne3 x
    · omega
  have hgy : g ≠ y.g := by
    rcases hat with x | x
    · have := hw0 g x; omega
    · omega
  have hyw : wv.ownBlock ≠ some y.g := fun z => by have := hw0 _ z; omega
  have hv6 : Var w6 p _ _ := (h.var.alloc o).kept hgr h.ne2
  have g1 : Grows (fun k => wv.ownBlock = some k) w5 w6 := (Grows.alloc (fun _ => False) w5 o).mono (fun _ x => x.elim) |>.trans (Grows.grown (S := fun k => wv.ownBlock = some k) hgr (fun k hk => hk)) (fun j hj => .inl hj)
  have hr6 : Row8 w6 bB e.img := h.row.grows g1 h.ne3
  have g2 : Grows (· = p) w6 (w6.setCell ⟨p, 4, none⟩ (.slice (some ⟨g, 0, none⟩) (n + 1) cap2)) := Grows.set _ _ _ rfl
  refine ⟨⟨hv6.set 4 _, hr6.grows g2 h.ne1, Nat.lt_of_lt_of_le hB (Nat.le_trans g1.size g2.size), ?_, ?_, ?_, h.fuz, h.fuz0, h.capl, h.ne1, ?_, ?_⟩, ?_, ?_⟩
  · have hl : (E ++ [y]).length = n + 1 := by simp [hn]
    rw [hl, rowC_append]
    exact owns_grows hown g2 (fun j hj => by
      have : g = j := by simpa [Value.ownBlock] using hj
      omega)
  · show e.wait ++ [(y.q, y.b)] = (E ++ [y]).map entW
    rw [List.map_append, h.ents]; rfl
  · intro x hx
    rcases List.mem_append.1 hx with hx | hx
    · obtain ⟨a, b, c, u, v, z⟩ := h.rows x hx
      refine ⟨(a.grows g1 z).grows g2 u, b, Nat.lt_of_lt_of_le c (Nat.le_trans g1.size g2.size), u, v, ?_⟩
      simp only [Value.ownBlock, ne_eq, Option.some.injEq]
      rcases hat with k | k
      · intro q; subst q; exact z k
      · omega
    · obtain rfl : x = y := by simpa using hx
      refine ⟨(hy1.grows g1 hyw).grows g2 (by show ¬ _ = _; omega), hy2, Nat.lt_of_lt_of_le hy4 (Nat.le_trans g1.size g2.size), by omega, by omega, ?_⟩
      simp only [Value.ownBlock, ne_eq, Option.some.injEq]; exact hgy
  · simp [Value.ownBlock]; exact hgp
  · simp [Value.ownBlock]; exact hgB
  · exact ((Grows.of_below (S := fun _ => False) hb).mono (S' := footF p bB wv E) (fun _ x => x.elim)).trans ((g1.mono (S' := footF p bB wv E) (fun j hj => Or.inr (Or.inr (Or.inl hj)))).trans g2 (fun j hj => .inl (.inl hj))) (fun j hj => .inl hj)
  · rintro j (rfl | rfl | hj | ⟨x, hx, rfl⟩)
    · exact .inl (.inl rfl)
    · exact .inl (.inr (.inl rfl))
    · have : g = j := by simpa [Value.ownBlock] using hj
      subst this
      rcases hat with x | x
      · exact .inl (.inr (.inr (.inl x)))
      · exact .inr (by omega)
    · rcases List.mem_append.1 hx with hx | hx
      · exact .inl (.inr (.inr (.inr ⟨x, hx, rfl⟩)))
      · obtain rfl : x = y := by simpa using hx
        exact .inr hy3
theorem FAt.push_var {w5 w6 : World} {p : Nat} {e : Dev} {bB cap : Nat} {wv : Value} {fy : Nat} {E : List Ent} (h : FAt w5 p e bB cap wv fy E) (o : Obj) (hgr : (w5.alloc o).grownBy w6 wv.ownBlock) : w6.cell? ⟨p, 4, none⟩ = some wv ∧ w6.frozen? ⟨p, 4, none⟩ = false :=
  ⟨((h.var.alloc o).kept hgr h.ne2).cell (j := 4) rfl, ((h.var.alloc o).kept hgr h.ne2).frozen 4⟩
theorem blow_wait (d : Dev) (l : List (Nat × List UInt8)) : ({ d with wait := l } : Dev).blow = (d.blow.1, { d.blow.2 with wait := l }) := by
  unfold Dev.blow
  obtain ⟨a, b, c, e, f, g, h⟩ := d
  rcases g with _ | _ | k <;> rfl
theorem code_nat (d : Dev) : (((if d.blow.1 then 6 else 0 : Nat)) : Int) = d.code := by unfold Dev.code; split <;> rfl
theorem code_wait (d : Dev) (l : List (Nat × List UInt8)) : ({ d with wait := l } : Dev).code = d.code := by unfold Dev.code; rw [blow_wait]
theorem after_mid {S T : Nat → Prop} {w w1 w' : World} (hb : Below w.heap.size w w1) (h : After S w1 w' T) : After S w w' T := After.trans (after_below hb) h
set_option maxRecDepth 100000 in
set_option maxHeartbeats 8000000 in
theorem atProgram_any {w : World} {p : Nat} {d : Dev} {bB cap : Nat} {wv : Value} {fz : Nat} {E : List Ent} (h : FAt w p d bB cap wv fz E) (hd : d.Ok) (q : Int) (b : ByteArray) :
    Calls Tryz.prog 48 #[ptr p, .int .i64 q, .string b] w fun e w' => e = .returned (.int .i64 ((programD d q b.data.toList).1 : Int)) ∧ ∃ S, FHas w' p (programD d q b.data.toList).2 S ∧ After (footF p bB wv E) w w' S := by
  have HA := Lib.hid h
  have HD := Lib.hid (fun w' (hb : Below w.heap.size w w') => atDown_any (h.below hb))
  have HH := Lib.hid (fun w' (hb : Below w.heap.size w w') q => atHas_any (h.below hb) hd q)
  unfold ptr at HD HH ⊢
  rcases hdn : d.down with _ | _
  · rw [hdn] at HD
    rcases hh : d.has q with _ | _
    · have HHq := Lib.hid (fun w' hb => HH.out w' hb q)
      rw [hh] at HHq
      have HE := Lib.hid (show programD d q b.data.toList = (1, d) from program_arg hdn (.inl hh))
      clear h hd hdn hh HH
      go_enter Tryz.func48, Tryz.ntmps48
      go_wp2_with (first
        | (go_at_call 21; (with_reducible refine (HD.out _ (Below.refl _ _)).mono ?_); rintro e w3 ⟨rfl, rfl⟩)
        | (go_at_call 63; (with_reducible refine (HHq.out _ (Below.refl _ _)).mono ?_); rintro e w4 ⟨rfl, hb4⟩))
      go_ret
      rw [HE.out]
      exact ⟨rfl, _, ⟨_, _, _, _, _, HA.out.below hb4, rfl⟩, after_below hb4⟩
    · obtain ⟨i1, i2⟩ := has_lt hh
      obtain ⟨k, rfl⟩ : ∃ k : Nat, q = (k : Int) := ⟨q.toNat, by omega⟩
      rw [Int.toNat_natCast] at i1
      have HHq := Lib.hid (fun w' hb => HH.out w' hb (k : Int))
      rw [hh] at HHq
      have c0 := h.var.cell (j := 0) rfl
      have hpl := h.var.lt
      have HC0 := Lib.hid (fun wx (hb : Below w.heap.size w wx) => hb.cell (p := ⟨p, 0, none⟩) hpl |>.trans c0)
      by_cases hsz : b.size = d.pg
      · have e1 : ((b.size : Int) != (d.pg : Int)) = false := by simp [hsz]
        have e2 : ((b.size : Int) == (d.pg : Int)) = true := by simp [hsz]
        have e3 : (b.size == d.pg) = true := by simp [hsz]
        have hbl : b.data.toList.length = d.pg := by simpa using hsz
        have hn120 := hd.n_le
        have HP := Lib.hid (fun w' (hb : Below w.heap.size w w') => atAnyPending_any (h.below hb) hd k 1 (by omega) (by omega))
        rw [anyOf_one, show ((1 : Nat) : Int) = 1 from rfl] at HP
        unfold ptr at HP
        rcases hwt : d.waits k with _ | _
        · rw [hwt] at HP
          have HS := Lib.hid (fun w' (hb : Below w.heap.size w w') => atStands_any (h.below hb) hd k i1)
          have HB := Lib.hid (fun w' (hb : Below w.heap.size w w') => isBlank_any (h.below hb).row (k * d.pg) d.pg (cap - k * d.pg) (hd.page i1) (by have := hd.img_le; omega))
          rw [← held_off hwt] at HB
          unfold ptr at HS
          rcases hbk : blank (d.held k) with _ | _
          · rw [hbk] at HB
            have HE := Lib.hid (show programD d k b.data.toList = (7, d) from program_state hdn i1 hbl (.inr hbk))
            clear h hdn hh HH hwt hbk i1 i2 hbl hsz c0 hpl hd hn120
            go_enter Tryz.func48, Tryz.ntmps48
            go_wp2_with (first
              | (go_at_call 21; (with_reducible refine (HD.out _ (Below.refl _ _)).mono ?_); rintro e w3 ⟨rfl, rfl⟩)
              | (go_at_call 63; (with_reducible refine (HHq.out _ (Below.refl _ _)).mono ?_); rintro e w4 ⟨rfl, hb4⟩; have d0 := HC0.out _ hb4)
              | (go_at_call 76; (with_reducible refine (HP.out _ hb4).mono ?_); rintro e w5 ⟨rfl, hb5⟩)
              | (go_at_call 65; (with_reducible refine (HS.out _ (bel2 hb4 hb5)).mono ?_); rintro e w6 ⟨rfl, k6, rfl⟩)
              | (go_at_call 86; (with_reducible refine (HB.out _ (bel2 (bel2 hb4 hb5) (below_drewN _ _))).mono ?_); rintro e w7 ⟨rfl, rfl⟩))
            go_ret
            rw [HE.out]
            have hbx := bel2 (bel2 hb4 hb5) (below_drewN _ k6)
            exact ⟨rfl, _, ⟨_, _, _, _, _, HA.out.below hbx, rfl⟩, after_below hbx⟩
          · rw [hbk] at HB
            have HE := Lib.hid (program_ok hdn i1 hbl hwt hbk)
            have HEN := Lib.hid (code_nat d)
            have hwl := hd.wait_le
            have hEL := h.wlen
            obtain ⟨a, c, rfl⟩ := h.slice
            obtain ⟨L, hL⟩ : ∃ L, E.length = L := ⟨_, rfl⟩
            rw [hL] at h
            have HA := Lib.hid h
            have HL := Lib.hid hL
            have HBL := Lib.hid hbl
            have hL120 : L ≤ 120 := by omega
            have c4 := h.var.cell (j := 4) rfl
            have HC4 := Lib.hid (fun wx (hb : Below w.heap.size w wx) => hb.cell (p := ⟨p, 4, none⟩) hpl |>.trans c4)
            have HO := Lib.hid (fun wx (hb : Below w.heap.size w wx) => show wx.ownsRow 0 104 2 (.slice a L c) L (rowC E) by have := (h.below hb).wait; rw [hL] at this; exact this)
            have hcv := fun w => Lib.run_convert_string_bytes (P := Tryz.prog) w 9 55 5 b Tryz.underlying9 Tryz.underlying55 Tryz.underlying5
            have hcap : ∀ w, d.pg ≤ grownCap w d.pg 0 5 := fun w => grownCap_ge w d.pg 0 5
            have HCAP := Lib.hid hcap
            clear h hdn hh HH hwt hbk i1 i2 hbl c0 hpl hd hn120 hL c4 hcap
            go_enter Tryz.func48, Tryz.ntmps48
            go_wp2_with (first
              | (go_at_call 21; (with_reducible refine (HD.out _ (Below.refl _ _)).mono ?_); rintro e w3 ⟨rfl, rfl⟩)
              | (go_at_call 63; (with_reducible refine (HHq.out _ (Below.refl _ _)).mono ?_); rintro e w4 ⟨rfl, hb4⟩; have d0 := HC0.out _ hb4)
              | (go_at_call 76; (with_reducible refine (HP.out _ hb4).mono ?_); rintro e w5 ⟨rfl, hb5⟩)
              | (go_at_call 65; (with_reducible refine (HS.out _ (bel2 hb4 hb5)).mono ?_); rintro e w6 ⟨rfl, k6, rfl⟩)
              | (go_at_call 86; (with_reducible refine (HB.out _ (bel2 (bel2 hb4 hb5) (below_drewN _ _))).mono ?_); rintro e w7 ⟨rfl, rfl⟩; have d4 := HC4.out _ (bel2 (bel2 hb4 hb5) (below_drewN _ k6)); have HBX := Lib.hid (bel2 (bel2 (bel2 hb4 hb5) (below_drewN _ k6)) (bytes_below (w5.drewN k6) 5 b)))
              | (go_at_call 70; (with_reducible refine HCT.out.mono ?_); rintro e w8 ⟨rfl, hg8, fy, hF8⟩)
              | (at_builtin; (refine append_tup rfl _ _ 83 rfl 0 104 (.agg #[.int .i64 0, .slice none 0 0]) 2 32 Tryz.underlying83 infoChange rfl (by decide) _ L (rowC E) rfl (HO.out _ (bel2 HBX.out (Geom.bel_alloc _ _))) _ [.int .i64 (k : Int), .slice (some ⟨w5.heap.size, 0, none⟩) d.pg (grownCap (w5.drewN k6) d.pg 0 5)] rfl rfl ?c0 ?c1 ?c2 ?c3 ?c5 ?_); (case c0 => exact lies_new _ [.int .i64 (k : Int), .slice (some ⟨w5.heap.size, 0, none⟩) d.pg (grownCap (w5.drewN k6) d.pg 0 5)] _); (case c1 => simp [Value.oneCell']); (case c2 => omega); (case c3 => (unfold maxLen; omega)); (case c5 => exact Nat.zero_le _); intro g cap2 w6 hown6 hgrow6 hat6 hlt6; have hpv := (HA.out.below HBX.out).push_var _ hgrow6; have v1 := hpv.1; have v2 := hpv.2; clear hpv; have HK := Lib.hid (HA.out.push HBX.out _ ⟨k, b.data.toList, w5.heap.size, grownCap (w5.drewN k6) d.pg 0 5⟩ ⟨Row8.of_string (w5.drewN k6) 5 b, by rw [HBL.out]; exact HCAP.out _, (bel2 hb4 hb5).size, by rw [Lib.bytesWorld_size]; exact Nat.lt_succ_self _⟩ HL.out.symm (by simp only [rowC, List.flatMap_cons, List.flatMap_nil, List.append_nil, HBL.out]; exact hown6) hgrow6 hat6); have HCT := Lib.hid (atCount_any HK.out.1); unfold ptr at HCT; clear hown6 hgrow6 hat6 hlt6))
            go_ret
            rw [HE.out]
            rw [blow_wait] at hF8
            refine ⟨?_, _, ⟨_, _, _, _, _, hF8, rfl⟩, ?_⟩
            · rw [code_wait, ← HEN.out]; rfl
            · rw [HL.out]; exact After.trans HK.out.2 (After.of_grows hg8 (fun j hj => .inl hj))
        · rw [hwt] at HP
          have HE := Lib.hid (show programD d k b.data.toList = (7, d) from program_state hdn i1 hbl (.inl hwt))
          clear h hdn hh HH hwt i1 i2 hbl hsz c0 hpl hd hn120
          go_enter Tryz.func48, Tryz.ntmps48
          go_wp2_with (first
            | (go_at_call 21; (with_reducible refine (HD.out _ (Below.refl _ _)).mono ?_); rintro e w3 ⟨rfl, rfl⟩)
            | (go_at_call 63; (with_reducible refine (HHq.out _ (Below.refl _ _)).mono ?_); rintro e w4 ⟨rfl, hb4⟩; have d0 := HC0.out _ hb4)
            | (go_at_call 76; (with_reducible refine (HP.out _ hb4).mono ?_); rintro e w5 ⟨rfl, hb5⟩))
          go_ret
          rw [HE.out]
          exact ⟨rfl, _, ⟨_, _, _, _, _, HA.out.below (bel2 hb4 hb5), rfl⟩, after_below (bel2 hb4 hb5)⟩
      · have e1 : ((b.size : Int) != (d.pg : Int)) = true := by simp; omega
        have e2 : ((b.size : Int) == (d.pg : Int)) = false := by simp; omega
        have e3 : (b.size == d.pg) = false := by simp; omega
        have HE := Lib.hid (show programD d k b.data.toList = (1, d) from program_arg hdn (.inr (by simpa using hsz)))
        clear h hdn hh HH i1 i2 c0 hpl hd hsz
        go_enter Tryz.func48, Tryz.ntmps48
        go_wp2_with (first
          | (go_at_call 21; (with_reducible refine (HD.out _ (Below.refl _ _)).mono ?_); rintro e w3 ⟨rfl, rfl⟩)
          | (go_at_call 63; (with_reducible refine (HHq.out _ (Below.refl _ _)).mono ?_); rintro e w4 ⟨rfl, hb4⟩; have d0 := HC0.out _ hb4))
        go_ret
        rw [HE.out]
        exact ⟨rfl, _, ⟨_, _, _, _, _, HA.out.below hb4, rfl⟩, after_below hb4⟩
  · rw [hdn] at HD
    have HE := Lib.hid (show programD d q b.data.toList = (6, d) by unfold programD; rw [hdn]; rfl)
    clear h hdn HH hd
    go_enter Tryz.func48, Tryz.ntmps48
    go_wp2_with (go_at_call 21; (with_reducible refine (HD.out _ (Below.refl _ _)).mono ?_); rintro e w3 ⟨rfl, rfl⟩)
    go_ret
    rw [HE.out]
    exact ⟨rfl, _, ⟨_, _, _, _, _, HA.out, rfl⟩, After.refl _ _⟩
end Go.Proofs.YtcmjambbdfangaaGreat.Flash
