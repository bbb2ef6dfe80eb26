/-
  The landed device in memory, and what its small calls answer.
-/
import Derived.Test.YtgcbdekdjdlfaaaFlashN
import Derived.Test.YtgcbdekdjdlfaaaGeomX
set_option linter.unusedVariables false
set_option linter.unusedSimpArgs false
namespace Go.Proofs.Ytgcbdekdjdlfaaa.Flash
open Go.RowKit
open Go.Proofs.Ytgcbdekdjdlfaaa.Own
open Tup Bytes Foot
open Go.Proofs.Ytgcbdekdjdlfaaa.Region (fill Then Deps Each wp_region_is wp_region_is_tail)

/-- a page that is pending, as the landed device has it: its bytes are a row of their own -/
structure Ent where
  q : Nat
  b : List UInt8
  g : Nat
  c : Nat
def rowC (l : List Ent) : List Value := l.flatMap fun x => [.int .i64 (x.q : Int), .slice (some ⟨x.g, 0, none⟩) x.b.length x.c]
theorem rowC_length (l : List Ent) : (rowC l).length = l.length * 2 := by
  induction l with
  | nil => rfl
  | cons x r ih => simp only [rowC, List.flatMap_cons, List.length_append] at ih ⊢; simp only [List.length_cons, List.length_nil, ih]; omega
theorem rowC_append (a b : List Ent) : rowC (a ++ b) = rowC a ++ rowC b := by simp [rowC]
theorem rowC_get {l : List Ent} {k : Nat} (h : k < l.length) : (rowC l)[2 * k]? = some (.int .i64 (l[k].q : Int)) ∧ (rowC l)[2 * k + 1]? = some (.slice (some ⟨l[k].g, 0, none⟩) l[k].b.length l[k].c) := by
  induction l generalizing k with
  | nil => simp at h
  | cons x r ih =>
    cases k with
    | zero => exact ⟨rfl, rfl⟩
    | succ k =>
      have := ih (k := k) (by simpa using h)
      simp only [rowC, List.flatMap_cons] at this ⊢
      rw [show 2 * (k + 1) = 2 * k + 2 by omega, show 2 * k + 2 + 1 = (2 * k + 1) + 2 by omega]
      exact this
def entW (x : Ent) : Nat × List UInt8 := (x.q, x.b)
/-- the landed device, at p: its bytes at bB, what is pending in wv -/
structure FAt (w : World) (p : Nat) (d : Dev) (bB cap : Nat) (wv : Value) (fz : Nat) (E : List Ent) : Prop where
  var : Var w p 66 [.int .i64 (d.pg : Int), .int .i64 (d.pgs : Int), .int .i64 (d.rgs : Int), .slice (some ⟨bB, 0, none⟩) d.img.length cap, wv, .bool d.down, .bool d.fuse.isSome, .int .i64 (fz : Int)]
  row : Row8 w bB d.img
  lt : bB < w.heap.size
  wait : w.ownsRow 0 74 2 wv E.length (rowC E)
  ents : d.wait = E.map entW
  rows : ∀ x ∈ E, Row8 w x.g x.b ∧ x.b.length ≤ x.c ∧ x.g < w.heap.size ∧ x.g ≠ p ∧ x.g ≠ bB ∧ wv.ownBlock ≠ some x.g
  fuz : ∀ k, d.fuse = some k → fz = k
  fuz0 : fz < 9223372036854775808
  capl : d.img.length ≤ cap
  ne1 : bB ≠ p
  ne2 : wv.ownBlock ≠ some p
  ne3 : wv.ownBlock ≠ some bB
/-- the blocks that it has -/
def footF (p bB : Nat) (wv : Value) (E : List Ent) : Nat → Prop := fun k => k = p ∨ k = bB ∨ wv.ownBlock = some k ∨ ∃ x ∈ E, x.g = k
theorem FAt.grows {S : Nat → Prop} {w w' : World} {p : Nat} {d : Dev} {bB cap : Nat} {wv : Value} {fz : Nat} {E : List Ent} (h : FAt w p d bB cap wv fz E) (g : Grows S w w') (hn : ∀ k, footF p bB wv E k → ¬ S k) : FAt w' p d bB cap wv fz E :=
  ⟨g.var h.var (hn p (.inl rfl)), h.row.grows g (hn bB (.inr (.inl rfl))), Nat.lt_of_lt_of_le h.lt g.size, owns_grows h.wait g (fun k hk => hn k (.inr (.inr (.inl hk)))), h.ents,
    fun x hx => by
      obtain ⟨a, b, c, e⟩ := h.rows x hx
      exact ⟨a.grows g (hn _ (.inr (.inr (.inr ⟨x, hx, rfl⟩)))), b, Nat.lt_of_lt_of_le c g.size, e⟩,
    h.fuz, h.fuz0, h.capl, h.ne1, h.ne2, h.ne3⟩
theorem FAt.below {w w' : World} {p : Nat} {d : Dev} {bB cap : Nat} {wv : Value} {fz : Nat} {E : List Ent} (h : FAt w p d bB cap wv fz E) (g : Below w.heap.size w w') : FAt w' p d bB cap wv fz E := h.grows (Grows.of_below (S := fun _ => False) g) (fun _ _ x => x)
theorem FAt.foot_lt {w : World} {p : Nat} {d : Dev} {bB cap : Nat} {wv : Value} {fz : Nat} {E : List Ent} (h : FAt w p d bB cap wv fz E) : ∀ k, footF p bB wv E k → k < w.heap.size := by
  rintro k (rfl | rfl | hk | ⟨x, hx, rfl⟩)
  · exact h.var.lt
  · exact h.lt
  · exact Flash.owns_lt h.wait hk
  · exact (h.rows x hx).2.2.1
theorem FAt.wlen {w : World} {p : Nat} {d : Dev} {bB cap : Nat} {wv : Value} {fz : Nat} {E : List Ent} (h : FAt w p d bB cap wv fz E) : E.length = d.wait.length := by rw [h.ents, List.length_map]
theorem FAt.slice {w : World} {p : Nat} {d : Dev} {bB cap : Nat} {wv : Value} {fz : Nat} {E : List Ent} (h : FAt w p d bB cap wv fz E) : ∃ a c, wv = .slice a E.length c := owns_slice h.wait
/-- what stands at p is turned alone -/
theorem FAt.turn {w w' : World} {p : Nat} {d e : Dev} {bB cap : Nat} {wv : Value} {fz fy : Nat} {E : List Ent} (h : FAt w p d bB cap wv fz E) (g : Grows (· = p) w w')
    (hv : Var w' p 66 [.int .i64 (e.pg : Int), .int .i64 (e.pgs : Int), .int .i64 (e.rgs : Int), .slice (some ⟨bB, 0, none⟩) e.img.length cap, wv, .bool e.down, .bool e.fuse.isSome, .int .i64 (fy : Int)])
    (hi : e.img = d.img) (hw : e.wait = d.wait) (hf : ∀ k, e.fuse = some k → fy = k) (hf0 : fy < 9223372036854775808) : FAt w' p e bB cap wv fy E :=
  ⟨hv, by rw [hi]; exact h.row.grows g h.ne1, Nat.lt_of_lt_of_le h.lt g.size, owns_grows h.wait g (fun k hk e => h.ne2 (by rw [← e]; exact hk)), by rw [hw]; exact h.ents,
    fun x hx => by
      obtain ⟨a, b, c, u, v⟩ := h.rows x hx
      exact ⟨a.grows g u, b, Nat.lt_of_lt_of_le c g.size, u, v⟩,
    hf, hf0, by rw [hi]; exact h.capl, h.ne1, h.ne2, h.ne3⟩
theorem FAt.pend {w : World} {p : Nat} {d : Dev} {bB cap : Nat} {a : Option Addr} {m c fz k : Nat} {E : List Ent} (h : FAt w p d bB cap (.slice a m c) fz E) (hk : k < E.length) :
    ∃ g, a = some ⟨g, 0, none⟩ ∧ w.cell? ⟨g, k * 2, none⟩ = some (.int .i64 (E[k].q : Int)) ∧ w.cell? ⟨g, k * 2 + 1, none⟩ = some (.slice (some ⟨E[k].g, 0, none⟩) E[k].b.length E[k].c) := by
  obtain ⟨h0, h1⟩ := rowC_get hk
  rcases At.of_owns h.wait with hn | ⟨b, off, ha, hl⟩
  · have := rowC_length E
    rw [hn] at this
    simp at this; omega
  · obtain ⟨_, rfl, _, _⟩ := owns_block h.wait b off ha
    refine ⟨b, ha, ?_, ?_⟩
    · have := hl _ _ h0
      rwa [Nat.zero_add, Nat.mul_comm] at this
    · have := hl _ _ h1
      rwa [Nat.zero_add, Nat.mul_comm] at this
/-- the landed device, with the blocks that it has -/
def FHas (w : World) (p : Nat) (d : Dev) (S : Nat → Prop) : Prop := ∃ bB cap wv fz E, FAt w p d bB cap wv fz E ∧ S = footF p bB wv E
theorem FHas.grows {T S : Nat → Prop} {w w' : World} {p : Nat} {d : Dev} (h : FHas w p d S) (g : Grows T w w') (hn : ∀ k, S k → ¬ T k) : FHas w' p d S := by
  obtain ⟨a, b, c, f, E, h, rfl⟩ := h
  exact ⟨a, b, c, f, E, h.grows g hn, rfl⟩
theorem FHas.lt {w : World} {p : Nat} {d : Dev} {S : Nat → Prop} (h : FHas w p d S) : ∀ k, S k → k < w.heap.size := by
  obtain ⟨a, b, c, f, E, h, rfl⟩ := h
  exact h.foot_lt
set_option maxRecDepth 100000 in
theorem atDown_any {w : World} {p : Nat} {d : Dev} {bB cap : Nat} {wv : Value} {fz : Nat} {E : List Ent} (h : FAt w p d bB cap wv fz E) :
    Calls Try.prog 23 #[ptr p] w fun e w' => e = .returned (.bool d.down) ∧ w = w' := by
  have c5 := h.var.cell (j := 5) rfl
  clear h
  unfold ptr
  go_enter Try.func23, Try.ntmps23
  go_wp2
  go_ret
  exact ⟨rfl, rfl⟩
set_option maxRecDepth 100000 in
theorem atPending_any {w : World} {p : Nat} {d : Dev} {bB cap : Nat} {wv : Value} {fz : Nat} {E : List Ent} (h : FAt w p d bB cap wv fz E) :
    Calls Try.prog 24 #[ptr p] w fun e w' => e = .returned (.int .i64 (d.wait.length : Int)) ∧ w = w' := by
  have hL := h.wlen
  obtain ⟨a, c, rfl⟩ := h.slice
  have c4 := h.var.cell (j := 4) rfl
  rw [hL] at c4
  clear h hL
  unfold ptr
  go_enter Try.func24, Try.ntmps24
  go_wp2
  go_ret
  exact ⟨rfl, rfl⟩
set_option maxRecDepth 100000 in
theorem atImage_any {w : World} {p : Nat} {d : Dev} {bB cap : Nat} {wv : Value} {fz : Nat} {E : List Ent} (h : FAt w p d bB cap wv fz E) :
    Calls Try.prog 21 #[ptr p] w fun e w' => e = .returned (.string (bs d.img)) ∧ w = w' := by
  have c3 := h.var.cell (j := 3) rfl
  have htx := text8 h.row 0 d.img.length cap (by omega)
  have hc : cut d.img 0 d.img.length = d.img := by simp [cut]
  rw [hc] at htx
  clear h hc
  unfold ptr
  go_enter Try.func21, Try.ntmps21
  go_wp2
  go_ret
  exact ⟨rfl, rfl⟩
set_option maxRecDepth 100000 in
theorem atGeom_any {w : World} {p : Nat} {d : Dev} {bB cap : Nat} {wv : Value} {fz : Nat} {E : List Ent} (h : FAt w p d bB cap wv fz E) :
    Calls Try.prog 15 #[ptr p] w fun e w' => e = .returned (Geom.gV ⟨d.pg, d.pgs, d.rgs⟩) ∧ Below w.heap.size w w' := by
  have c0 := h.var.cell (j := 0) rfl
  have c1 := h.var.cell (j := 1) rfl
  have c2 := h.var.cell (j := 2) rfl
  have hp := h.var.lt
  clear h
  unfold ptr Geom.gV
  go_enter Try.func15, Try.ntmps15
  go_wp2
  refine bodyPost_ret (v := .agg #[.int .i64 (d.pg : Int), .int .i64 (d.pgs : Int), .int .i64 (d.rgs : Int)]) (by simp [results, Try.results15, go_sem]) rfl ⟨rfl, Geom.bel_alloc _ _⟩
/-- what a call that counts answers -/
def Dev.code (d : Dev) : Int := if d.blow.1 then 6 else 0
theorem code_ok {d : Dev} (h : d.blow.1 = false) : d.code = 0 := by unfold Dev.code; rw [h]; rfl
theorem code_blown {d : Dev} (h : d.blow.1 = true) : d.code = 6 := by unfold Dev.code; rw [h]; rfl
set_option maxRecDepth 100000 in
theorem atCount_any {w : World} {p : Nat} {d : Dev} {bB cap : Nat} {wv : Value} {fz : Nat} {E : List Ent} (h : FAt w p d bB cap wv fz E) :
    Calls Try.prog 49 #[ptr p] w fun e w' => e = .returned (.int .i64 d.code) ∧ Grows (· = p) w w' ∧ ∃ fy, FAt w' p d.blow.2 bB cap wv fy E := by
  have c5 := h.var.cell (j := 5) rfl
  have c6 := h.var.cell (j := 6) rfl
  have c7 := h.var.cell (j := 7) rfl
  have f5 := h.var.frozen 5
  have f7 := h.var.frozen 7
  have HA := Lib.hid h
  unfold ptr
  rcases hf : d.fuse with _ | k
  · rw [hf] at c6
    have HE := Lib.hid (show d.blow = (false, d) by unfold Dev.blow; rw [hf])
    have HC := Lib.hid (code_ok (d := d) (by rw [HE.out]))
    clear h hf
    go_enter Try.func49, Try.ntmps49
    go_wp2
    go_ret
    rw [HE.out, HC.out]
    exact ⟨rfl, .refl _ _, fz, HA.out⟩
  · obtain rfl := h.fuz k hf
    rw [hf] at c6
    cases fz with
    | zero =>
      have HE := Lib.hid (show d.blow = (true, { d with down := true }) by unfold Dev.blow; rw [hf])
      have HF := Lib.hid hf
      have HC := Lib.hid (code_blown (d := d) (by rw [HE.out]))
      clear h hf
      go_enter Try.func49, Try.ntmps49
      go_wp2
      go_ret
      rw [HE.out, HC.out]
      refine ⟨rfl, Grows.set _ _ _ rfl, 0, HA.out.turn (Grows.set _ _ _ rfl) ?_ rfl rfl HA.out.fuz HA.out.fuz0⟩
      exact HA.out.var.set 5 (.bool true)
    | succ k =>
      have HE := Lib.hid (show d.blow = (false, { d with fuse := some k }) by unfold Dev.blow; rw [hf])
      have HF := Lib.hid hf
      have HC := Lib.hid (code_ok (d := d) (by rw [HE.out]))
      have b0 := h.fuz0
      have d1 : decide (0 < ((k + 1 : Nat) : Int)) = true := decide_eq_true (by omega)
      have HS := Lib.hid (show ((k + 1 : Nat) : Int) - 1 = (k : Int) by omega)
      have c7' : w.cell? ⟨p, 7, none⟩ = some (.int .i64 ((k + 1 : Nat) : Int)) := c7
      generalize hz : ((k + 1 : Nat) : Int) = z at *
      clear h hf c7
      go_enter Try.func49, Try.ntmps49
      go_wp2
      go_ret
      rw [HE.out, HC.out]
      refine ⟨rfl, Grows.set _ _ _ rfl, k, HA.out.turn (Grows.set _ _ _ rfl) ?_ rfl rfl (by intro j hj; simpa using hj) (by have := HA.out.fuz0; omega)⟩
      have := HA.out.var.set 7 (.int .i64 (z - 1))
      rw [HF.out] at this
      rw [HS.out] at this ⊢
      exact this
set_option maxRecDepth 100000 in
theorem atFuse_any {w : World} {p : Nat} {d : Dev} {bB cap : Nat} {wv : Value} {fz : Nat} {E : List Ent} (h : FAt w p d bB cap wv fz E) (n : Int) (hn : n < 9223372036854775808) :
    Calls Try.prog 30 #[ptr p, .int .i64 n] w fun e w' => e = .returned (.tuple #[]) ∧ Grows (· = p) w w' ∧ ∃ fy, FAt w' p (fuseD d n) bB cap wv fy E := by
  have c6 := h.var.cell (j := 6) rfl
  have f6 := h.var.frozen 6
  have c7 := h.var.cell (j := 7) rfl
  have f7 := h.var.frozen 7
  have HA := Lib.hid h
  obtain ⟨z, hz⟩ : ∃ z : Nat, (z : Int) = max n 0 := ⟨(max n 0).toNat, by omega⟩
  have hmx := fun w ts t => max2 (P := Try.prog) w ts t n 0 (z : Int) hz
  have hd : decide (0 ≤ n) = (fuseD d n).fuse.isSome := by
    unfold fuseD
    by_cases h0 : n < 0
    · simp [h0]
    · simp [h0]; omega
  have HF := Lib.hid (show ∀ k, (fuseD d n).fuse = some k → z = k by
    unfold fuseD
    intro k hk
    by_cases h0 : n < 0
    · simp [h0] at hk
    · simp [h0] at hk; omega)
  have hz0 : z < 9223372036854775808 := by omega
  have HV := Lib.hid ((h.var.set 6 (.bool (fuseD d n).fuse.isSome)).set 7 (.int .i64 (z : Int)))
  clear h hz
  unfold ptr
  go_enter Try.func30, Try.ntmps30
  go_wp2
  refine bodyPost_end (results_none rfl _ _ _) rfl ?_
  have g := (Grows.set (S := (· = p)) w ⟨p, 6, none⟩ (.bool (fuseD d n).fuse.isSome) rfl).trans (Grows.set (S := (· = p)) _ ⟨p, 7, none⟩ (.int .i64 (z : Int)) rfl) (fun _ h => .inl h)
  exact ⟨rfl, g, _, HA.out.turn g HV.out rfl rfl HF.out hz0⟩
theorem whereG_ok {d : Dev} (hd : d.Ok) (q : Int) : (Geom.whereG ⟨d.pg, d.pgs, d.rgs⟩ q).2.2 = d.has q := by
  have hr : Geom.rightG ⟨d.pg, d.pgs, d.rgs⟩ = true := Geom.right_small.mpr ⟨by simp only; have := hd.p0; omega, by simp only; have := hd.p1; omega, by simp only; have := hd.s0; omega, by simp only; have := hd.s1; omega, by simp only; have := hd.r0; omega, by simp only; have := hd.r1; omega⟩
  unfold Geom.whereG Dev.has Dev.n
  rw [hr]
  simp only [true_and, Int.natCast_mul]
  split
  · rename_i h
    simp only [decide_eq_true h.1]
    simp
    omega
  · rename_i h
    symm
    simp only [Bool.and_eq_false_iff, decide_eq_false_iff_not]
    omega
set_option maxRecDepth 100000 in
theorem atHas_any {w : World} {p : Nat} {d : Dev} {bB cap : Nat} {wv : Value} {fz : Nat} {E : List Ent} (h : FAt w p d bB cap wv fz E) (hd : d.Ok) (q : Int) :
    Calls Try.prog 45 #[ptr p, .int .i64 q] w fun e w' => e = .returned (.bool (d.has q)) ∧ Below w.heap.size w w' := by
  have c0 := h.var.cell (j := 0) rfl
  have c1 := h.var.cell (j := 1) rfl
  have c2 := h.var.cell (j := 2) rfl
  have HW := Lib.hid (fun w => Geom.where_any ⟨d.pg, d.pgs, d.rgs⟩ q w)
  rw [whereG_ok hd] at HW
  clear h hd
  unfold Geom.gV at HW
  generalize (Geom.whereG ⟨d.pg, d.pgs, d.rgs⟩ q).1 = x1 at *
  generalize (Geom.whereG ⟨d.pg, d.pgs, d.rgs⟩ q).2.1 = x2 at *
  unfold ptr
  go_enter Try.func45, Try.ntmps45
  go_wp2_with (go_at_call 63; (with_reducible refine (HW.out _).mono ?_); rintro e w3 ⟨rfl, hn⟩)
  go_ret
  exact ⟨rfl, hn⟩
theorem slice8l {L l cap : Nat} (bB : Nat) (h1 : l ≤ L) (x : Int) (hx : x = (l : Int)) (hl : l < cap) (w : World) :
    (Instr.slice 61 (.slice (some ⟨bB, 0, none⟩) L cap) (some (.int .i64 x)) none none).run Try.prog w = .ok (.slice (some ⟨bB, l, none⟩) (L - l) (cap - l)) w := by
  subst hx
  have hu : Try.prog.underlying 61 = some (.slice (Try.prog.elem 61)) := by kernel_rfl
  have hz : ∀ w, (sizeOf (Try.prog.elem 61)).run Try.prog w = .ok 1 w := by
    have : Try.prog.elem 61 = 5 := by kernel_rfl
    rw [this]; intro w
    obtain ⟨i0, hi, hz0, hz1, hz2⟩ := info_parts info8
    simp [sizeOf, hi, hz1] <;> rfl
  rw [run_slice_l (P := Try.prog) w 61 (some ⟨bB, 0, none⟩) L cap hu .i64 (l : Int) (by omega) (by omega), hz]
  simp only [Result.andThen, sliced, Int.toNat_natCast, Nat.mul_one]
  rw [if_neg (by omega)]
  simp [Addr.add]
  intro e; omega
theorem slice8h {L h off cap : Nat} (bB : Nat) (h2 : h ≤ cap) (x : Int) (hx : x = (h : Int)) (w : World) :
    (Instr.slice 61 (.slice (some ⟨bB, off, none⟩) L cap) none (some (.int .i64 x)) none).run Try.prog w = .ok (.slice (some ⟨bB, off, none⟩) h cap) w := by
  subst hx
  have hu : Try.prog.underlying 61 = some (.slice (Try.prog.elem 61)) := by kernel_rfl
  have hz : ∀ w, (sizeOf (Try.prog.elem 61)).run Try.prog w = .ok 1 w := by
    have : Try.prog.elem 61 = 5 := by kernel_rfl
    rw [this]; intro w
    obtain ⟨i0, hi, hz0, hz1, hz2⟩ := info_parts info8
    simp [sizeOf, hi, hz1] <;> rfl
  rw [run_slice_h (P := Try.prog) w 61 (some ⟨bB, off, none⟩) L cap hu .i64 (h : Int) (by omega) (by omega), hz]
  simp [Result.andThen, sliced, Addr.add]
set_option maxRecDepth 100000 in
theorem atStands_any {w : World} {p : Nat} {d : Dev} {bB cap : Nat} {wv : Value} {fz : Nat} {E : List Ent} (h : FAt w p d bB cap wv fz E) (hd : d.Ok) (q : Nat) (hq : q < d.n) :
    Calls Try.prog 48 #[ptr p, .int .i64 (q : Int)] w fun e w' => e = .returned (.slice (some ⟨bB, q * d.pg, none⟩) d.pg (cap - q * d.pg)) ∧ ∃ k, w' = w.drewN k := by
  have c0 := h.var.cell (j := 0) rfl
  have c3 := h.var.cell (j := 3) rfl
  have hpg := hd.page hq
  have him := hd.img_le
  have hp0 := hd.p0
  have hp1 := hd.p1
  have hq1 : q < 120 := Nat.lt_of_lt_of_le hq hd.n_le
  have hcap := h.capl
  have m1 : (q : Int) * (d.pg : Int) = ((q * d.pg : Nat) : Int) := by rw [Int.natCast_mul]
  have b1 : 0 ≤ (q : Int) * (d.pg : Int) ∧ (q : Int) * (d.pg : Int) ≤ 100000 := by rw [m1]; omega
  have hs1 := slice8l (L := d.img.length) (cap := cap) bB (show q * d.pg ≤ d.img.length by omega) _ m1 (by omega)
  have hs2 := slice8h (L := d.img.length - q * d.pg) (off := q * d.pg) (cap := cap - q * d.pg) bB (show d.pg ≤ cap - q * d.pg by omega) _ rfl
  clear h hd hq m1
  unfold ptr
  go_enter Try.func48, Try.ntmps48
  go_wp2
  go_quiet (fail)
  go_wp2
  go_ret
  exact ⟨rfl, _, rfl⟩
end Go.Proofs.Ytgcbdekdjdlfaaa.Flash
