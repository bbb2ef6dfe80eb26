/-
  Rows of items of a pattern in memory; one item laid to the others.
-/
import Derived.Test.YtfponjonbhnmlaaRefSet
namespace Go.Proofs.Ytfponjonbhnmlaa.RefGlob
open Go.RowKit
open RuneM RefRune Own RefKeys GlobM
open Go.Proofs.Ytfponjonbhnmlaa.Region

/-- an item's four cells -/
def ItemCells (w : World) (cs : List Value) (it : It) : Prop :=
  ∃ lo hi, cs = [.int .i64 (it.kind : Int), .bool it.neg, lo, hi] ∧ Mine w 0 3 lo (ns (it.sp.map (·.1))) ∧ Mine w 0 3 hi (ns (it.sp.map (·.2)))
def ItemsX (w : World) : List Value → List It → Prop
  | xs, [] => xs = []
  | xs, it :: r => ∃ cs ys, xs = cs ++ ys ∧ ItemCells w cs it ∧ ItemsX w ys r
/-- v is a row of items that the call itself made -/
def ItemsM (w : World) (base : Nat) (v : Value) (its : List It) : Prop := ∃ xs, w.ownsRow base 46 4 v its.length xs ∧ ItemsX w xs its
/-- a row that is one of items -/
def Rowed (w : World) (row : Option Nat) : Prop := ∀ k, row = some k → ∃ cur fr, w.heap[k]? = some (.cells cur 46 fr)
theorem mine_apart {w : World} {v : Value} {l : List Value} {row : Option Nat} (h : Mine w 0 3 v l) (hr : Rowed w row) : v.ownBlock = none ∨ v.ownBlock ≠ row := by
  rcases h.2 with ⟨rfl, _⟩ | ⟨g, cap, cur, rfl, _, hg, _⟩
  · exact .inl rfl
  · right
    intro e
    obtain ⟨cur', fr, hk⟩ := hr g e.symm
    rw [hg] at hk
    simp at hk
theorem ItemCells.kept {w w' : World} {cs : List Value} {it : It} {row : Option Nat} (h : ItemCells w cs it) (hg : w.grownBy w' row) (hr : Rowed w row) : ItemCells w' cs it := by
  obtain ⟨lo, hi, e, h1, h2⟩ := h
  exact ⟨lo, hi, e, h1.kept hg (mine_apart h1 hr), h2.kept hg (mine_apart h2 hr)⟩
theorem ItemsX.kept {w w' : World} {row : Option Nat} (hg : w.grownBy w' row) (hr : Rowed w row) : ∀ {xs : List Value} {its : List It}, ItemsX w xs its → ItemsX w' xs its
  | _, [], h => h
  | _, _ :: _, ⟨cs, ys, e, h1, h2⟩ => ⟨cs, ys, e, h1.kept hg hr, ItemsX.kept hg hr h2⟩
theorem ItemsX.snoc {w : World} {cs : List Value} {it : It} (hc : ItemCells w cs it) : ∀ {xs : List Value} {its : List It}, ItemsX w xs its → ItemsX w (xs ++ cs) (its ++ [it])
  | _, [], h => by cases h; exact ⟨cs, [], by simp, hc, rfl⟩
  | _, _ :: _, ⟨ds, ys, e, h1, h2⟩ => ⟨ds, ys ++ cs, by rw [e, List.append_assoc], h1, ItemsX.snoc hc h2⟩
theorem rowed_none (w : World) : Rowed w none := fun k h => by cases h
theorem ItemsM.rowed {w : World} {base : Nat} {v : Value} {its : List It} (h : ItemsM w base v its) : Rowed w v.ownBlock := by
  obtain ⟨xs, h, _⟩ := h
  intro k hk
  rcases h.2 with ⟨rfl, _⟩ | ⟨g, cap, cur, rfl, _, hg, _⟩
  · simp [Value.ownBlock] at hk
  · simp only [Value.ownBlock, Option.some.injEq] at hk; subst hk; exact ⟨cur, _, hg⟩
theorem ItemsM.lt {w : World} {base : Nat} {v : Value} {its : List It} (h : ItemsM w base v its) : ∀ g, v.ownBlock = some g → g < w.heap.size ∧ base ≤ g := by
  obtain ⟨xs, h, _⟩ := h; exact owns_lt h
theorem ItemsM.nil (w : World) (base : Nat) : ItemsM w base (.slice none 0 0) [] := ⟨[], ⟨rfl, .inl ⟨rfl, rfl⟩⟩, rfl⟩
theorem ItemsM.below {w w' : World} {base : Nat} {v : Value} {its : List It} (h : ItemsM w base v its) (hb : Below w.heap.size w w') : ItemsM w' base v its := by
  obtain ⟨xs, h1, h2⟩ := h
  exact ⟨xs, owns_below h1 hb, ItemsX.kept ⟨hb.os, hb.tape, hb.output, hb.size, fun k hk _ => hb.block k hk⟩ (rowed_none w) h2⟩
theorem ItemsM.grown {w w' : World} {base : Nat} {v : Value} {its : List It} (h : ItemsM w base v its) (hg : w.grownBy w' none) : ItemsM w' base v its :=
  h.below ⟨hg.os, hg.tape, hg.output, hg.size, fun k hk => hg.block k hk (by simp)⟩
theorem infoItem : (Try.prog.info? 46).map (fun i => (i.zero, i.size, i.bytes)) = some (some (.agg #[.int .i64 0, .bool false, .slice none 0 0, .slice none 0 0]), 4, 64) := by kernel_rfl
/-- one item more is appended -/
theorem append4 {P : Program} {w : World} {ops : Array Oper} {rest : List Oper} {o : Oper} {a : Act} {Q : Exit → Act → World → Prop} (hgd : o.guard = none) (s x : Operand) (t : TypeId)
    (ho : o.op = .call { callee := .builtin .append, args := #[s, x], argTypes := #[t, t] })
    (base : Nat) (e : TypeId) (z : Value) (bytes : Nat) (ht : P.underlying t = some (.slice e)) (hinfo : (P.info? e).map (fun i => (i.zero, i.size, i.bytes)) = some (some z, 4, bytes)) (hz : z.cells.size = 4)
    (v : Value) (n : Nat) (xs : List Value) (hs : a.eval s = v) (hown : w.ownsRow base e 4 v n xs) (g0 : Nat) (c0 c1 c2 c3 : Value) (hx : a.eval x = .slice (some ⟨g0, 0, none⟩) 1 1)
    (h0 : w.cell? ⟨g0, 0, none⟩ = some c0) (h1 : w.cell? ⟨g0, 1, none⟩ = some c1) (h2 : w.cell? ⟨g0, 2, none⟩ = some c2) (h3 : w.cell? ⟨g0, 3, none⟩ = some c3)
    (hone : c0.oneCell' = true ∧ c1.oneCell' = true ∧ c2.oneCell' = true ∧ c3.oneCell' = true)
    (hlen : (n + 1) * bytes ≤ 140737488355328) (hmax : n + 1 ≤ maxLen) (hbase : base ≤ w.heap.size)
    (h : ∀ g cap w', w'.ownsRow base e 4 (.slice (some ⟨g, 0, none⟩) (n + 1) cap) (n + 1) (xs ++ [c0, c1, c2, c3]) → w.grownBy w' v.ownBlock → wpList P ops Q rest (a.put o.dst (.slice (some ⟨g, 0, none⟩) (n + 1) cap)) w') :
    wpList P ops Q (o :: rest) a w := by
  obtain ⟨i, hi, hz0, hs1, hb⟩ := info_parts hinfo
  refine wpList_append_lies w hgd s x t ho base e i z 4 bytes ht hi hz0 hs1 hb hz (by omega) v n xs hs hown ⟨g0, 0, none⟩ 1 1 [c0, c1, c2, c3] hx rfl ?_ ?_ (by omega) hmax hlen hbase _ rfl (fun g cap w' k1 k2 _ _ => h g cap w' k1 k2)
  · intro j u hj
    match j, hj with
    | 0, hj => simp at hj; subst hj; exact h0
    | 1, hj => simp at hj; subst hj; exact h1
    | 2, hj => simp at hj; subst hj; exact h2
    | 3, hj => simp at hj; subst hj; exact h3
    | j + 4, hj => simp at hj
  · intro u hu
    simp at hu
    rcases hu with rfl | rfl | rfl | rfl
    · exact hone.1
    · exact hone.2.1
    · exact hone.2.2.1
    · exact hone.2.2.2
theorem ItemsM.snoc {w w' : World} {base : Nat} {v : Value} {its : List It} {it : It} {xs cs : List Value} {g cap : Nat} (hX : ItemsX w xs its) (hr : Rowed w v.ownBlock) (hc : ItemCells w cs it) (hg : w.grownBy w' v.ownBlock)
    (ho : w'.ownsRow base 46 4 (.slice (some ⟨g, 0, none⟩) (its.length + 1) cap) (its.length + 1) (xs ++ cs)) : ItemsM w' base (.slice (some ⟨g, 0, none⟩) (its.length + 1) cap) (its ++ [it]) :=
  ⟨xs ++ cs, by rw [List.length_append]; exact ho, (hX.kept hg hr).snoc (hc.kept hg hr)⟩
/-- a new slice of one number is a row -/
theorem one_mine {w : World} {g n : Nat} (h : w.heap[g]? = some (.cells #[.int .i64 (n : Int)] 3 (0, 0))) : Mine w 0 3 (.slice (some ⟨g, 0, none⟩) 1 1) (ns [n]) :=
  ⟨rfl, .inr ⟨g, 1, _, rfl, Nat.zero_le _, h, Nat.le_refl _, by simp [maxLen], rfl, rfl⟩⟩
/-- a new slice of one item -/
def Boxed (v lo hi : Value) (w : World) : Prop := ∃ g, v = .slice (some ⟨g, 0, none⟩) 1 1 ∧ w.cell? ⟨g, 0, none⟩ = some (.int .i64 0) ∧ w.cell? ⟨g, 1, none⟩ = some (.bool false) ∧ w.cell? ⟨g, 2, none⟩ = some lo ∧ w.cell? ⟨g, 3, none⟩ = some hi
theorem Boxed.out {v lo hi : Value} {w : World} (h : Boxed v lo hi w) : ∃ g, v = .slice (some ⟨g, 0, none⟩) 1 1 ∧ w.cell? ⟨g, 0, none⟩ = some (.int .i64 0) ∧ w.cell? ⟨g, 1, none⟩ = some (.bool false) ∧ w.cell? ⟨g, 2, none⟩ = some lo ∧ w.cell? ⟨g, 3, none⟩ = some hi := h
theorem Boxed.kept {v lo hi : Value} {w w' : World} (h : Boxed v lo hi w) (hg : w.grownBy w' none) : Boxed v lo hi w' := by
  obtain ⟨g, e, h0, h1, h2, h3⟩ := h
  exact ⟨g, e, grown_cell hg h0 (by simp), grown_cell hg h1 (by simp), grown_cell hg h2 (by simp), grown_cell hg h3 (by simp)⟩
theorem heap_new (w : World) (o : Obj) : (w.alloc o).heap[w.heap.size]? = some o := by
  show (w.heap.push o)[w.heap.size]? = some o
  simp
theorem boxed_new (w : World) (lo hi : Value) : Boxed (.slice (some ⟨w.heap.size, 0, none⟩) 1 1) lo hi (w.alloc (.cells #[.int .i64 0, .bool false, lo, hi] 46)) := by
  have h := heap_new w (.cells #[.int .i64 0, .bool false, lo, hi] 46)
  refine ⟨_, rfl, ?_, ?_, ?_, ?_⟩ <;> (unfold World.cell?; rw [h]; rfl)
theorem ItemsM.out {w : World} {base : Nat} {v : Value} {its : List It} (h : ItemsM w base v its) : ∃ xs, w.ownsRow base 46 4 v its.length xs ∧ ItemsX w xs its := h
theorem items_slice {w : World} {base : Nat} {v : Value} {its : List It} (h : ItemsM w base v its) : ∃ p : Option Addr × Nat × Nat, v = .slice p.1 p.2.1 p.2.2 := by
  obtain ⟨xs, h, _⟩ := h
  rcases h.2 with ⟨rfl, _⟩ | ⟨g, cap, cur, rfl, _⟩
  · exact ⟨(none, 0, 0), rfl⟩
  · exact ⟨(_, _, _), rfl⟩
/-- while one rune is laid to the items -/
structure J18 (w : World) (v rs : Value) (g c i : Nat) (its : List It) (d : Nat → Bool) (ys : Nat → Value) (wx : World) : Prop where
  below : Below w.heap.size w wx
  cell : wx.cell? ⟨g, i, none⟩ = some (.int .i64 (c : Int))
  s0 : d 0 = true → ys 63 = v
  s1 : d 1 = true → ys 64 = rs
  s2 : d 2 = true → ys 65 = .int .i64 (i : Int)
  s3 : d 3 = true → ys 66 = .pointer (some ⟨g, i, none⟩)
  s4 : d 4 = true → ys 67 = .int .i64 (c : Int)
  s5 : d 5 = true → Mine wx 0 3 (ys 68) (ns [c])
  s6 : d 6 = true → ys 69 = rs
  s7 : d 7 = true → ys 70 = .int .i64 (i : Int)
  s8 : d 8 = true → ys 71 = .pointer (some ⟨g, i, none⟩)
  s9 : d 9 = true → ys 72 = .int .i64 (c : Int)
  s10 : d 10 = true → Mine wx 0 3 (ys 73) (ns [c])
  s11 : d 11 = true → ys 74 = .agg #[.int .i64 0, .bool false, ys 68, ys 73]
  c11 : d 11 = true → d 5 = true ∧ d 10 = true
  s12 : d 12 = true → d 13 = false → Boxed (ys 75) (ys 68) (ys 73) wx
  c12 : d 12 = true → d 11 = true
  m : d 13 = false → ItemsM wx w.heap.size v its
  s13 : d 13 = true → ItemsM wx w.heap.size (ys 76) (its ++ [one c])
  y6 : d 14 = false → ys 6 = v
  s14 : d 14 = true → ys 6 = ys 76
theorem J18.grown {w : World} {v rs : Value} {g c i : Nat} {its : List It} {d : Nat → Bool} {ys : Nat → Value} {wx w' : World} (h : J18 w v rs g c i its d ys wx) (hg : wx.grownBy w' none) : J18 w v rs g c i its d ys w' :=
  { h with
    below := h.below.grown hg h.below.size (fun k hk => by cases hk)
    cell := grown_cell hg h.cell (by simp)
    s5 := fun e => (h.s5 e).kept hg (mine_apart (h.s5 e) (rowed_none _))
    s10 := fun e => (h.s10 e).kept hg (mine_apart (h.s10 e) (rowed_none _))
    s12 := fun e e2 => (h.s12 e e2).kept hg
    m := fun e => (h.m e).grown hg
    s13 := fun e => (h.s13 e).grown hg }
theorem J18.app {w : World} {v rs : Value} {g c i : Nat} {its : List It} {d : Nat → Bool} {ys : Nat → Value} {wx w' : World} (h : J18 w v rs g c i its d ys wx) (hgl : g < w.heap.size) (h12 : d 12 = true) (h13 : d 13 = false) (h14 : d 14 = false) {xs : List Value} {g2 cap : Nat}
    (hX : ItemsX wx xs its) (hg : wx.grownBy w' v.ownBlock) (ho : w'.ownsRow w.heap.size 46 4 (.slice (some ⟨g2, 0, none⟩) (its.length + 1) cap) (its.length + 1) (xs ++ [.int .i64 0, .bool false, ys 68, ys 73])) :
    J18 w v rs g c i its (upd d 13) (Region.put ys (some 76) (.slice (some ⟨g2, 0, none⟩) (its.length + 1) cap)) w' := by
  have hr := (h.m h13).rowed
  have hlt := (h.m h13).lt
  have hcc := h.c11 (h.c12 h12)
  exact { h with
    below := h.below.grown hg h.below.size (fun k hk => (hlt k hk).2)
    cell := grown_cell hg h.cell (fun e => by have := (hlt g e.symm).2; omega)
    s5 := fun e => (h.s5 e).kept hg (mine_apart (h.s5 e) hr)
    s10 := fun e => (h.s10 e).kept hg (mine_apart (h.s10 e) hr)
    s12 := fun _ e2 => absurd e2 (by simp [upd])
    m := fun e => absurd e (by simp [upd])
    s13 := fun _ => ItemsM.snoc hX hr ⟨_, _, rfl, h.s5 hcc.1, h.s10 hcc.2⟩ hg ho
    s14 := fun e => absurd (show d 14 = true from e) (by rw [h14]; simp) }
/-- while one rune is laid to the items -/
structure J9 (w : World) (v rs : Value) (g c i : Nat) (its : List It) (d : Nat → Bool) (ys : Nat → Value) (wx : World) : Prop where
  below : Below w.heap.size w wx
  cell : wx.cell? ⟨g, i, none⟩ = some (.int .i64 (c : Int))
  s0 : d 0 = true → ys 29 = v
  s1 : d 1 = true → ys 30 = rs
  s2 : d 2 = true → ys 31 = .int .i64 (i : Int)
  s3 : d 3 = true → ys 32 = .pointer (some ⟨g, i, none⟩)
  s4 : d 4 = true → ys 33 = .int .i64 (c : Int)
  s5 : d 5 = true → Mine wx 0 3 (ys 34) (ns [c])
  s6 : d 6 = true → ys 35 = rs
  s7 : d 7 = true → ys 36 = .int .i64 (i : Int)
  s8 : d 8 = true → ys 37 = .pointer (some ⟨g, i, none⟩)
  s9 : d 9 = true → ys 38 = .int .i64 (c : Int)
  s10 : d 10 = true → Mine wx 0 3 (ys 39) (ns [c])
  s11 : d 11 = true → ys 40 = .agg #[.int .i64 0, .bool false, ys 34, ys 39]
  c11 : d 11 = true → d 5 = true ∧ d 10 = true
  s12 : d 12 = true → d 13 = false → Boxed (ys 41) (ys 34) (ys 39) wx
  c12 : d 12 = true → d 11 = true
  m : d 13 = false → ItemsM wx w.heap.size v its
  s13 : d 13 = true → ItemsM wx w.heap.size (ys 42) (its ++ [one c])
  y6 : d 14 = false → ys 6 = v
  s14 : d 14 = true → ys 6 = ys 42
theorem J9.grown {w : World} {v rs : Value} {g c i : Nat} {its : List It} {d : Nat → Bool} {ys : Nat → Value} {wx w' : World} (h : J9 w v rs g c i its d ys wx) (hg : wx.grownBy w' none) : J9 w v rs g c i its d ys w' :=
  { h with
    below := h.below.grown hg h.below.size (fun k hk => by cases hk)
    cell := grown_cell hg h.cell (by simp)
    s5 := fun e => (h.s5 e).kept hg (mine_apart (h.s5 e) (rowed_none _))
    s10 := fun e => (h.s10 e).kept hg (mine_apart (h.s10 e) (rowed_none _))
    s12 := fun e e2 => (h.s12 e e2).kept hg
    m := fun e => (h.m e).grown hg
    s13 := fun e => (h.s13 e).grown hg }
theorem J9.app {w : World} {v rs : Value} {g c i : Nat} {its : List It} {d : Nat → Bool} {ys : Nat → Value} {wx w' : World} (h : J9 w v rs g c i its d ys wx) (hgl : g < w.heap.size) (h12 : d 12 = true) (h13 : d 13 = false) (h14 : d 14 = false) {xs : List Value} {g2 cap : Nat}
    (hX : ItemsX wx xs its) (hg : wx.grownBy w' v.ownBlock) (ho : w'.ownsRow w.heap.size 46 4 (.slice (some ⟨g2, 0, none⟩) (its.length + 1) cap) (its.length + 1) (xs ++ [.int .i64 0, .bool false, ys 34, ys 39])) :
    J9 w v rs g c i its (upd d 13) (Region.put ys (some 42) (.slice (some ⟨g2, 0, none⟩) (its.length + 1) cap)) w' := by
  have hr := (h.m h13).rowed
  have hlt := (h.m h13).lt
  have hcc := h.c11 (h.c12 h12)
  exact { h with
    below := h.below.grown hg h.below.size (fun k hk => (hlt k hk).2)
    cell := grown_cell hg h.cell (fun e => by have := (hlt g e.symm).2; omega)
    s5 := fun e => (h.s5 e).kept hg (mine_apart (h.s5 e) hr)
    s10 := fun e => (h.s10 e).kept hg (mine_apart (h.s10 e) hr)
    s12 := fun _ e2 => absurd e2 (by simp [upd])
    m := fun e => absurd e (by simp [upd])
    s13 := fun _ => ItemsM.snoc hX hr ⟨_, _, rfl, h.s5 hcc.1, h.s10 hcc.2⟩ hg ho
    s14 := fun e => absurd (show d 14 = true from e) (by rw [h14]; simp) }
end Go.Proofs.Ytfponjonbhnmlaa.RefGlob
