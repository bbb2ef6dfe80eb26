/-
  Slices that a call itself makes, cell by cell; and slices of numbers that are read. Nothing of the program's functions.
-/
import Derived.Test.YtcmjambbdfangaaGreatRunCommon
import Derived.Deep.AppendLies
import Derived.Maps.AppendAt
import Derived.Laws.OwnMore
set_option linter.unusedVariables false
set_option linter.unusedSimpArgs false
namespace Go.Proofs.YtcmjambbdfangaaGreat.Own
open Go.RowKit

/-- at a lie these one-cell values -/
def Cells (w : World) (a : Option Addr) (l : List Value) : Prop := l = [] ∨ ∃ g, a = some ⟨g, 0, none⟩ ∧ ∀ j x, l[j]? = some x → w.cell? ⟨g, j, none⟩ = some x
theorem Cells.at {w : World} {a : Option Addr} {l : List Value} (h : Cells w a l) {k : Nat} {x : Value} (hx : l[k]? = some x) : ∃ g, a = some ⟨g, 0, none⟩ ∧ w.cell? ⟨g, k, none⟩ = some x := by
  rcases h with rfl | ⟨g, ha, hc⟩
  · simp at hx
  · exact ⟨g, ha, hc k x hx⟩
theorem Cells.below {w w' : World} {a : Option Addr} {l : List Value} (h : Cells w a l) (hb : Below w.heap.size w w') : Cells w' a l := by
  rcases h with hl | ⟨g, ha, hc⟩
  · exact .inl hl
  · exact .inr ⟨g, ha, fun j x hx => by rw [hb.cell (p := ⟨g, j, none⟩) (block_lt_of_cell (hc j x hx))]; exact hc j x hx⟩
theorem Cells.draw {w w' : World} {a : Option Addr} {l : List Value} (h : Cells w a l) (hd : ∃ k, w' = w.drewN k) : Cells w' a l := by
  obtain ⟨k, rfl⟩ := hd; exact h
/-- v is a slice of these one-cell values -/
def Row (w : World) (v : Value) (l : List Value) : Prop :=
  ∃ a cap, v = .slice a l.length cap ∧ (l = [] ∨ ∃ g, a = some ⟨g, 0, none⟩ ∧ ∀ j x, l[j]? = some x → w.cell? ⟨g, j, none⟩ = some x)
theorem Row.nil (w : World) : Row w (.slice none 0 0) [] := ⟨none, 0, rfl, .inl rfl⟩
theorem Row.below {w w' : World} {v : Value} {l : List Value} (h : Row w v l) (hb : Below w.heap.size w w') : Row w' v l := by
  obtain ⟨a, cap, hv, hl | ⟨g, ha, hc⟩⟩ := h
  · exact ⟨a, cap, hv, .inl hl⟩
  · exact ⟨a, cap, hv, .inr ⟨g, ha, fun j x hx => by rw [hb.cell (p := ⟨g, j, none⟩) (block_lt_of_cell (hc j x hx))]; exact hc j x hx⟩⟩
theorem Row.of_owns {w : World} {base : Nat} {e : TypeId} {v : Value} {n : Nat} {xs : List Value} (h : w.ownsRow base e 1 v n xs) : Row w v xs := by
  obtain ⟨hl, hv⟩ := h
  rw [Nat.mul_one] at hl
  rcases hv with ⟨rfl, rfl⟩ | ⟨g, cap, cur, rfl, _, hb, hn, _, hs, ht⟩
  · have : xs = [] := List.length_eq_zero_iff.1 hl
    subst this; exact Row.nil w
  · refine ⟨_, cap, by rw [hl], .inr ⟨g, rfl, fun j x hx => ?_⟩⟩
    rw [Nat.mul_one] at ht hs
    have hj : j < n := by rw [← hl]; exact (List.getElem?_eq_some_iff.1 hx).1
    rw [← ht, List.getElem?_take_of_lt hj] at hx
    have hx' : cur[j]? = some x := by simpa using hx
    simp [World.cell?, hb, hx']
theorem owns_lt {w : World} {base : Nat} {e : TypeId} {size : Nat} {v : Value} {n : Nat} {xs : List Value} (h : w.ownsRow base e size v n xs) : ∀ g, v.ownBlock = some g → g < w.heap.size ∧ base ≤ g := by
  intro g hg
  rcases h.2 with ⟨rfl, _⟩ | ⟨g', cap, cur, rfl, hb, hh, _⟩
  · simp [Value.ownBlock] at hg
  · simp [Value.ownBlock] at hg
    subst hg
    exact ⟨(Array.getElem?_eq_some_iff.1 hh).1, hb⟩
theorem owns_nil (w : World) (base : Nat) (e : TypeId) : w.ownsRow base e 1 (.slice none 0 0) 0 [] := ⟨rfl, .inl ⟨rfl, rfl⟩⟩
theorem owns_draw {w w' : World} {base : Nat} {e : TypeId} {size : Nat} {v : Value} {n : Nat} {xs : List Value} (h : w.ownsRow base e size v n xs) (hd : ∃ k, w' = w.drewN k) : w'.ownsRow base e size v n xs := by
  obtain ⟨k, rfl⟩ := hd; exact h
theorem draw_size {w w' : World} (hd : ∃ k, w' = w.drewN k) : w'.heap.size = w.heap.size := by
  obtain ⟨k, rfl⟩ := hd; rfl
theorem owns_below {w w' : World} {base : Nat} {e : TypeId} {size : Nat} {v : Value} {n : Nat} {xs : List Value} (h : w.ownsRow base e size v n xs) (hb : Below w.heap.size w w') : w'.ownsRow base e size v n xs := by
  refine ⟨h.1, ?_⟩
  rcases h.2 with ⟨rfl, h0⟩ | ⟨g, cap, cur, rfl, h1, h2, h3⟩
  · exact .inl ⟨rfl, h0⟩
  · exact .inr ⟨g, cap, cur, rfl, h1, by rw [hb.block g (Array.getElem?_eq_some_iff.1 h2).1]; exact h2, h3⟩
theorem below_draw {B : Nat} {a w w' : World} (h : Below B a w) (hd : ∃ k, w' = w.drewN k) : Below B a w' := by
  obtain ⟨k, rfl⟩ := hd; exact below_drewN h k
/-- behind an append to a row of one's own -/
theorem below_append {B : Nat} {a w w' : World} {row : Option Nat} (h : Below B a w) (hg : w.grownBy w' row) (hB : B ≤ w.heap.size) (hr : ∀ k, row = some k → B ≤ k) : Below B a w' := h.grown hg hB hr

/-- v is a row of one-cell values that the call itself made, from block 'base' on -/
def Mine (w : World) (base : Nat) (e : TypeId) (v : Value) (l : List Value) : Prop := w.ownsRow base e 1 v l.length l
theorem Mine.row {w : World} {base : Nat} {e : TypeId} {v : Value} {l : List Value} (h : Mine w base e v l) : Row w v l := Row.of_owns h
theorem Mine.nil (w : World) (base : Nat) (e : TypeId) : Mine w base e (.slice none 0 0) [] := owns_nil w base e
theorem Mine.below {w w' : World} {base : Nat} {e : TypeId} {v : Value} {l : List Value} (h : Mine w base e v l) (hb : Below w.heap.size w w') : Mine w' base e v l := owns_below h hb
theorem Mine.alloc {w : World} {base : Nat} {e : TypeId} {v : Value} {l : List Value} (h : Mine w base e v l) (o : Obj) : Mine (w.alloc o) base e v l := h.below ((Below.refl _ _).alloc (Nat.le_refl _) o)
theorem Mine.draw {w w' : World} {base : Nat} {e : TypeId} {v : Value} {l : List Value} (h : Mine w base e v l) (hd : ∃ k, w' = w.drewN k) : Mine w' base e v l := owns_draw h hd
theorem Mine.kept {w w' : World} {base : Nat} {e : TypeId} {v : Value} {l : List Value} {row : Option Nat} (h : Mine w base e v l) (hg : w.grownBy w' row) (hne : v.ownBlock = none ∨ v.ownBlock ≠ row) : Mine w' base e v l := World.ownsRow.kept h hg hne
theorem Mine.lt {w : World} {base : Nat} {e : TypeId} {v : Value} {l : List Value} (h : Mine w base e v l) : ∀ g, v.ownBlock = some g → g < w.heap.size ∧ base ≤ g := owns_lt h
/-- one value more is appended to a row of one's own -/
theorem append_one {P : Program} {w : World} {ops : Array Oper} {rest : List Oper} {o : Oper} {a : Act} {Q : Exit → Act → World → Prop} (hgd : o.guard = none) (s x : Operand) (t : TypeId)
    (ho : o.op = .call { callee := .builtin .append, args := #[s, x], argTypes := #[t, t] })
    (base : Nat) (e : TypeId) (z : Value) (bytes : Nat) (ht : P.underlying t = some (.slice e)) (hinfo : (P.info? e).map (fun i => (i.zero, i.size, i.bytes)) = some (some z, 1, bytes)) (hz : z.cells.size = 1)
    (v : Value) (l : List Value) (hs : a.eval s = v) (hown : Mine w base e v l) (g0 : Nat) (y : Value) (hx : a.eval x = .slice (some ⟨g0, 0, none⟩) 1 1) (hc : w.cell? ⟨g0, 0, none⟩ = some y) (hy : y.oneCell' = true)
    (hlen : (l.length + 1) * bytes ≤ 140737488355328) (hmax : l.length + 1 ≤ maxLen) (hbase : base ≤ w.heap.size)
    (h : ∀ g cap w', Mine w' base e (.slice (some ⟨g, 0, none⟩) (l.length + 1) cap) (l ++ [y]) → w.grownBy w' v.ownBlock → (v.ownBlock = some g ∨ g = w.heap.size) → g < w'.heap.size → wpList P ops Q rest (a.put o.dst (.slice (some ⟨g, 0, none⟩) (l.length + 1) cap)) w') :
    wpList P ops Q (o :: rest) a w := by
  obtain ⟨i, hi, h0, h1, h2⟩ := info_parts hinfo
  refine wpList_append_lies w hgd s x t ho base e i z 1 bytes ht hi h0 h1 h2 hz (by omega) v l.length l hs hown ⟨g0, 0, none⟩ 1 1 [y] hx rfl ?_ (by simpa using hy) (by omega) hmax hlen hbase _ rfl ?_
  · intro j u hj
    match j, hj with
    | 0, hj =>
      simp at hj; subst hj
      have : (⟨g0, 0, none⟩ : Addr).add 0 = ⟨g0, 0, none⟩ := rfl
      rw [this]; exact hc
    | j + 1, hj => simp at hj
  · intro g cap w' k1 k2 k3 k4
    refine h g cap w' ?_ k2 k3 k4
    unfold Mine; rw [List.length_append]; exact k1

/-- a source to append from -/
def Src (w : World) (x : Value) (news : List Value) : Prop :=
  (x = .slice none 0 0 ∧ news = []) ∨ ∃ ad c, x = .slice (some ad) news.length c ∧ ∀ j u, news[j]? = some u → w.cell? (ad.add j) = some u
theorem run_append_all {P : Program} {w : World} (t ty : TypeId) (base : Nat) (e : TypeId) (z : Value) (bytes : Nat) (ht : P.underlying t = some (.slice e)) (hinfo : (P.info? e).map (fun i => (i.zero, i.size, i.bytes)) = some (some z, 1, bytes)) (hz : z.cells.size = 1)
    (v : Value) (l : List Value) (hown : Mine w base e v l) (x : Value) (news : List Value) (hsrc : Src w x news) (h1 : ∀ u ∈ news, u.oneCell' = true)
    (hmax : l.length + news.length ≤ maxLen) (hlen : (l.length + news.length) * bytes ≤ 140737488355328) (hbase : base ≤ w.heap.size) :
    ∃ v' w', (Builtin.append_ #[t, t] ty #[v, x]).run P w = .ok v' w' ∧ Mine w' base e v' (l ++ news) ∧ w.grownBy w' v.ownBlock ∧ (v'.ownBlock = v.ownBlock ∨ v'.ownBlock = some w.heap.size) := by
  obtain ⟨i, hi, h0, hs1, h2⟩ := info_parts hinfo
  rcases hsrc with ⟨rfl, rfl⟩ | ⟨ad, c, rfl, hc⟩
  · exact ⟨v, w, run_append_owned_none (P := P) (w := w) base t ty e i 1 ht hi v l.length l hown, by rw [List.append_nil]; exact hown, ⟨rfl, rfl, rfl, Nat.le_refl _, fun _ _ _ => rfl⟩, .inl rfl⟩
  · obtain ⟨v', w', hr, k2, k3, _, k5⟩ := run_append_own_at (P := P) w base t ty e i z 1 bytes ht hi h0 hs1 h2 hz (by omega) v l.length l hown ad news.length c news (by omega) hc h1 hmax hlen hbase
    refine ⟨v', w', hr, by unfold Mine; rw [List.length_append]; exact k2, k3, k5⟩
/-- any slice is appended to a row of one's own: in a plain list of operations -/
theorem append_all {P : Program} {w : World} {ops : Array Oper} {rest : List Oper} {o : Oper} {a : Act} {Q : Exit → Act → World → Prop} (hgd : o.guard = none) (s x : Operand) (t : TypeId)
    (ho : o.op = .call { callee := .builtin .append, args := #[s, x], argTypes := #[t, t] })
    (base : Nat) (e : TypeId) (z : Value) (bytes : Nat) (ht : P.underlying t = some (.slice e)) (hinfo : (P.info? e).map (fun i => (i.zero, i.size, i.bytes)) = some (some z, 1, bytes)) (hz : z.cells.size = 1)
    (v : Value) (l : List Value) (hs : a.eval s = v) (hown : Mine w base e v l) (y : Value) (news : List Value) (hx : a.eval x = y) (hsrc : Src w y news) (h1 : ∀ u ∈ news, u.oneCell' = true)
    (hmax : l.length + news.length ≤ maxLen) (hlen : (l.length + news.length) * bytes ≤ 140737488355328) (hbase : base ≤ w.heap.size)
    (h : ∀ v' w', Mine w' base e v' (l ++ news) → w.grownBy w' v.ownBlock → (v'.ownBlock = v.ownBlock ∨ v'.ownBlock = some w.heap.size) → wpList P ops Q rest (a.put o.dst v') w') :
    wpList P ops Q (o :: rest) a w := by
  refine wpList_plain hgd fun K hK => ?_
  obtain ⟨v', w', hr, k1, k2, k3⟩ := run_append_all (P := P) (w := w) t o.type base e z bytes ht hinfo hz v l hown y news hsrc h1 hmax hlen hbase
  unfold Oper.wp
  simp only [execOp, ho, resolve, invoke, builtin, Sem.run_bind, Sem.run_pure, Result.andThen_ok, List.map_toArray, List.map_cons, List.map_nil, hs, hx, hr]
  exact hK _ _ (h v' w' k1 k2 k3)
/-- .. and at the operation itself -/
theorem wp_append_all {P : Program} {w : World} {o : Oper} {a : Act} {K : Act → World → Prop} {Q : Exit → Act → World → Prop} (s x : Operand) (t : TypeId)
    (ho : o.op = .call { callee := .builtin .append, args := #[s, x], argTypes := #[t, t] })
    (base : Nat) (e : TypeId) (z : Value) (bytes : Nat) (ht : P.underlying t = some (.slice e)) (hinfo : (P.info? e).map (fun i => (i.zero, i.size, i.bytes)) = some (some z, 1, bytes)) (hz : z.cells.size = 1)
    (v : Value) (l : List Value) (hs : a.eval s = v) (hown : Mine w base e v l) (y : Value) (news : List Value) (hx : a.eval x = y) (hsrc : Src w y news) (h1 : ∀ u ∈ news, u.oneCell' = true)
    (hmax : l.length + news.length ≤ maxLen) (hlen : (l.length + news.length) * bytes ≤ 140737488355328) (hbase : base ≤ w.heap.size)
    (h : ∀ v' w', Mine w' base e v' (l ++ news) → w.grownBy w' v.ownBlock → (v'.ownBlock = v.ownBlock ∨ v'.ownBlock = some w.heap.size) → K (a.put o.dst v') w') :
    Oper.wp P o a w K Q := by
  obtain ⟨v', w', hr, k1, k2, k3⟩ := run_append_all (P := P) (w := w) t o.type base e z bytes ht hinfo hz v l hown y news hsrc h1 hmax hlen hbase
  unfold Oper.wp execOp
  simp only [ho, resolve, invoke, builtin, Sem.run_bind, Sem.run_pure, Result.andThen_ok, List.map_toArray, List.map_cons, List.map_nil, hs, hx, hr]
  exact h v' w' k1 k2 k3
theorem step_if {P : Program} {w : World} {ops : Array Oper} {o : Oper} {a : Act} {K : Act → World → Prop} {Q : Exit → Act → World → Prop} {E : Prop} (hgd : Region.wanted o (yielded ops a.tmps) = true) (h : Oper.wp P o a w K Q) :
    if Region.wanted o (yielded ops a.tmps) = true then Oper.wp P o a w K Q else E := by rw [if_pos hgd]; exact h
theorem Cells.grown {w w' : World} {a : Option Addr} {l : List Value} {row : Option Nat} (h : Cells w a l) (hg : w.grownBy w' row) (hne : ∀ g, a = some ⟨g, 0, none⟩ → some g ≠ row) : Cells w' a l := by
  rcases h with hl | ⟨g, ha, hc⟩
  · exact .inl hl
  · exact .inr ⟨g, ha, fun j x hx => by
      rw [hg.cell_far ⟨g, j, none⟩ (block_lt_of_cell (hc j x hx)) (hne g ha)]; exact hc j x hx⟩
theorem cell_alloc {w : World} {p : Addr} {x : Value} (h : w.cell? p = some x) (o : Obj) : (w.alloc o).cell? p = some x := by
  rw [((Below.refl w.heap.size w).alloc (Nat.le_refl _) o).cell (block_lt_of_cell h)]; exact h
theorem Cells.alloc {w : World} {a : Option Addr} {l : List Value} (h : Cells w a l) (o : Obj) : Cells (w.alloc o) a l := h.below ((Below.refl _ _).alloc (Nat.le_refl _) o)
theorem Mine.cap {w : World} {base : Nat} {e : TypeId} {g n c : Nat} {l : List Value} (h : Mine w base e (.slice (some ⟨g, 0, none⟩) n c) l) : n ≤ c ∧ l.length = n := by
  rcases h.2 with ⟨h, _⟩ | ⟨g', cap, cur, he, _, _, hn, _⟩
  · simp at h
  · simp only [Value.slice.injEq, Option.some.injEq, Addr.mk.injEq, and_true] at he
    obtain ⟨_, rfl, rfl⟩ := he
    exact ⟨hn, rfl⟩
theorem grown_cell {w w' : World} {row : Option Nat} (hg : w.grownBy w' row) {p : Addr} {x : Value} (h : w.cell? p = some x) (hne : some p.block ≠ row) : w'.cell? p = some x := by
  rw [hg.cell_far p (block_lt_of_cell h) hne]; exact h
end Go.Proofs.YtcmjambbdfangaaGreat.Own
