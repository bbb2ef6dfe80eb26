/-
  Rows of spans and of parts in memory; what package glob reads of a set.
-/
import Derived.Test.YtfponjonbhnmlaaGlobA
import Derived.Deep.DeepCutAuto
namespace Go.Proofs.Ytfponjonbhnmlaa.Glob
open Go.RowKit
open RuneM RefRune Own RefKeys GlobM Keys

/-- a value of some cells is appended to a row of one's own -/
theorem appendN {P : Program} {w : World} {ops : Array Oper} {rest : List Oper} {o : Oper} {a : Act} {Q : Exit → Act → World → Prop} (hgd : o.guard = none) (s x : Operand) (t : TypeId)
    (ho : o.op = .call { callee := .builtin .append, args := #[s, x], argTypes := #[t, t] })
    (base : Nat) (e : TypeId) (z : Value) (size bytes : Nat) (ht : P.underlying t = some (.slice e)) (hinfo : (P.info? e).map (fun i => (i.zero, i.size, i.bytes)) = some (some z, size, bytes)) (hz : z.cells.size = size) (h0 : 0 < size)
    (v : Value) (n : Nat) (xs : List Value) (hs : a.eval s = v) (hown : w.ownsRow base e size v n xs) (g0 : Nat) (cs : List Value) (hcs : cs.length = size) (hx : a.eval x = .slice (some ⟨g0, 0, none⟩) 1 1)
    (hc : ∀ j u, cs[j]? = some u → w.cell? ⟨g0, j, none⟩ = some u) (hone : ∀ u ∈ cs, u.oneCell' = true)
    (hlen : (n + 1) * bytes ≤ 140737488355328) (hmax : n + 1 ≤ maxLen) (hbase : base ≤ w.heap.size)
    (h : ∀ g cap w', w'.ownsRow base e size (.slice (some ⟨g, 0, none⟩) (n + 1) cap) (n + 1) (xs ++ cs) → w.grownBy w' v.ownBlock → (v.ownBlock = some g ∨ g = w.heap.size) → wpList P ops Q rest (a.put o.dst (.slice (some ⟨g, 0, none⟩) (n + 1) cap)) w') :
    wpList P ops Q (o :: rest) a w := by
  obtain ⟨i, hi, hz0, hs1, hb⟩ := info_parts hinfo
  refine wpList_append_lies w hgd s x t ho base e i z size bytes ht hi hz0 hs1 hb hz h0 v n xs hs hown ⟨g0, 0, none⟩ 1 1 cs hx (by rw [hcs]; omega) ?_ hone (by omega) hmax hlen hbase _ rfl (fun g cap w' k1 k2 k3 _ => h g cap w' k1 k2 k3)
  intro j u hj
  rw [show (⟨g0, 0, none⟩ : Addr).add j = ⟨g0, j, none⟩ by unfold Addr.add; split <;> simp_all]
  exact hc j u hj
/-- spans as cells -/
def flat (sp : List (Nat × Nat)) : List Value := sp.flatMap fun x => [.int .i32 (x.1 : Int), .int .i32 (x.2 : Int)]
theorem flat_snoc (sp : List (Nat × Nat)) (x : Nat × Nat) : flat (sp ++ [x]) = flat sp ++ [.int .i32 (x.1 : Int), .int .i32 (x.2 : Int)] := by simp [flat]
theorem flat_at : ∀ (sp : List (Nat × Nat)) (k : Nat) (x : Nat × Nat), sp[k]? = some x → (flat sp)[2 * k]? = some (.int .i32 (x.1 : Int)) ∧ (flat sp)[2 * k + 1]? = some (.int .i32 (x.2 : Int))
  | [], k, x, h => by simp at h
  | y :: sp, 0, x, h => by simp at h; subst h; exact ⟨rfl, rfl⟩
  | y :: sp, k + 1, x, h => by
    have h1 := flat_at sp k x (by simpa using h)
    rw [show 2 * (k + 1) = 2 * k + 1 + 1 by omega]
    exact h1
def SpansM (w : World) (base : Nat) (v : Value) (sp : List (Nat × Nat)) : Prop := w.ownsRow base 77 2 v sp.length (flat sp)
theorem owns_slice {w : World} {base : Nat} {e : TypeId} {size : Nat} {v : Value} {n : Nat} {xs : List Value} (h : w.ownsRow base e size v n xs) : ∃ p : Option Addr × Nat, v = .slice p.1 n p.2 := by
  rcases h.2 with ⟨rfl, rfl⟩ | ⟨g, cap, cur, rfl, _⟩
  · exact ⟨(none, 0), rfl⟩
  · exact ⟨(_, _), rfl⟩
theorem owns_one {w : World} {base : Nat} {e : TypeId} {size : Nat} {v : Value} {n : Nat} {xs : List Value} (h : w.ownsRow base e size v n xs) : v.oneCell' = true := by
  rcases h.2 with ⟨rfl, _⟩ | ⟨g, cap, cur, rfl, _⟩ <;> rfl
theorem owns_base {w : World} {base b : Nat} {e : TypeId} {size : Nat} {v : Value} {n : Nat} {xs : List Value} (h : w.ownsRow base e size v n xs) (hb : b ≤ base) : w.ownsRow b e size v n xs := by
  refine ⟨h.1, ?_⟩
  rcases h.2 with hn | ⟨g, cap, cur, e, hg, r⟩
  · exact .inl hn
  · exact .inr ⟨g, cap, cur, e, Nat.le_trans hb hg, r⟩
theorem SpansM.nil (w : World) (base : Nat) : SpansM w base (.slice none 0 0) [] := ⟨rfl, .inl ⟨rfl, rfl⟩⟩
theorem infoSpan : (Try.prog.info? 77).map (fun i => (i.zero, i.size, i.bytes)) = some (some (.agg #[.int .i32 0, .int .i32 0]), 2, 8) := by kernel_rfl
theorem infoPart : (Try.prog.info? 65).map (fun i => (i.zero, i.size, i.bytes)) = some (some (.agg #[.bool false, .bool false, .slice none 0 0]), 3, 32) := by kernel_rfl
theorem infoSign : (Try.prog.info? 75).map (fun i => (i.zero, i.size, i.bytes)) = some (some (.agg #[.int .i32 0, .bool false]), 2, 8) := by kernel_rfl
theorem grown_alloc (w : World) (o : Obj) : w.grownBy (w.alloc o) none := by
  have h := (Below.refl w.heap.size w).alloc (Nat.le_refl _) o
  exact ⟨h.os, h.tape, h.output, h.size, fun k hk _ => h.block k hk⟩
theorem grown_set (w : World) (p : Addr) (v : Value) : w.grownBy (w.setCell p v) (some p.block) := by
  refine ⟨rfl, rfl, rfl, by simp [World.setCell], fun k _ hk => ?_⟩
  exact Below.heap_setCell w p v k (fun e => hk (by rw [e]))
theorem Three.kept {w w' : World} {k : Nat} {t : TypeId} {a b c : Value} {row : Option Nat} (h : Three w k t a b c) (hg : w.grownBy w' row) (hr : row ≠ some k) : Three w' k t a b c := by
  unfold Three at h ⊢
  rw [hg.block _ (Array.getElem?_eq_some_iff.1 h).1 (Ne.symm hr)]; exact h
theorem Three.set1 {w : World} {k : Nat} {t : TypeId} {a b c : Value} (h : Three w k t a b c) (v : Value) : Three (w.setCell ⟨k, 1, none⟩ v) k t a v c := by
  unfold Three at h ⊢
  simp only [World.setCell]
  rw [Array.getElem?_modify, if_pos rfl, h]; rfl
theorem Three.set2 {w : World} {k : Nat} {t : TypeId} {a b c : Value} (h : Three w k t a b c) (v : Value) : Three (w.setCell ⟨k, 2, none⟩ v) k t a b v := by
  unfold Three at h ⊢
  simp only [World.setCell]
  rw [Array.getElem?_modify, if_pos rfl, h]; rfl
/-- a part's three cells -/
def notOf (it : It) : Bool := it.neg || decide (it.kind = 2)
def starOf (it : It) : Bool := decide (it.kind = 1)
/-- a part as a value -/
def PartV (w : World) (x : Value) (it : It) : Prop := ∃ spv, x = .agg #[.bool (starOf it), .bool (notOf it), spv] ∧ SpansM w 0 spv it.sp ∧ (it.kind = 2 → it.sp = [])
/-- what set and first answer -/
def PartSays (B : Nat) (o : Option (It × List Sg)) (w : World) (e : Ending) (w' : World) : Prop :=
  Below w.heap.size w w' ∧ match o with
  | none => e = .returned (.tuple #[.agg #[.bool false, .bool false, .slice none 0 0], .slice none 0 0, .bool false])
  | some (it, T) => ∃ x u, e = .returned (.tuple #[x, u, .bool true]) ∧ Sgn B w' u T ∧ PartV w' x it
/-- how long a slice is -/
def lenOf : Value → Nat
  | .slice _ n _ => n
  | _ => 0
theorem Sgn.len {B : Nat} {w : World} {v : Value} {L : List Sg} (h : Sgn B w v L) : lenOf v = L.length := by
  obtain ⟨a, cap, rfl, _⟩ := h; rfl
/-- where set stands -/
structure SetAt (w wr : World) (neg : Bool) (spv : Value) (sp : List (Nat × Nat)) : Prop where
  r : Three wr w.heap.size 65 (.bool false) (.bool false) (.slice none 0 0)
  x : Three wr (w.heap.size + 1) 65 (.bool false) (.bool neg) spv
  m : SpansM wr (w.heap.size + 2) spv sp
  below : Below w.heap.size w wr
theorem SetAt.far {w wr w' : World} {neg : Bool} {spv : Value} {sp : List (Nat × Nat)} (h : SetAt w wr neg spv sp) (hb : Below wr.heap.size wr w') : SetAt w w' neg spv sp := by
  have hz : w.heap.size + 1 < wr.heap.size := (Array.getElem?_eq_some_iff.1 h.x).1
  exact ⟨h.r.below hb (by omega), h.x.below hb hz, owns_below h.m hb, h.below.trans (hb.mono h.below.size)⟩
theorem set_start (w : World) : SetAt w ((w.alloc (.cells #[.bool false, .bool false, .slice none 0 0] 65)).alloc (.cells #[.bool false, .bool false, .slice none 0 0] 65)) false (.slice none 0 0) [] := by
  have s1 := size_alloc w (.cells #[.bool false, .bool false, .slice none 0 0] 65)
  refine ⟨?_, ?_, SpansM.nil _ _, ?_⟩
  · refine Three.below (B := w.heap.size + 1) (w := w.alloc _) (heap_new w _) ?_ (by omega)
    exact (bel_alloc _ _).mono (by rw [s1]; omega)
  · have := heap_new (w.alloc (.cells #[.bool false, .bool false, .slice none 0 0] 65)) (.cells #[.bool false, .bool false, .slice none 0 0] 65)
    rw [s1] at this; exact this
  · exact (bel_alloc w _).trans ((bel_alloc _ _).mono (by rw [s1]; omega))
theorem SetAt.neg {w wr : World} {spv : Value} {sp : List (Nat × Nat)} {b0 : Bool} (h : SetAt w wr b0 spv sp) (b : Bool) : SetAt w (wr.setCell ⟨w.heap.size + 1, 1, none⟩ (.bool b)) b spv sp := by
  have hg := grown_set wr ⟨w.heap.size + 1, 1, none⟩ (.bool b)
  refine ⟨h.r.kept hg (by simp), h.x.set1 _, World.ownsRow.kept h.m hg ?_, h.below.setCell (Nat.le_succ _) _⟩
  cases hq : spv.ownBlock with
  | none => exact .inl rfl
  | some k => right; have := (owns_lt h.m k hq).2; simp; omega
end Go.Proofs.Ytfponjonbhnmlaa.Glob
