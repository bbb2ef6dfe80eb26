/-
  What the document's own Runes answers, for every text of at most 2 to the 43rd bytes.
-/
import Derived.Test.YtfponjonbhnmlaaDoorRefRune
import Derived.Test.YtfponjonbhnmlaaDoorOwn
import Derived.Test.YtfponjonbhnmlaaDoorKeyMath
namespace Go.Proofs.YtfponjonbhnmlaaDoor.RefKeys
open Go.RowKit
open RuneM RefRune Own

theorem infoInt : (Tryd.prog.info? 3).map (fun i => (i.zero, i.size, i.bytes)) = some (some (.int .i64 0), 1, 8) := by kernel_rfl
def I (n : Nat) : Value := .int .i64 (n : Int)
/-- the runes' numbers, their widths, as values -/
def numsOf (l : List (Nat × Nat)) : List Value := l.map fun x => I x.1
def sizesOf (l : List (Nat × Nat)) : List Value := l.map fun x => I x.2
theorem numsOf_snoc (l : List (Nat × Nat)) (x : Nat × Nat) : numsOf (l ++ [x]) = numsOf l ++ [.int .i64 (x.1 : Int)] := by simp [numsOf, I]
theorem sizesOf_snoc (l : List (Nat × Nat)) (x : Nat × Nat) : sizesOf (l ++ [x]) = sizesOf l ++ [.int .i64 (x.2 : Int)] := by simp [sizesOf, I]
/-- what Runes answers -/
def Runes (s : ByteArray) (w : World) (e : Ending) (w' : World) : Prop := ∃ v u, e = .returned (.tuple #[v, u]) ∧ Row w' v (numsOf (runes s)) ∧ Row w' u (sizesOf (runes s)) ∧ Below w.heap.size w w'
/-- what holds at the head of a round of Runes -/
structure At (s : ByteArray) (w : World) (v u : Value) (i : Nat) (done : List (Nat × Nat)) (wr : World) : Prop where
  le : i ≤ s.size
  all : runes s = done ++ rest s i
  ov : Mine wr w.heap.size 3 v (numsOf done)
  ou : Mine wr w.heap.size 3 u (sizesOf done)
  ne : v.ownBlock = none ∨ v.ownBlock ≠ u.ownBlock
  below : Below w.heap.size w wr

theorem apart1 {v u : Value} (h : v.ownBlock = none ∨ v.ownBlock ≠ u.ownBlock) : u.ownBlock = none ∨ u.ownBlock ≠ v.ownBlock := by
  rcases h with h | h
  · cases hu : u.ownBlock with
    | none => exact .inl rfl
    | some k => right; rw [h]; simp
  · exact .inr (Ne.symm h)
/-- may a rune stand in a key? -/
def plainB (x : Nat × Nat) : Bool := decide (33 ≤ x.1) && !(decide (127 ≤ x.1) && decide (x.1 ≤ 160)) && !(decide (x.1 = 65533) && decide (x.2 = 1))
theorem nums_at (l : List (Nat × Nat)) (k : Nat) (h : k < l.length) : (numsOf l)[k]? = some (.int .i64 ((l[k].1 : Nat) : Int)) := by simp [numsOf, I, h]
theorem sizes_at (l : List (Nat × Nat)) (k : Nat) (h : k < l.length) : (sizesOf l)[k]? = some (.int .i64 ((l[k].2 : Nat) : Int)) := by simp [sizesOf, I, h]
/-- is a text a key? -/
def keyRight (s : ByteArray) : Bool := (runes s).all plainB && decide (1 ≤ (runes s).length) && decide ((runes s).length ≤ 12)
theorem all_take {l : List (Nat × Nat)} {k : Nat} (h : k < l.length) : (l.take (k + 1)).all plainB = ((l.take k).all plainB && plainB l[k]) := by
  rw [List.take_succ_eq_append_getElem h, List.all_append]; simp

theorem all_false {l : List (Nat × Nat)} {x : Nat × Nat} (h : x ∈ l) (hp : plainB x = false) : l.all plainB = false := by
  rw [List.all_eq_false]; exact ⟨x, h, by simp [hp]⟩
theorem drew_drew {w w1 : World} {n : Nat} (h : ∃ m, w1 = w.drewN m) : ∃ m, w1.drewN n = w.drewN m := by
  obtain ⟨m, rfl⟩ := h; exact ⟨m + n, by rw [World.drewN_drewN]⟩
/-- the bytes of a text's first runes -/
def headOf (s : ByteArray) (n : Int) : ByteArray := s.extract 0 (width ((runes s).take n.toNat))
theorem ret_string {a b : ByteArray} (h : a = b) : Ending.returned (.string a) = .returned (.string b) := by rw [h]
theorem nums_get (s : ByteArray) (k : Nat) (h : k < (runes s).length) : (numsOf (runes s))[k]? = some (.int .i64 (((nums s).getD k 0 : Nat) : Int)) := by
  simp [numsOf, I, nums, h, List.getD]
theorem ret_int {k : IntKind} {a b : Int} (h : a = b) : Ending.returned (.int k a) = .returned (.int k b) := by rw [h]
/-- how two texts stand to one another -/
def cmpS (s t : ByteArray) : Int := cmpL (nums s) (nums t)
end Go.Proofs.YtfponjonbhnmlaaDoor.RefKeys
