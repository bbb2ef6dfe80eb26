/-
  Quoting a text, byte by byte and rune by rune. Nothing of the program.
-/
import Derived.Test.YtfponjonbhnmlaaGlobMath
namespace GlobM
open Go RuneM
/-- has a byte a meaning in a pattern? -/
def isM (n : Nat) : Bool := n == 42 || n == 63 || n == 91 || n == 93 || n == 92 || n == 94 || n == 45
def quoteL (l : List UInt8) : List UInt8 := l.flatMap fun b => if isM b.toNat then [92, b] else [b]
def quoteB (s : ByteArray) : ByteArray := ⟨(quoteL s.data.toList).toArray⟩
theorem quote_len (l : List UInt8) : (quoteL l).length ≤ 2 * l.length := by
  induction l with
  | nil => simp [quoteL]
  | cons b t ih =>
    unfold quoteL at ih ⊢
    rw [List.flatMap_cons, List.length_append, List.length_cons]
    generalize (t.flatMap fun b => if isM b.toNat then [92, b] else [b]).length = n at ih ⊢
    cases isM b.toNat <;> simp <;> omega
theorem quote_take {s : ByteArray} {k : Nat} (h : k < s.size) : quoteL (s.data.toList.take (k + 1)) = quoteL (s.data.toList.take k) ++ (if isM s[k].toNat then [92, s[k]] else [s[k]]) := by
  have h' : k < s.data.toList.length := by simpa using h
  rw [List.take_succ_eq_append_getElem h']
  simp [quoteL, List.flatMap_append, ByteArray.getElem_eq_getElem_data]

theorem quote_app (l m : List UInt8) : quoteL (l ++ m) = quoteL l ++ quoteL m := by simp [quoteL, List.flatMap_append]
theorem quote_high : ∀ (l : List UInt8), (∀ b ∈ l, 128 ≤ b.toNat) → quoteL l = l
  | [], _ => rfl
  | b :: l, h => by
    have h1 := h b (by simp)
    have h2 := quote_high l (fun x hx => h x (by simp [hx]))
    have h3 : isM b.toNat = false := by simp [isM]; omega
    have h4 : quoteL (b :: l) = (if isM b.toNat then [92, b] else [b]) ++ quoteL l := rfl
    rw [h4, h2, h3]; rfl
/-- how many bytes a rune from 128 on has, and that all are from 128 on -/
theorem ref_high (n b0 b1 b2 b3 : Nat) (h : 128 ≤ b0) : 128 ≤ (refN n b0 b1 b2 b3).1 ∧ (1 < (refN n b0 b1 b2 b3).2 → 128 ≤ b1) ∧ (2 < (refN n b0 b1 b2 b3).2 → 128 ≤ b2) ∧ (3 < (refN n b0 b1 b2 b3).2 → 128 ≤ b3) ∧ (refN n b0 b1 b2 b3).2 ≤ 4 := by
  have hl : ∀ b, 128 ≤ loF b := fun b => by unfold loF; repeat' split
                                            all_goals omega
  have h0 := hl b0
  unfold refN
  rw [if_neg (by omega)]
  split
  · simp only []; omega
  split
  · rename_i h1 h2
    have e := (lo_hi b0 b1 (by omega)).1 ⟨h2.2.2.1.2.1, h2.2.2.1.2.2⟩
    simp only []; omega
  split
  · rename_i h1 h2 h3
    have e := (lo_hi b0 b1 (by omega)).1 ⟨h3.2.2.1.2.1, h3.2.2.1.2.2⟩
    simp only []; omega
  · simp only []; omega
theorem take_bytes {s : ByteArray} {i n : Nat} {b : UInt8} (hb : b ∈ (s.data.toList.drop i).take n) : ∃ j, j < n ∧ i + j < s.size ∧ b.toNat = bA s (i + j) := by
  obtain ⟨j, hj, e⟩ := List.getElem_of_mem hb
  have hj' := hj
  rw [List.length_take, List.length_drop] at hj'
  have hs : s.data.toList.length = s.size := by simp
  refine ⟨j, by omega, by omega, ?_⟩
  rw [bA_data s (i + j) (by omega), ← e]
  simp
/-- a rune's bytes, quoted -/
theorem quote_rune (s : ByteArray) (i : Nat) (h : i < s.size) : quoteL ((s.data.toList.drop i).take (Utf8.decode s i).2) = (if isM (Utf8.decode s i).1 then [92] else []) ++ (s.data.toList.drop i).take (Utf8.decode s i).2 := by
  have hd := dec_refB s i
  by_cases hb : bA s i < 128
  · have e : Utf8.decode s i = (bA s i, 1) := by rw [hd]; unfold refN; rw [if_pos hb]
    rw [e]
    have hs : s.data.toList.length = s.size := by simp
    have e2 : (s.data.toList.drop i).take 1 = [s.data.toList[i]'(by omega)] := by
      rw [List.drop_eq_getElem_cons (by omega)]; rfl
    rw [e2, bA_data s i h]
    generalize s.data.toList[i]'(by omega) = c
    show (if isM c.toNat then [92, c] else [c]) ++ [] = _
    cases isM c.toNat <;> rfl
  · have hr := ref_high (s.size - i) (bA s i) (bA s (i + 1)) (bA s (i + 2)) (bA s (i + 3)) (by omega)
    rw [← hd] at hr
    have hm : isM (Utf8.decode s i).1 = false := by simp [isM]; omega
    rw [hm, quote_high]
    · rfl
    · intro b hb2
      obtain ⟨j, hj, _, e⟩ := take_bytes hb2
      rw [e]
      have : j = 0 ∨ j = 1 ∨ j = 2 ∨ j = 3 := by omega
      rcases this with rfl | rfl | rfl | rfl
      · rw [Nat.add_zero]; omega
      · exact hr.2.1 hj
      · exact hr.2.2.1 hj
      · exact hr.2.2.2.1 hj
theorem quote_step (s : ByteArray) (i : Nat) (h : i < s.size) : quoteL (s.data.toList.take (i + (Utf8.decode s i).2)) = quoteL (s.data.toList.take i) ++ ((if isM (Utf8.decode s i).1 then [92] else []) ++ (s.data.toList.drop i).take (Utf8.decode s i).2) := by
  rw [List.take_add, quote_app, quote_rune s i h]
end GlobM
