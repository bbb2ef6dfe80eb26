/-
  The one text that a pattern says. Nothing of the program's functions.
-/
import Derived.Test.YtfponjonbhnmlaaGlobMath
import Derived.Test.YtfponjonbhnmlaaRefRune
import Derived.Test.YtfponjonbhnmlaaKeyMath
namespace Go.Proofs.Ytfponjonbhnmlaa.RefGlob
open Go.RowKit
open RuneM RefRune GlobM

/-- is a text a pattern? -/
def globRight (p : ByteArray) : Bool := (itemsL (nums p)).isSome
/-- the text that runes of a pattern say, behind some of them -/
def plainF (s : ByteArray) : Nat → Nat → List (Nat × Nat) → ByteArray → Option ByteArray
  | 0, _, _, _ => none
  | f + 1, p, l, out => match l with
    | [] => some out
    | (c, n) :: t => if c = 42 ∨ c = 63 ∨ c = 91 then none else if c = 92 then (match t with
        | [] => none
        | (_, m) :: u => plainF s f (p + n + m) u (out ++ s.extract (p + n) (p + n + m)))
      else plainF s f (p + n) t (out ++ s.extract p (p + n))
/-- the one text that a pattern says -/
def globPlain (s : ByteArray) : Option ByteArray := if globRight s then plainF s ((runes s).length + 1) 0 (runes s) ByteArray.empty else none
def PlainSays (s : ByteArray) (w : World) (e : Ending) (w' : World) : Prop :=
  Below w.heap.size w w' ∧ match globPlain s with
  | none => e = .returned (.tuple #[.string ByteArray.empty, .bool false])
  | some t => e = .returned (.tuple #[.string t, .bool true])
theorem plainF_end (s : ByteArray) (f p : Nat) (out : ByteArray) : plainF s (f + 1) p [] out = some out := rfl
theorem plainF_no (s : ByteArray) (f p : Nat) (x : Nat × Nat) (t : List (Nat × Nat)) (out : ByteArray) (h : x.1 = 42 ∨ x.1 = 63 ∨ x.1 = 91) : plainF s (f + 1) p (x :: t) out = none := by
  obtain ⟨c, n⟩ := x
  simp only [plainF]; rw [if_pos h]
theorem plainF_one (s : ByteArray) (f p : Nat) (x : Nat × Nat) (t : List (Nat × Nat)) (out : ByteArray) (h : ¬ (x.1 = 42 ∨ x.1 = 63 ∨ x.1 = 91)) (h2 : x.1 ≠ 92) : plainF s (f + 1) p (x :: t) out = plainF s f (p + x.2) t (out ++ s.extract p (p + x.2)) := by
  obtain ⟨c, n⟩ := x
  simp only [plainF]; rw [if_neg h, if_neg h2]
theorem plainF_two (s : ByteArray) (f p : Nat) (x y : Nat × Nat) (t : List (Nat × Nat)) (out : ByteArray) (h2 : x.1 = 92) : plainF s (f + 1) p (x :: y :: t) out = plainF s f (p + x.2 + y.2) t (out ++ s.extract (p + x.2) (p + x.2 + y.2)) := by
  obtain ⟨c, n⟩ := x
  obtain ⟨d, m⟩ := y
  simp only at h2
  subst h2
  simp [plainF]
end Go.Proofs.Ytfponjonbhnmlaa.RefGlob
