/-
  FlashPlays: two devices side by side, and what a step makes of one.
-/
import Derived.Test.YtgcbdekdjdlfaaaFlashP
import Derived.Test.YtgcbdekdjdlfaaaRegion3
set_option linter.unusedVariables false
set_option linter.unusedSimpArgs false
namespace Go.Proofs.Ytgcbdekdjdlfaaa.Flash
open Go.RowKit
open Go.Proofs.Ytgcbdekdjdlfaaa.Own
open Tup Bytes Foot

/-- the landed device and the document's, alike, apart -/
structure Two (w : World) (p r : Nat) (d e : Dev) (S R : Nat → Prop) : Prop where
  f : FHas w p d S
  r : RHas w r e R
  apart : ∀ k, S k → ¬ R k
def both (S R : Nat → Prop) : Nat → Prop := fun k => S k ∨ R k
theorem Two.below {w w' : World} {p r : Nat} {d e : Dev} {S R : Nat → Prop} (h : Two w p r d e S R) (g : Below w.heap.size w w') : Two w' p r d e S R := ⟨h.f.below g, h.r.below g, h.apart⟩
theorem Two.lt {w : World} {p r : Nat} {d e : Dev} {S R : Nat → Prop} (h : Two w p r d e S R) : ∀ k, both S R k → k < w.heap.size := by
  rintro k (x | x)
  · exact h.f.lt k x
  · exact h.r.lt k x
/-- a call on the landed one -/
theorem Two.left {w w' : World} {p r : Nat} {d d' e : Dev} {S S' R : Nat → Prop} (h : Two w p r d e S R) (hf : FHas w' p d' S') (a : After S w w' S') : Two w' p r d' e S' R ∧ After (both S R) w w' (both S' R) := by
  refine ⟨⟨hf, h.r.grows a.grows (fun k hk hs => h.apart k hs hk), a.apart (fun k hk => h.r.lt k hk) h.apart⟩, a.grows.mono (fun k hk => .inl hk), ?_⟩
  rintro k (x | x)
  · rcases a.foot k x with y | y
    · exact .inl (.inl y)
    · exact .inr y
  · exact .inl (.inr x)
/-- .. on the document's -/
theorem Two.right {w w' : World} {p r : Nat} {d e e' : Dev} {S R R' : Nat → Prop} (h : Two w p r d e S R) (hr : RHas w' r e' R') (a : After R w w' R') : Two w' p r d e' S R' ∧ After (both S R) w w' (both S R') := by
  refine ⟨⟨h.f.grows a.grows (fun k hk hs => h.apart k hk hs), hr, ?_⟩, a.grows.mono (fun k hk => .inr hk), ?_⟩
  · intro k hs hr'
    exact a.apart (T := S) (fun k hk => h.f.lt k hk) (fun k hk hs => h.apart k hs hk) k hr' hs
  · rintro k (x | x)
    · exact .inl (.inl x)
    · rcases a.foot k x with y | y
      · exact .inl (.inr y)
      · exact .inr y
/-- a step, raw -/
structure St where
  what : Int
  a : Int
  b : Int
  s : ByteArray
  x : UInt8
  m : List Int
  near : Bool
def St.page (t : St) (d : Dev) : Int := if t.near then t.a % (d.n : Int) else t.a
def St.text (t : St) (d : Dev) : List UInt8 := if t.near then full t.s d.pg 0 else t.s.data.toList
def St.region (t : St) (d : Dev) : Int := if t.near then t.a % (d.rgs : Int) else t.a
def St.at (t : St) (d : Dev) : Int := if t.near then t.b % (d.pg : Int) else t.b
/-- what it makes of a device -/
def stepD (d : Dev) (t : St) : Dev :=
  if t.what % 12 = 5 then (eraseD d (t.region d)).2
  else if t.what % 12 = 6 ∨ t.what % 12 = 7 then (flushD d).2
  else if t.what % 12 = 8 then crashD d t.m
  else if t.what % 12 = 9 then fuseD d (t.a % 12 - 2)
  else if t.what % 12 = 10 then (rotD d (t.page d) (t.at d) t.x).2
  else if t.what % 12 = 11 then d
  else (programD d (t.page d) (t.text d)).2
theorem step_keeps {d : Dev} (h : d.Ok) (t : St) : (stepD d t).Ok := by
  unfold stepD
  split
  · exact erase_keeps h _
  split
  · exact flush_keeps h
  split
  · exact crash_keeps h _
  split
  · exact fuse_keeps h _
  split
  · exact rot_keeps h _ _ _
  split
  · exact h
  · exact program_keeps h _ _
/-- the document's calls, of RHas -/
theorem rErase {w : World} {p : Nat} {d : Dev} {R : Nat → Prop} (h : RHas w p d R) (hd : d.Ok) (r : Int) : Calls Try.prog 37 #[.pointer (some ⟨p, 0, none⟩), .int .i64 r] w fun e w' => e = .returned (.int .i64 ((eraseD d r).1 : Int)) ∧ ∃ R', RHas w' p (eraseD d r).2 R' ∧ After R w w' R' := by
  obtain ⟨a, b, c, f, h, rfl⟩ := h; exact refErase_any h hd r
theorem rFlush {w : World} {p : Nat} {d : Dev} {R : Nat → Prop} (h : RHas w p d R) (hd : d.Ok) : Calls Try.prog 38 #[.pointer (some ⟨p, 0, none⟩)] w fun e w' => e = .returned (.int .i64 ((flushD d).1 : Int)) ∧ ∃ R', RHas w' p (flushD d).2 R' ∧ After R w w' R' := by
  obtain ⟨a, b, c, f, h, rfl⟩ := h; exact refFlush_any h hd
theorem rProgram {w : World} {p : Nat} {d : Dev} {R : Nat → Prop} (h : RHas w p d R) (hd : d.Ok) (q : Int) (b : ByteArray) : Calls Try.prog 43 #[.pointer (some ⟨p, 0, none⟩), .int .i64 q, .string b] w fun e w' => e = .returned (.int .i64 ((programD d q b.data.toList).1 : Int)) ∧ ∃ R', RHas w' p (programD d q b.data.toList).2 R' ∧ After R w w' R' := by
  obtain ⟨x, y, c, f, h, rfl⟩ := h; exact refProgram_any h hd q b
theorem rCrash {w : World} {p : Nat} {d : Dev} {R : Nat → Prop} (h : RHas w p d R) (hd : d.Ok) (ma : Option Addr) (mask : List Int) (ml mc : Nat) (hl : ml = mask.length) (hM : MaskAt w ma mask R) (hm : ∀ m ∈ mask, m < 9223372036854775808) (hml : mask.length ≤ maxLen) :
    Calls Try.prog 39 #[.pointer (some ⟨p, 0, none⟩), .slice ma ml mc] w fun e w' => e = .returned (.tuple #[]) ∧ ∃ R', RHas w' p (crashD d mask) R' ∧ After R w w' R' := by
  obtain ⟨x, y, c, f, h, rfl⟩ := h; subst hl; exact refCrash_any h hd ma mask mc hM hm hml
theorem rFuse {w : World} {p : Nat} {d : Dev} {R : Nat → Prop} (h : RHas w p d R) (n : Int) (hn : n < 9223372036854775808) : Calls Try.prog 40 #[.pointer (some ⟨p, 0, none⟩), .int .i64 n] w fun e w' => e = .returned (.tuple #[]) ∧ ∃ R', RHas w' p (fuseD d n) R' ∧ After R w w' R' := by
  obtain ⟨x, y, c, f, h, rfl⟩ := h
  refine (refFuse_any h n hn).mono ?_
  rintro e w' ⟨he, h1, g⟩
  exact ⟨he, _, h1, After.of_grows g (fun j hj => .inl hj)⟩
theorem rRot {w : World} {p : Nat} {d : Dev} {R : Nat → Prop} (h : RHas w p d R) (hd : d.Ok) (q k : Int) (x : UInt8) : Calls Try.prog 41 #[.pointer (some ⟨p, 0, none⟩), .int .i64 q, .int .i64 k, .int .u8 (x.toNat : Int)] w fun e w' => e = .returned (.int .i64 ((rotD d q k x).1 : Int)) ∧ ∃ R', RHas w' p (rotD d q k x).2 R' ∧ After R w w' R' := by
  obtain ⟨a, y, c, f, h, rfl⟩ := h
  refine (refRot_any h hd q k x).mono ?_
  rintro e w' ⟨he, h1, g⟩
  exact ⟨he, _, h1, After.of_grows g (fun j hj => .inr (.inl hj))⟩
theorem rRead {w : World} {p : Nat} {d : Dev} {R : Nat → Prop} (h : RHas w p d R) (hd : d.Ok) (q : Int) : Calls Try.prog 42 #[.pointer (some ⟨p, 0, none⟩), .int .i64 q] w fun e w' => e = .returned (.tuple #[.string (bs (readD d q).1), .int .i64 ((readD d q).2 : Int)]) ∧ Below w.heap.size w w' := by
  obtain ⟨a, b, c, f, h, rfl⟩ := h; exact refRead_any h hd q
theorem rCells {w : World} {p : Nat} {d : Dev} {R : Nat → Prop} (h : RHas w p d R) : w.cell? ⟨p, 0, none⟩ = some (.int .i64 (d.pg : Int)) ∧ w.cell? ⟨p, 1, none⟩ = some (.int .i64 (d.pgs : Int)) ∧ w.cell? ⟨p, 2, none⟩ = some (.int .i64 (d.rgs : Int)) := by
  obtain ⟨a, b, c, f, h, rfl⟩ := h
  exact ⟨h.var.cell (j := 0) rfl, h.var.cell (j := 1) rfl, h.var.cell (j := 2) rfl⟩
end Go.Proofs.Ytgcbdekdjdlfaaa.Flash
