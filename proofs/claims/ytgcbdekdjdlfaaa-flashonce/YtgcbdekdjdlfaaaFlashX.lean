/-
  Contracts of package flash.
-/
import Derived.Test.YtgcbdekdjdlfaaaFlashXh
set_option linter.unusedVariables false
set_option linter.unusedSimpArgs false
namespace Go.Proofs.Ytgcbdekdjdlfaaa.Flash
open Go.RowKit
open Go.Proofs.Ytgcbdekdjdlfaaa.Own
open Tup Bytes Foot
theorem fRead_any {w : World} {p : Nat} {d : Dev} {S : Nat → Prop} (h : FHas w p d S) (hd : d.Ok) (q : Int) :
    Calls Try.prog 29 #[.pointer (some ⟨p, 0, none⟩), .int .i64 q] w fun e w' => e = .returned (.tuple #[.string (bs (readD d q).1), .int .i64 ((readD d q).2 : Int)]) ∧ Below w.heap.size w w' := by
  obtain ⟨bB, cap, wv, fz, E, h, rfl⟩ := h
  exact atRead_any h hd q
theorem fProgram_any {w : World} {p : Nat} {d : Dev} {S : Nat → Prop} (h : FHas w p d S) (hd : d.Ok) (q : Int) (b : ByteArray) :
    Calls Try.prog 26 #[.pointer (some ⟨p, 0, none⟩), .int .i64 q, .string b] w fun e w' => e = .returned (.int .i64 ((programD d q b.data.toList).1 : Int)) ∧ ∃ S', FHas w' p (programD d q b.data.toList).2 S' ∧ After S w w' S' := by
  obtain ⟨bB, cap, wv, fz, E, h, rfl⟩ := h
  exact atProgram_any h hd q b
theorem fErase_any {w : World} {p : Nat} {d : Dev} {S : Nat → Prop} (h : FHas w p d S) (hd : d.Ok) (r : Int) :
    Calls Try.prog 31 #[.pointer (some ⟨p, 0, none⟩), .int .i64 r] w fun e w' => e = .returned (.int .i64 ((eraseD d r).1 : Int)) ∧ ∃ S', FHas w' p (eraseD d r).2 S' ∧ After S w w' S' := by
  obtain ⟨bB, cap, wv, fz, E, h, rfl⟩ := h
  exact atErase_any h hd r
theorem fFlush_any {w : World} {p : Nat} {d : Dev} {S : Nat → Prop} (h : FHas w p d S) (hd : d.Ok) :
    Calls Try.prog 27 #[.pointer (some ⟨p, 0, none⟩)] w fun e w' => e = .returned (.int .i64 ((flushD d).1 : Int)) ∧ ∃ S', FHas w' p (flushD d).2 S' ∧ After S w w' S' := by
  obtain ⟨bB, cap, wv, fz, E, h, rfl⟩ := h
  exact atFlush_any h hd
theorem fFuse_any {w : World} {p : Nat} {d : Dev} {S : Nat → Prop} (h : FHas w p d S) (_hd : d.Ok) (n : Int) (hn : n < 9223372036854775808) :
    Calls Try.prog 30 #[.pointer (some ⟨p, 0, none⟩), .int .i64 n] w fun e w' => e = .returned (.tuple #[]) ∧ ∃ S', FHas w' p (fuseD d n) S' ∧ After S w w' S' := by
  obtain ⟨bB, cap, wv, fz, E, h, rfl⟩ := h
  refine (atFuse_any h n hn).mono ?_
  rintro e w' ⟨he, g, fy, hF⟩
  exact ⟨he, _, ⟨_, _, _, _, _, hF, rfl⟩, After.of_grows g (fun j hj => .inl hj)⟩
theorem fDown_any {w : World} {p : Nat} {d : Dev} {S : Nat → Prop} (h : FHas w p d S) (_hd : d.Ok) :
    Calls Try.prog 23 #[.pointer (some ⟨p, 0, none⟩)] w fun e w' => e = .returned (.bool d.down) ∧ Below w.heap.size w w' := by
  obtain ⟨bB, cap, wv, fz, E, h, rfl⟩ := h
  refine (atDown_any h).mono ?_
  rintro e w' ⟨he, rfl⟩
  exact ⟨he, Below.refl _ _⟩
theorem fPending_any {w : World} {p : Nat} {d : Dev} {S : Nat → Prop} (h : FHas w p d S) (_hd : d.Ok) :
    Calls Try.prog 24 #[.pointer (some ⟨p, 0, none⟩)] w fun e w' => e = .returned (.int .i64 (d.wait.length : Int)) ∧ Below w.heap.size w w' := by
  obtain ⟨bB, cap, wv, fz, E, h, rfl⟩ := h
  refine (atPending_any h).mono ?_
  rintro e w' ⟨he, rfl⟩
  exact ⟨he, Below.refl _ _⟩
theorem fCrash_any {w : World} {p : Nat} {d : Dev} {S : Nat → Prop} (h : FHas w p d S) (hd : d.Ok) (ma : Option Addr) (mask : List Int) (ml mc : Nat) (hl : ml = mask.length) (hM : MaskAt w ma mask S) (hm : ∀ m ∈ mask, m < 9223372036854775808) (hml : mask.length ≤ maxLen) :
    Calls Try.prog 28 #[.pointer (some ⟨p, 0, none⟩), .slice ma ml mc] w fun e w' => e = .returned (.tuple #[]) ∧ ∃ S', FHas w' p (crashD d mask) S' ∧ After S w w' S' := by
  obtain ⟨bB, cap, wv, fz, E, h, rfl⟩ := h
  exact atCrash_any h hd ma mask ml mc hl hM hm hml
theorem fRot_any {w : World} {p : Nat} {d : Dev} {S : Nat → Prop} (h : FHas w p d S) (hd : d.Ok) (q k : Int) (x : UInt8) :
    Calls Try.prog 33 #[.pointer (some ⟨p, 0, none⟩), .int .i64 q, .int .i64 k, .int .u8 (x.toNat : Int)] w fun e w' => e = .returned (.int .i64 ((rotD d q k x).1 : Int)) ∧ ∃ S', FHas w' p (rotD d q k x).2 S' ∧ After S w w' S' := by
  obtain ⟨bB, cap, wv, fz, E, h, rfl⟩ := h
  refine (atRot_any h hd q k x).mono ?_
  rintro e w' ⟨he, hF, g⟩
  exact ⟨he, _, hF, After.of_grows g (fun j hj => .inr (.inl hj))⟩
theorem fImage_any {w : World} {p : Nat} {d : Dev} {S : Nat → Prop} (h : FHas w p d S) (_hd : d.Ok) :
    Calls Try.prog 21 #[.pointer (some ⟨p, 0, none⟩)] w fun e w' => e = .returned (.string (bs d.img)) ∧ Below w.heap.size w w' := by
  obtain ⟨bB, cap, wv, fz, E, h, rfl⟩ := h
  refine (atImage_any h).mono ?_
  rintro e w' ⟨he, rfl⟩
  exact ⟨he, Below.refl _ _⟩
theorem fGeom_any {w : World} {p : Nat} {d : Dev} {S : Nat → Prop} (h : FHas w p d S) (_hd : d.Ok) :
    Calls Try.prog 15 #[.pointer (some ⟨p, 0, none⟩)] w fun e w' => e = .returned (Geom.gV ⟨d.pg, d.pgs, d.rgs⟩) ∧ Below w.heap.size w w' := by
  obtain ⟨bB, cap, wv, fz, E, h, rfl⟩ := h
  exact atGeom_any h
end Go.Proofs.Ytgcbdekdjdlfaaa.Flash
