/-
  Pieces as the document has them: which frames are pieces, what each is. Nothing of the program's functions.
-/
import Derived.Test.YtdbfclngllhdlaaFrameN
set_option linter.unusedVariables false
set_option linter.unusedSimpArgs false
namespace Go.Proofs.Ytdbfclngllhdlaa.Piece
open CrcM (W)
open Crc (le4 sumOf vl wd)
open Go.Proofs.Ytdbfclngllhdlaa.Frame (Fr zeroF)

inductive Pc
  | none
  | head (e r : W)
  | part (s a : W) (t : List UInt8)
  | fin (s p v f u z : W)
  | floor (s g f : W)
def isSeqB (x : W) : Bool := decide (1 ≤ vl x) && decide (vl x ≤ 2147483647)
def sealR (a b : W) (l : List UInt8) : Bool := (vl b != 0) && ((l.length : Int) == 16) && decide (le4 l 0 < vl a) && decide (1 ≤ le4 l 4) && decide (le4 l 4 ≤ vl a) && (le4 l 12 != 0)
def floorR (a : W) (l : List UInt8) : Bool := ((l.length : Int) == 4) && decide (le4 l 0 ≤ vl a)
/-- is a frame a piece? -/
def pieceR (f : Fr) : Bool :=
  isSeqB f.a && (if f.kind = 1 then f.body.isEmpty else if f.kind = 2 then !f.body.isEmpty else if f.kind = 3 then sealR f.a f.b f.body else if f.kind = 4 then floorR f.a f.body else false)
def pcOf (f : Fr) : Pc :=
  if f.kind = 1 then .head f.a f.b else if f.kind = 2 then .part f.a f.b f.body else if f.kind = 3 then .fin f.a f.b (wd (le4 f.body 0)) (wd (le4 f.body 4)) (wd (le4 f.body 8)) (wd (le4 f.body 12)) else .floor f.a f.b (wd (le4 f.body 0))
def ofF (f : Fr) : Pc × Nat := if pieceR f = true then (pcOf f, 0) else (.none, 2)
def four (a b c d : W) : List UInt8 := CrcM.put a.toNat ++ (CrcM.put b.toNat ++ (CrcM.put c.toNat ++ CrcM.put d.toNat))
def pcFrame : Pc → Fr
  | .none => zeroF
  | .head e r => ⟨1, e, r, []⟩
  | .part s a t => ⟨2, s, a, t⟩
  | .fin s p v f u z => ⟨3, s, p, four v f u z⟩
  | .floor s g f => ⟨4, s, g, CrcM.put f.toNat⟩
/-- a piece's frame, or none -/
def frameP (p : Pc) : Fr × Nat := if pieceR (pcFrame p) = true then (pcFrame p, 0) else (zeroF, 2)
theorem frameP_none : frameP .none = (zeroF, 2) := by
  unfold frameP pcFrame
  rw [if_neg]
  simp [pieceR, zeroF]
def kindP : Pc → Int
  | .none => 0
  | .head _ _ => 1
  | .part _ _ _ => 2
  | .fin _ _ _ _ _ _ => 3
  | .floor _ _ _ => 4
/-- four bytes are put's of the number that they are -/
theorem put_wd (a b c d : UInt8) : CrcM.put (wd (le4 [a, b, c, d] 0)).toNat = [a, b, c, d] := by
  have ha := a.toNat_lt; have hb := b.toNat_lt; have hc := c.toNat_lt; have hd := d.toNat_lt
  have hv : ((wd (le4 [a, b, c, d] 0)).toNat : Int) = (a.toNat : Int) + 256 * b.toNat + 65536 * c.toNat + 16777216 * d.toNat := by
    show vl (wd (le4 [a, b, c, d] 0)) = _
    have e : le4 [a, b, c, d] 0 = (a.toNat : Int) + 256 * b.toNat + 65536 * c.toNat + 16777216 * d.toNat := rfl
    rw [Crc.vl_wd (by rw [e]; omega) (by rw [e]; omega), e]
  unfold CrcM.put
  generalize (wd (le4 [a, b, c, d] 0)).toNat = n at hv
  have k0 : UInt8.ofNat (n % 256) = a := UInt8.toNat_inj.1 (by simp; omega)
  have k1 : UInt8.ofNat (n / 256 % 256) = b := UInt8.toNat_inj.1 (by simp; omega)
  have k2 : UInt8.ofNat (n / 65536 % 256) = c := UInt8.toNat_inj.1 (by simp; omega)
  have k3 : UInt8.ofNat (n / 16777216 % 256) = d := UInt8.toNat_inj.1 (by simp; omega)
  rw [k0, k1, k2, k3]
theorem four_of {l : List UInt8} (h : l.length = 4) : CrcM.put (wd (le4 l 0)).toNat = l := by
  match l, h with
  | [a, b, c, d], _ => exact put_wd a b c d
theorem sixteen_of {l : List UInt8} (h : l.length = 16) : four (wd (le4 l 0)) (wd (le4 l 4)) (wd (le4 l 8)) (wd (le4 l 12)) = l := by
  match l, h with
  | [a0, a1, a2, a3, b0, b1, b2, b3, c0, c1, c2, c3, d0, d1, d2, d3], _ =>
    unfold four
    have e0 := put_wd a0 a1 a2 a3
    have e1 := put_wd b0 b1 b2 b3
    have e2 := put_wd c0 c1 c2 c3
    have e3 := put_wd d0 d1 d2 d3
    rw [show le4 [a0, a1, a2, a3, b0, b1, b2, b3, c0, c1, c2, c3, d0, d1, d2, d3] 0 = le4 [a0, a1, a2, a3] 0 from rfl, show le4 [a0, a1, a2, a3, b0, b1, b2, b3, c0, c1, c2, c3, d0, d1, d2, d3] 4 = le4 [b0, b1, b2, b3] 0 from rfl,
      show le4 [a0, a1, a2, a3, b0, b1, b2, b3, c0, c1, c2, c3, d0, d1, d2, d3] 8 = le4 [c0, c1, c2, c3] 0 from rfl, show le4 [a0, a1, a2, a3, b0, b1, b2, b3, c0, c1, c2, c3, d0, d1, d2, d3] 12 = le4 [d0, d1, d2, d3] 0 from rfl, e0, e1, e2, e3]
    rfl
theorem pieceR_parts {f : Fr} (h : pieceR f = true) : isSeqB f.a = true ∧ ((f.kind = 1 ∧ f.body = []) ∨ (f.kind = 2 ∧ f.body ≠ []) ∨ (f.kind = 3 ∧ f.body.length = 16) ∨ (f.kind = 4 ∧ f.body.length = 4)) := by
  unfold pieceR at h
  rw [Bool.and_eq_true] at h
  refine ⟨h.1, ?_⟩
  have h2 := h.2
  by_cases k1 : f.kind = 1
  · rw [if_pos k1] at h2; exact .inl ⟨k1, List.isEmpty_iff.1 h2⟩
  rw [if_neg k1] at h2
  by_cases k2 : f.kind = 2
  · rw [if_pos k2] at h2
    refine .inr (.inl ⟨k2, fun e => ?_⟩)
    rw [e] at h2; simp at h2
  rw [if_neg k2] at h2
  by_cases k3 : f.kind = 3
  · rw [if_pos k3] at h2
    unfold sealR at h2
    simp only [Bool.and_eq_true, beq_iff_eq] at h2
    exact .inr (.inr (.inl ⟨k3, by omega⟩))
  rw [if_neg k3] at h2
  by_cases k4 : f.kind = 4
  · rw [if_pos k4] at h2
    unfold floorR at h2
    simp only [Bool.and_eq_true, beq_iff_eq] at h2
    exact .inr (.inr (.inr ⟨k4, by omega⟩))
  rw [if_neg k4] at h2
  cases h2
/-- what a frame is, leads back to it -/
theorem back_of {f : Fr} (h : pieceR f = true) : pcFrame (pcOf f) = f := by
  obtain ⟨-, h⟩ := pieceR_parts h
  obtain ⟨k, a, b, body⟩ := f
  simp only at h
  unfold pcOf
  rcases h with ⟨hk, hb⟩ | ⟨hk, hb⟩ | ⟨hk, hb⟩ | ⟨hk, hb⟩
  · simp only [hk, if_true, pcFrame, hb]
  · simp only [hk, if_neg (show ¬ (2 : Int) = 1 by decide), if_true, pcFrame]
  · simp only [hk, if_neg (show ¬ (3 : Int) = 1 by decide), if_neg (show ¬ (3 : Int) = 2 by decide), if_true, pcFrame, sixteen_of hb]
  · simp only [hk, if_neg (show ¬ (4 : Int) = 1 by decide), if_neg (show ¬ (4 : Int) = 2 by decide), if_neg (show ¬ (4 : Int) = 3 by decide), pcFrame, four_of hb]
theorem kind_of {f : Fr} (h : pieceR f = true) : kindP (pcOf f) = f.kind := by
  obtain ⟨-, h⟩ := pieceR_parts h
  unfold pcOf
  rcases h with ⟨hk, -⟩ | ⟨hk, -⟩ | ⟨hk, -⟩ | ⟨hk, -⟩
  · rw [if_pos hk, hk]; rfl
  · rw [if_neg (by omega), if_pos hk, hk]; rfl
  · rw [if_neg (by omega), if_neg (by omega), if_pos hk, hk]; rfl
  · rw [if_neg (by omega), if_neg (by omega), if_neg (by omega), hk]; rfl
theorem frame_of {f : Fr} (h : pieceR f = true) : frameP (pcOf f) = (f, 0) := by
  unfold frameP
  rw [back_of h, if_pos h]
theorem frameP_ok {p : Pc} (h : pieceR (pcFrame p) = true) : frameP p = (pcFrame p, 0) := by unfold frameP; rw [if_pos h]
theorem frameP_not {p : Pc} (h : pieceR (pcFrame p) = false) : frameP p = (zeroF, 2) := by unfold frameP; rw [if_neg (by simp [h])]
theorem ofF_ok {f : Fr} (h : pieceR f = true) : ofF f = (pcOf f, 0) := by unfold ofF; rw [if_pos h]
theorem ofF_not {f : Fr} (h : pieceR f = false) : ofF f = (.none, 2) := by unfold ofF; rw [if_neg (by simp [h])]
end Go.Proofs.Ytdbfclngllhdlaa.Piece
