/-
  Joined texts: GroupM, GroupR, GroupV, GroupXc, GroupXd, GroupS.
-/
import Derived.Test.YtligapgjdpdihaaDoorRunPieceXc
import Derived.Test.YtligapgjdpdihaaDoorRunGeomA
import Derived.Test.YtligapgjdpdihaaDoorRunBatchT
import Derived.Test.YtligapgjdpdihaaDoorRunBatchE
import Derived.Test.YtligapgjdpdihaaDoorRunTup
import Derived.Test.YtligapgjdpdihaaDoorRunRegion
import Derived.Test.YtligapgjdpdihaaDoorGroupXa
import Derived.Test.YtligapgjdpdihaaDoorRunFlashA
import Derived.Test.YtligapgjdpdihaaDoorRunBatchM
import Derived.BigQuiet
/-
  Groups as the document has them: a group's frames, and back. Nothing of the program's functions.
-/
set_option linter.unusedVariables false
set_option linter.unusedSimpArgs false
namespace Go.Proofs.YtligapgjdpdihaaDoor.Group
open CrcM (W)
open Crc (le4 sumOf vl wd)
open Go.Proofs.YtligapgjdpdihaaDoor.Frame (Fr zeroF le4_len)
open Piece (isSeqB pieceR four sealPR getZ)
open Geom (Gm rightG mostG needG Small right_small)
open Batch (Wr bytesW layB readW rightW read_back)
open Flash (bs bs_size bs_list list_bs cut)

structure Gp where
  seq : W
  prev : W
  frm : W
  wr : List Wr
def zeroGp : Gp := ⟨0#32, 0#32, 0#32, []⟩
def formG (x : Gp) : Bool := isSeqB x.seq && decide (vl x.prev < vl x.seq) && decide (1 ≤ vl x.frm) && decide (vl x.frm ≤ vl x.seq)
/-- how many pieces of r bytes n bytes have -/
def partsN (r n : Nat) : Nat := (n + r - 1) / r
def partAt (s : W) (r : Nat) (b : List UInt8) (k : Nat) : Fr := ⟨2, s, wd k, cut b (k * r) r⟩
def partsTo (s : W) (r : Nat) (b : List UInt8) (k : Nat) : List Fr := (List.range k).map (partAt s r b)
def partsF (s : W) (r : Nat) (b : List UInt8) : List Fr := partsTo s r b (partsN r b.length)
def sealF (x : Gp) (n : Nat) (b : List UInt8) : Fr := ⟨3, x.seq, wd n, four x.prev x.frm (CrcM.sum b) (wd b.length)⟩
def roomN (g : Gm) : Nat := (g.page - 15).toNat
def framesG (g : Gm) (x : Gp) (b : List UInt8) : List Fr := partsF x.seq (roomN g) b ++ [sealF x (partsN (roomN g) b.length) b]
def cutG (g : Gm) (x : Gp) : List Fr × Nat :=
  if rightG g = false then ([], 1) else if (bytesW x.wr).2 ≠ 0 then ([], (bytesW x.wr).2) else if formG x = false then ([], 2)
  else if mostG g < needG g (bytesW x.wr).1.size then ([], 14) else (framesG g x (bytesW x.wr).1.data.toList, 0)
/-- this is the k-th Part of that Seq -/
def okAt (s : W) (k : Nat) (f : Fr) : Bool := pieceR f && decide (f.kind = 2) && decide (f.a = s) && decide (vl f.b = (k : Int))
/-- these are Parts of that Seq, counted from k on -/
def partsOk (s : W) : Nat → List Fr → Bool
  | _, [] => true
  | k, f :: r => okAt s k f && partsOk s (k + 1) r
def textsF (l : List Fr) : List UInt8 := l.flatMap (·.body)
def lastF (l : List Fr) : Fr := l.getD (l.length - 1) zeroF
def headF (l : List Fr) : List Fr := l.take (l.length - 1)
def sealOk (l : List Fr) : Bool := pieceR (lastF l) && decide ((lastF l).kind = 3) && decide (vl (lastF l).b = ((l.length - 1 : Nat) : Int)) && partsOk (lastF l).a 0 (headF l)
def sumsOk (l : List Fr) : Bool := decide (le4 (lastF l).body 12 = ((textsF (headF l)).length : Int)) && decide (le4 (lastF l).body 8 = sumOf (textsF (headF l)))
def joinG (l : List Fr) : Gp × Nat :=
  if l.length < 2 then (zeroGp, 3) else if sealOk l = false then (zeroGp, 2) else if sumsOk l = false then (zeroGp, 5)
  else if (readW (bs (textsF (headF l)))).2 ≠ 0 then (zeroGp, (readW (bs (textsF (headF l)))).2)
  else (⟨(lastF l).a, wd (le4 (lastF l).body 0), wd (le4 (lastF l).body 4), (readW (bs (textsF (headF l)))).1⟩, 0)

theorem partsN_spec {r n : Nat} (hr : 0 < r) : ∀ k, k * r < n ↔ k < partsN r n := fun k => by
  unfold partsN
  have h := Nat.le_div_iff_mul_le (x := k + 1) (y := n + r - 1) hr
  rw [Nat.add_mul, Nat.one_mul] at h
  omega
theorem partsN_pos {r n : Nat} (hr : 0 < r) (hn : 0 < n) : 1 ≤ partsN r n := by
  have := (partsN_spec (n := n) hr 0).1 (by omega); omega
theorem partsN_need (g : Gm) (h : Small g) (n : Nat) (h1 : 1 ≤ n) (h2 : n ≤ 1048576) : needG g n = (partsN (roomN g) n : Int) + 1 := by
  unfold needG Geom.clampG partsN roomN
  have hp := h.p0
  obtain ⟨r, hr⟩ : ∃ r : Nat, g.page - 15 = (r : Int) := ⟨(g.page - 15).toNat, by omega⟩
  rw [hr, Int.toNat_natCast, show min (max (n : Int) 1) 1048576 = (n : Int) by omega]
  have : ((n : Int) + (r : Int) - 1) = ((n + r - 1 : Nat) : Int) := by omega
  rw [this]; rfl
theorem partsTo_succ (s : W) (r : Nat) (b : List UInt8) (k : Nat) : partsTo s r b (k + 1) = partsTo s r b k ++ [partAt s r b k] := by
  unfold partsTo; rw [List.range_succ, List.map_append]; rfl
theorem partsTo_len (s : W) (r : Nat) (b : List UInt8) (k : Nat) : (partsTo s r b k).length = k := by simp [partsTo]
theorem partsF_len (s : W) (r : Nat) (b : List UInt8) : (partsF s r b).length = partsN r b.length := partsTo_len _ _ _ _
theorem framesG_len (g : Gm) (x : Gp) (b : List UInt8) : (framesG g x b).length = partsN (roomN g) b.length + 1 := by
  unfold framesG; rw [List.length_append, partsF_len]; rfl
theorem frames_last (g : Gm) (x : Gp) (b : List UInt8) : lastF (framesG g x b) = sealF x (partsN (roomN g) b.length) b := by
  unfold lastF
  rw [framesG_len]
  unfold framesG
  rw [Nat.add_sub_cancel, List.getD_eq_getElem?_getD, List.getElem?_append_right (by rw [partsF_len]; exact Nat.le_refl _), partsF_len, Nat.sub_self]; rfl
theorem frames_head (g : Gm) (x : Gp) (b : List UInt8) : headF (framesG g x b) = partsF x.seq (roomN g) b := by
  unfold headF
  rw [framesG_len, Nat.add_sub_cancel]
  unfold framesG
  rw [List.take_append_of_le_length (by rw [partsF_len]; exact Nat.le_refl _), List.take_of_length_le (by rw [partsF_len]; exact Nat.le_refl _)]
theorem texts_to (s : W) (r : Nat) (b : List UInt8) (k : Nat) : textsF (partsTo s r b k) = b.take (k * r) := by
  induction k with
  | zero => simp [partsTo, textsF]
  | succ k ih =>
    rw [partsTo_succ]
    unfold textsF at ih ⊢
    rw [List.flatMap_append, ih, Nat.add_mul, Nat.one_mul, List.take_add]
    simp [partAt, cut]
theorem texts_parts (s : W) {r : Nat} (hr : 0 < r) (b : List UInt8) : textsF (partsF s r b) = b := by
  unfold partsF
  rw [texts_to]
  exact List.take_of_length_le (by
    have := (partsN_spec (n := b.length) hr (partsN r b.length))
    omega)
theorem cut_some {r : Nat} (hr : 0 < r) {b : List UInt8} {k : Nat} (h : k * r < b.length) : cut b (k * r) r ≠ [] := fun e => by
  have := congrArg List.length e
  unfold cut at this
  rw [List.length_take, List.length_drop] at this
  simp at this; omega
theorem part_right {s : W} (hs : isSeqB s = true) {r : Nat} (hr : 0 < r) {b : List UInt8} {k : Nat} (h : k * r < b.length) : pieceR (partAt s r b k) = true := by
  show (isSeqB s && !(cut b (k * r) r).isEmpty) = true
  rw [hs, Bool.true_and]
  cases hc : cut b (k * r) r with
  | nil => exact absurd hc (cut_some hr h)
  | cons _ _ => rfl
theorem form_seq {x : Gp} (h : formG x = true) : isSeqB x.seq = true := by unfold formG at h; simp only [Bool.and_eq_true] at h; exact h.1.1.1
theorem seal_le (x : Gp) (n : Nat) (b : List UInt8) : le4 (sealF x n b).body 0 = vl x.prev ∧ le4 (sealF x n b).body 4 = vl x.frm ∧ le4 (sealF x n b).body 8 = sumOf b ∧ le4 (sealF x n b).body 12 = vl (wd b.length) := by
  unfold sealF four
  refine ⟨?_, ?_, ?_, ?_⟩
  · exact le4_len (p := []) rfl
  · exact le4_len (x := x.frm) (p := CrcM.put x.prev.toNat) rfl
  · rw [← List.append_assoc]; exact le4_len (x := CrcM.sum b) (p := CrcM.put x.prev.toNat ++ CrcM.put x.frm.toNat) rfl
  · rw [← List.append_assoc, ← List.append_assoc]
    have := le4_len (x := wd (b.length : Int)) (p := CrcM.put x.prev.toNat ++ CrcM.put x.frm.toNat ++ CrcM.put (CrcM.sum b).toNat) (r := []) (k := 12) rfl
    rwa [List.append_nil] at this
theorem seal_right {x : Gp} {n : Nat} {b : List UInt8} (hx : formG x = true) (hn : 1 ≤ n) (hn2 : n ≤ 4294967295) (hb : 1 ≤ b.length) (hb2 : b.length ≤ 4294967295) : pieceR (sealF x n b) = true := by
  have e : pieceR (sealF x n b) = sealPR x.seq (wd n) x.prev x.frm (wd b.length) := Piece.frameR_fin x.seq (wd n) x.prev x.frm (CrcM.sum b) (wd b.length)
  rw [e]
  unfold formG at hx
  unfold sealPR
  simp only [Bool.and_eq_true, decide_eq_true_eq] at hx ⊢
  rw [Crc.vl_wd (by omega) (by omega), Crc.vl_wd (by omega) (by omega)]
  exact ⟨⟨⟨⟨⟨hx.1.1.1, by omega⟩, hx.1.1.2⟩, hx.1.2⟩, hx.2⟩, by omega⟩
theorem seal_wrong {x : Gp} {n : W} {u z : W} (hx : formG x = false) : pieceR (Piece.pcFrame (.fin x.seq n x.prev x.frm u z)) = false := by
  rw [Piece.frameR_fin]
  unfold formG at hx
  unfold sealPR
  cases h1 : isSeqB x.seq
  · simp
  cases h2 : decide (vl x.prev < vl x.seq)
  · simp
  cases h3 : decide (1 ≤ vl x.frm)
  · simp
  cases h4 : decide (vl x.frm ≤ vl x.seq)
  · simp
  · rw [h1, h2, h3, h4] at hx; simp at hx
theorem partsOk_app (s : W) : ∀ (l m : List Fr) (k : Nat), partsOk s k (l ++ m) = (partsOk s k l && partsOk s (k + l.length) m)
  | [], m, k => by simp [partsOk]
  | f :: r, m, k => by
    simp only [List.cons_append, partsOk, partsOk_app s r m (k + 1), List.length_cons, Bool.and_assoc]
    rw [show k + 1 + r.length = k + (r.length + 1) by omega]
theorem partsOk_split (s : W) {l : List Fr} {k : Nat} (h : k < l.length) : partsOk s 0 l = (partsOk s 0 (l.take k) && (okAt s k l[k] && partsOk s (k + 1) (l.drop (k + 1)))) := by
  conv => lhs; rw [← List.take_append_drop k l, List.drop_eq_getElem_cons h]
  rw [partsOk_app, Nat.zero_add, List.length_take, show min k l.length = k by omega]
  rfl
theorem partsOk_bad (s : W) {l : List Fr} {k : Nat} (h : k < l.length) (hb : okAt s k l[k] = false) : partsOk s 0 l = false := by
  rw [partsOk_split s h, hb, Bool.false_and, Bool.and_false]
theorem partsOk_next (s : W) {l : List Fr} {k : Nat} (h : k < l.length) (h0 : partsOk s 0 (l.take k) = true) (hb : okAt s k l[k] = true) : partsOk s 0 (l.take (k + 1)) = true := by
  rw [List.take_succ_eq_append_getElem h, partsOk_app, h0, Nat.zero_add, List.length_take, show min k l.length = k by omega]
  simp [partsOk, hb]
theorem texts_next {l : List Fr} {k : Nat} (h : k < l.length) : textsF (l.take (k + 1)) = textsF (l.take k) ++ l[k].body := by
  unfold textsF
  rw [List.take_succ_eq_append_getElem h, List.flatMap_append, List.flatMap_cons, List.flatMap_nil, List.append_nil]
theorem texts_len {l : List Fr} (hz : ∀ f ∈ l, f.body.length ≤ 1048576) : (textsF l).length ≤ l.length * 1048576 := by
  induction l with
  | nil => simp [textsF]
  | cons f r ih =>
    have h1 := hz f (by simp)
    have h2 := ih fun g hg => hz g (by simp [hg])
    unfold textsF at h2 ⊢
    rw [List.flatMap_cons, List.length_append, List.length_cons]; omega
theorem mem_take_of {l : List Fr} {P : Fr → Prop} (h : ∀ f ∈ l, P f) (k : Nat) : ∀ f ∈ l.take k, P f := fun f hf => h f (List.mem_of_mem_take hf)
theorem partsOk_to {s : W} (hs : isSeqB s = true) {r : Nat} (hr : 0 < r) (b : List UInt8) (hb : b.length ≤ 4294967295) : ∀ k, k ≤ partsN r b.length → partsOk s 0 (partsTo s r b k) = true
  | 0, _ => rfl
  | k + 1, hk => by
    rw [partsTo_succ, partsOk_app, partsOk_to hs hr b hb k (by omega), partsTo_len, Nat.zero_add, Bool.true_and]
    have h := (partsN_spec (n := b.length) hr k).2 hk
    unfold partsOk okAt
    rw [part_right hs hr h]
    have hk2 : k ≤ k * r := Nat.le_mul_of_pos_right k hr
    simp only [partAt, partsOk, Crc.vl_wd (show (0 : Int) ≤ (k : Int) by omega) (show (k : Int) ≤ 4294967295 by omega)]
    simp
theorem bytes_small {l : List Wr} (h : (bytesW l).2 = 0) : 1 ≤ (bytesW l).1.size ∧ (bytesW l).1.size ≤ 1000 ∧ rightW l = 0 ∧ (bytesW l).1 = layB l := by
  have hr : rightW l = 0 := by
    unfold bytesW at h
    by_cases h0 : rightW l = 0
    · exact h0
    · rw [if_pos h0] at h; exact absurd h h0
  have e : (bytesW l).1 = layB l := by unfold bytesW; rw [if_neg (by simp [hr])]
  obtain ⟨h1, h8, _⟩ := Batch.rightW_ok hr
  have hf := Batch.rightGo_fine l none (Batch.rightW_ok hr).2.2
  have hs := Batch.layTo_size l (fun x hx => ⟨(hf x hx).1, (hf x hx).2.1⟩) l.length (Nat.le_refl _)
  have hp : 1 ≤ (layB l).size := by
    rw [Batch.layB_items, ByteArray.size_append]
    have := (Lay.numS_len l.length).1
    omega
  rw [e]
  refine ⟨hp, ?_, hr, rfl⟩
  show (Batch.layTo l l.length).size ≤ 1000
  omega
theorem roomN_pos {g : Gm} (h : Small g) : 17 ≤ roomN g ∧ roomN g ≤ 113 ∧ ((roomN g : Nat) : Int) = g.page - 15 := by
  unfold roomN; have := h.p0; have := h.p1; omega
end Go.Proofs.YtligapgjdpdihaaDoor.Group
/-
  Rows of frames in memory; groups as values.
-/
set_option linter.unusedVariables false
set_option linter.unusedSimpArgs false
namespace Go.Proofs.YtligapgjdpdihaaDoor.Group
open Go.RowKit
open CrcM (W)
open Crc (vl wd)
open Go.Proofs.YtligapgjdpdihaaDoor.Frame (Fr zeroF fC fV)
open Own Tup
open Batch (Wr WAt WMine)
open Flash (bs)

def flatF (l : List Fr) : List Value := l.flatMap fC
theorem flatF_snoc (l : List Fr) (x : Fr) : flatF (l ++ [x]) = flatF l ++ fC x := by simp [flatF]
theorem flatF_app (l m : List Fr) : flatF (l ++ m) = flatF l ++ flatF m := by simp [flatF]
theorem flatF_length (l : List Fr) : (flatF l).length = l.length * 4 := by
  induction l with
  | nil => rfl
  | cons x r ih => simp only [flatF, List.flatMap_cons, List.length_append] at ih ⊢; rw [ih]; simp [fC]; omega
theorem flatF_at : ∀ (l : List Fr) (k : Nat) (x : Fr), l[k]? = some x → (flatF l)[k * 4]? = some (.int .i64 x.kind) ∧ (flatF l)[k * 4 + 1]? = some (.int .u32 (vl x.a)) ∧ (flatF l)[k * 4 + 2]? = some (.int .u32 (vl x.b)) ∧ (flatF l)[k * 4 + 3]? = some (.string (bs x.body))
  | [], k, x, h => by simp at h
  | y :: r, 0, x, h => by simp at h; subst h; exact ⟨rfl, rfl, rfl, rfl⟩
  | y :: r, k + 1, x, h => by
    have h1 := flatF_at r k x (by simpa using h)
    rw [show (k + 1) * 4 = k * 4 + 1 + 1 + 1 + 1 by omega]
    exact h1
theorem flatF_take (l : List Fr) (k : Nat) : flatF (l.take k) = (flatF l).take (k * 4) := by
  induction l generalizing k with
  | nil => simp [flatF]
  | cons x r ih =>
    cases k with
    | zero => simp [flatF]
    | succ k =>
      rw [List.take_succ_cons]
      show fC x ++ flatF (r.take k) = (fC x ++ flatF r).take ((k + 1) * 4)
      rw [ih k, show (k + 1) * 4 = (fC x).length + k * 4 by simp [fC]; omega, List.take_append, List.take_of_length_le (l := fC x) (by omega), Nat.add_sub_cancel_left]
theorem flatF_drop (l : List Fr) (k : Nat) : flatF (l.drop k) = (flatF l).drop (k * 4) := by
  induction l generalizing k with
  | nil => simp [flatF]
  | cons x r ih =>
    cases k with
    | zero => simp [flatF]
    | succ k =>
      rw [List.drop_succ_cons]
      show flatF (r.drop k) = (fC x ++ flatF r).drop ((k + 1) * 4)
      rw [ih k, show (k + 1) * 4 = (fC x).length + k * 4 by simp [fC]; omega, List.drop_append, List.drop_of_length_le (l := fC x) (by omega), Nat.add_sub_cancel_left, List.nil_append]
/-- a row of frames lies there -/
def FAt (w : World) (a : Option Addr) (l : List Fr) : Prop := At w a (flatF l)
/-- .. that the call itself made -/
def FMine (w : World) (base : Nat) (v : Value) (l : List Fr) : Prop := w.ownsRow base 49 4 v l.length (flatF l)
theorem FMine.nil (w : World) (base : Nat) : FMine w base (.slice none 0 0) [] := ⟨rfl, .inl ⟨rfl, rfl⟩⟩
theorem FAt.below {w w' : World} {a : Option Addr} {l : List Fr} (h : FAt w a l) (hb : Below w.heap.size w w') : FAt w' a l := At.below h hb
theorem FMine.below {w w' : World} {base : Nat} {v : Value} {l : List Fr} (h : FMine w base v l) (hb : Below w.heap.size w w') : FMine w' base v l := Own.owns_below h hb
theorem FMine.slice {w : World} {base : Nat} {v : Value} {l : List Fr} (h : FMine w base v l) : ∃ a c, v = .slice a l.length c ∧ FAt w a l ∧ l.length ≤ c := by
  rcases h.2 with ⟨rfl, h0⟩ | ⟨g, cap, cur, rfl, _, _, hc, _⟩
  · refine ⟨none, 0, by rw [h0], At.of_owns h, by omega⟩
  · exact ⟨_, cap, rfl, At.of_owns h, hc⟩
theorem add_zero' (a : Addr) : a.add 0 = a := by unfold Addr.add; split <;> simp_all
theorem map_zero (a : Option Addr) : a.map (fun x => x.add 0) = a := by
  cases a with
  | none => rfl
  | some x => simp [add_zero']
theorem sizeF (w : World) : (sizeOf (Tryd.prog.elem 31)).run Tryd.prog w = .ok 4 w := by
  have : Tryd.prog.elem 31 = 49 := by kernel_rfl
  rw [this]
  have hi : (Tryd.prog.info? 49).map (fun i => i.size) = some 4 := by kernel_rfl
  obtain ⟨i0, hi1, hi2⟩ := Option.map_eq_some_iff.1 hi
  simp [sizeOf, hi1, hi2] <;> rfl
theorem undF : Tryd.prog.underlying 31 = some (.slice (Tryd.prog.elem 31)) := by kernel_rfl
theorem sliceF_h (a : Option Addr) (len cap h : Nat) (h2 : h ≤ cap) (x : Int) (hx : x = (h : Int)) (w : World) : (Instr.slice 31 (.slice a len cap) none (some (.int .i64 x)) none).run Tryd.prog w = .ok (.slice a h cap) w := by
  subst hx
  rw [run_slice_h (P := Tryd.prog) w 31 a len cap undF .i64 (h : Int) (by omega) (by omega), sizeF]
  simp [Result.andThen, sliced, map_zero]
def dropA (a : Option Addr) (i cap : Nat) : Option Addr := if cap = i then a else a.map (fun x => x.add (i * 4))
theorem sliceF_l (a : Option Addr) (len cap i : Nat) (h2 : i ≤ len) (x : Int) (hx : x = (i : Int)) (w : World) : (Instr.slice 31 (.slice a len cap) (some (.int .i64 x)) none none).run Tryd.prog w = .ok (.slice (dropA a i cap) (len - i) (cap - i)) w := by
  subst hx
  rw [run_slice_l (P := Tryd.prog) w 31 a len cap undF .i64 (i : Int) (by omega) (by omega), sizeF]
  simp [Result.andThen, sliced, dropA]
theorem FAt.drop {w : World} {a : Option Addr} {l : List Fr} (h : FAt w a l) {cap : Nat} (hc : l.length ≤ cap) (i : Nat) : FAt w (dropA a i cap) (l.drop i) := by
  unfold FAt at h ⊢
  rw [flatF_drop]
  by_cases hi : l.length ≤ i
  · left
    apply List.drop_eq_nil_of_le
    rw [flatF_length]; omega
  · have hci : ¬ cap = i := by omega
    rcases h with h | ⟨b, off, ha, hl⟩
    · left; rw [h, List.drop_nil]
    · refine .inr ⟨b, off + i * 4, ?_, fun j c hj => ?_⟩
      · unfold dropA
        rw [if_neg hci, ha]
        simp [Addr.add]
      · have := hl (i * 4 + j) c (by rw [List.getElem?_drop] at hj; exact hj)
        rwa [← Nat.add_assoc] at this
theorem FAt.take {w : World} {a : Option Addr} {l : List Fr} (h : FAt w a l) (k : Nat) : FAt w a (l.take k) := by
  unfold FAt at h ⊢
  rw [flatF_take]
  rcases h with h | ⟨b, off, ha, hl⟩
  · left; rw [h, List.take_nil]
  · refine .inr ⟨b, off, ha, fun j c hj => hl j c ?_⟩
    rw [List.getElem?_take] at hj
    split at hj
    · exact hj
    · cases hj
theorem FAt.get {w : World} {a : Option Addr} {l : List Fr} (h : FAt w a l) {k : Nat} {x : Fr} (hx : l[k]? = some x) :
    ∃ b off, a = some ⟨b, off, none⟩ ∧ b < w.heap.size ∧ w.cell? ⟨b, off + k * 4, none⟩ = some (.int .i64 x.kind) ∧ w.cell? ⟨b, off + k * 4 + 1, none⟩ = some (.int .u32 (vl x.a)) ∧ w.cell? ⟨b, off + k * 4 + 2, none⟩ = some (.int .u32 (vl x.b)) ∧ w.cell? ⟨b, off + k * 4 + 3, none⟩ = some (.string (bs x.body)) := by
  obtain ⟨h0, h1, h2, h3⟩ := flatF_at l k x hx
  rcases h with h | ⟨b, off, ha, hl⟩
  · have := flatF_length l
    rw [h] at this
    have hk := (List.getElem?_eq_some_iff.1 hx).1
    simp at this; omega
  · have c0 := hl _ _ h0
    have c1 := hl _ _ h1
    have c2 := hl _ _ h2
    have c3 := hl _ _ h3
    rw [← Nat.add_assoc] at c1 c2 c3
    exact ⟨b, off, ha, block_lt_of_cell c0, c0, c1, c2, c3⟩
theorem infoF : (Tryd.prog.info? 49).map (fun i => (i.zero, i.size, i.bytes)) = some (some (.agg #[.int .i64 0, .int .u32 0, .int .u32 0, .string ⟨#[]⟩]), 4, 32) := by kernel_rfl
/-- a group's value, its writes given -/
def gpV (x : Gp) (v : Value) : Value := .agg #[.int .u32 (vl x.seq), .int .u32 (vl x.prev), .int .u32 (vl x.frm), v]
def gpC (x : Gp) (v : Value) : List Value := [.int .u32 (vl x.seq), .int .u32 (vl x.prev), .int .u32 (vl x.frm), v]
def CutSays (r : List Fr × Nat) (w : World) (e : Ending) (w' : World) : Prop := ∃ v, e = .returned (.tuple #[v, .int .i64 (r.2 : Int)]) ∧ FMine w' w.heap.size v r.1 ∧ Below w.heap.size w w'
def JoinSays (r : Gp × Nat) (w : World) (e : Ending) (w' : World) : Prop := ∃ v, e = .returned (.tuple #[gpV r.1 v, .int .i64 (r.2 : Int)]) ∧ WMine w' w.heap.size v r.1.wr ∧ Below w.heap.size w w'
/-- a row that a called function made is the caller's own -/
theorem FMine.base {w : World} {b b' : Nat} {v : Value} {l : List Fr} (h : FMine w b v l) (hb : b' ≤ b) : FMine w b' v l := owns_base h hb
theorem wmine_base {w : World} {b b' : Nat} {v : Value} {l : List Wr} (h : WMine w b v l) (hb : b' ≤ b) : WMine w b' v l := owns_base h hb
theorem owns_set_far {w : World} {base : Nat} {e : TypeId} {size : Nat} {v : Value} {n : Nat} {xs : List Value} (h : w.ownsRow base e size v n xs) (p : Addr) (u : Value) (hp : p.block < base) : (w.setCell p u).ownsRow base e size v n xs := by
  refine ⟨h.1, ?_⟩
  rcases h.2 with hn | ⟨g, cap, cur, e1, hg, hh, r⟩
  · exact .inl hn
  · refine .inr ⟨g, cap, cur, e1, hg, ?_, r⟩
    rw [Below.heap_setCell w p u g (by omega)]; exact hh
theorem last_get {l : List Fr} (h : 2 ≤ l.length) : l[l.length - 1]? = some (lastF l) := by
  unfold lastF
  rw [List.getD_eq_getElem?_getD, List.getElem?_eq_getElem (by omega)]; rfl
theorem sealOk_not {l : List Fr} (h : ¬ (Piece.pieceR (lastF l) = true ∧ (lastF l).kind = 3)) : sealOk l = false := by
  unfold sealOk
  cases hp : Piece.pieceR (lastF l) with
  | false => rfl
  | true => rw [decide_eq_false (fun e => h ⟨hp, e⟩)]; rfl
theorem sealOk_at {l : List Fr} (h : Piece.pieceR (lastF l) = true) (hk : (lastF l).kind = 3) : sealOk l = (decide (vl (lastF l).b = ((l.length - 1 : Nat) : Int)) && partsOk (lastF l).a 0 (headF l)) := by
  unfold sealOk
  rw [h, hk]; rfl
theorem seal_len {f : Fr} (h : Piece.pieceR f = true) (hk : f.kind = 3) : f.body.length = 16 := by
  rcases (Piece.pieceR_parts h).2 with ⟨h1, _⟩ | ⟨h1, _⟩ | ⟨_, h1⟩ | ⟨h1, _⟩
  · omega
  · omega
  · exact h1
  · omega
theorem mem_last {l : List Fr} (h : 2 ≤ l.length) : lastF l ∈ l := List.mem_of_getElem? (last_get h)
/-- what Read answers, its row as a slice -/
theorem read_slice {P : Program} {f : FuncId} {args : Array Value} {w : World} {r : List Wr × Nat} (h : Calls P f args w (Batch.ReadSays r w)) :
    Calls P f args w fun e w' => ∃ va vc, e = .returned (.tuple #[.slice va r.1.length vc, .int .i64 (r.2 : Int)]) ∧ WMine w' w.heap.size (.slice va r.1.length vc) r.1 ∧ Below w.heap.size w w' :=
  h.mono fun e w' ⟨v, he, hown, hb⟩ => by
    obtain ⟨va, vc, rfl⟩ := owns_slice hown
    exact ⟨va, vc, he, hown, hb⟩
theorem join_slice {P : Program} {f : FuncId} {args : Array Value} {w : World} {r : Gp × Nat} (h : Calls P f args w (JoinSays r w)) :
    Calls P f args w fun e w' => ∃ va vc, e = .returned (.tuple #[gpV r.1 (.slice va r.1.wr.length vc), .int .i64 (r.2 : Int)]) ∧ WAt w' va r.1.wr ∧ Below w.heap.size w w' :=
  h.mono fun e w' ⟨v, he, hown, hb⟩ => by
    obtain ⟨va, vc, rfl⟩ := owns_slice hown
    exact ⟨va, vc, he, At.of_owns hown, hb⟩
theorem cut_slice {P : Program} {f : FuncId} {args : Array Value} {w : World} {r : List Fr × Nat} (h : Calls P f args w (CutSays r w)) :
    Calls P f args w fun e w' => ∃ va vc, e = .returned (.tuple #[.slice va r.1.length vc, .int .i64 (r.2 : Int)]) ∧ FMine w' w.heap.size (.slice va r.1.length vc) r.1 ∧ FAt w' va r.1 ∧ r.1.length ≤ vc ∧ Below w.heap.size w w' :=
  h.mono fun e w' ⟨v, he, hown, hb⟩ => by
    obtain ⟨va, vc, rfl, h1, h2⟩ := hown.slice
    exact ⟨va, vc, he, hown, h1, h2, hb⟩
end Go.Proofs.YtligapgjdpdihaaDoor.Group
/-
  Tables of the values of a drawn region, some of which lie in memory as rows.
-/
set_option linter.unusedVariables false
set_option linter.unusedSimpArgs false
namespace Go.Proofs.YtligapgjdpdihaaDoor.Group
open Go.RowKit
open Own Tup
open Batch (Wr WMine)
open Go.Proofs.YtligapgjdpdihaaDoor.Frame (Fr)

structure Sp where
  p : Value → World → Prop
  mono : ∀ v w w', p v w → Below w.heap.size w w' → p v w'
def VT (tab : List Value) (sp : List (Nat × Sp)) : Nat → Value → World → Prop := fun i v w => match sp.lookup i with | some s => s.p v w | none => v = tab.getD i undef
theorem VT.mono (tab : List Value) (sp : List (Nat × Sp)) : ∀ i v w w', VT tab sp i v w → Below w.heap.size w w' → VT tab sp i v w' := by
  intro i v w w' h hb
  unfold VT at h ⊢
  split <;> rename_i e
  · rw [e] at h; exact Sp.mono _ _ _ _ h hb
  · rw [e] at h; exact h
/-- a fresh slice of one value -/
def oneSp (cs : List Value) : Sp := ⟨fun v w => ∃ g, v = .slice (some ⟨g, 0, none⟩) 1 1 ∧ Lies w g 0 cs, fun _ _ _ ⟨g, e, h⟩ hb => ⟨g, e, h.below hb⟩⟩
def mineSp (base : Nat) (l : List Fr) : Sp := ⟨fun v w => FMine w base v l, fun _ _ _ h hb => h.below hb⟩
def gpSp (base : Nat) (x : Gp) : Sp := ⟨fun v w => ∃ u, v = gpV x u ∧ WMine w base u x.wr, fun _ _ _ ⟨u, e, h⟩ hb => ⟨u, e, Batch.WMine.below h hb⟩⟩
def cutSp (base : Nat) (r : List Fr × Nat) : Sp := ⟨fun v w => ∃ u, v = .tuple #[u, .int .i64 (r.2 : Int)] ∧ FMine w base u r.1, fun _ _ _ ⟨u, e, h⟩ hb => ⟨u, e, h.below hb⟩⟩
end Go.Proofs.YtligapgjdpdihaaDoor.Group
/-
  What package group's parts and sealed answer.
-/
set_option linter.unusedVariables false
set_option linter.unusedSimpArgs false
namespace Go.Proofs.YtligapgjdpdihaaDoor.Group
open Go.RowKit
open CrcM (W)
open Crc (le4 sumOf vl wd putS)
open Flash (bs bs_size bs_list list_bs cut)
open Go.Proofs.YtligapgjdpdihaaDoor.Frame (Fr zeroF fV fC bel2 below_drewN)
open Piece (pieceR isSeqB ofF ofF_ok ofF_not pcOf pcV Pc of_any asPart_any asSeal_any asPartV asSealV isPartP isSealP sealV partV)
open Tup Bytes Own
open Piece (frame_any frameP frameP_ok pcFrame bs_empty)
open Go.Proofs.YtligapgjdpdihaaDoor.Region (fill Then Deps Each wp_region_is wp_region_is_tail wp_region_each wp_region_tail)
def lenS : Value → Nat
  | .string s => s.size
  | _ => 0
set_option maxRecDepth 100000 in
set_option maxHeartbeats 8000000 in
theorem parts_any (s : W) (hs : isSeqB s = true) (r : Nat) (hr : 0 < r) (hr2 : r ≤ 1000000) (d : List UInt8) (hd : d.length ≤ 1000000) (w : World) :
    Calls Tryd.prog 30 #[.int .u32 (vl s), .string (bs d), .int .i64 (r : Int)] w fun e w' => ∃ v, e = .returned v ∧ FMine w' w.heap.size v (partsF s r d) ∧ Below w.heap.size w w' := by
  obtain ⟨N, hN⟩ : ∃ N, N = partsN r d.length := ⟨_, rfl⟩
  have HSP := Lib.hid (show ∀ k, k * r < d.length ↔ k < N by rw [hN]; exact partsN_spec hr)
  have HPF := Lib.hid (show partsF s r d = partsTo s r d N by rw [hN]; rfl)
  have hNle : N ≤ 1000000 := by
    have h := HSP.out (N - 1)
    by_cases h0 : N = 0
    · omega
    · have h1 := h.2 (by omega)
      have h2 : N - 1 ≤ (N - 1) * r := Nat.le_mul_of_pos_right _ hr
      omega
  have HFR : Hid (∀ k, k < N → ∀ w, Calls Tryd.prog 28 #[.iface 100 (.agg #[.int .u32 (vl s), .int .u32 (k : Int), .string (bs (cut d (k * r) r))])] w fun e w' => e = .returned (.tuple #[.agg #[.int .i64 2, .int .u32 (vl s), .int .u32 (k : Int), .string (bs (cut d (k * r) r))], .int .i64 0]) ∧ Below w.heap.size w w') := fun k hk w => by
    have := frame_any (.part s (wd (k : Int)) (cut d (k * r) r)) w
    rw [frameP_ok (show pieceR (pcFrame (.part s (wd (k : Int)) (cut d (k * r) r))) = true from part_right hs hr ((HSP.out k).2 hk))] at this
    unfold pcV partV fV pcFrame at this
    simp only at this
    rw [Crc.vl_wd (by omega) (by omega)] at this
    exact this
  clear hN hs
  go_enter Tryd.func30, Tryd.ntmps30
  go_wp2
  go_loopw [1, 7] (fun b v wr => ∃ k : Nat, k ≤ N ∧ b = .string (bs (d.drop (k * r))) ∧ FMine wr w.heap.size v (partsTo s r d k) ∧ Below w.heap.size w wr) (fun b _ _ => lenS b)
  case atStart => exact ⟨0, Nat.zero_le _, by rw [Nat.zero_mul]; rfl, FMine.nil _ _, Below.refl _ _⟩
  case round =>
    obtain ⟨k, hk, rfl, hown, hbel⟩ := hrel
    obtain ⟨a, c, rfl⟩ := owns_slice hown
    unfold FMine at hown
    rw [partsTo_len] at hown ⊢
    have HO := Lib.hid hown
    have HB := Lib.hid hbel
    clear hown hbel
    obtain ⟨D, hD⟩ : ∃ D, D = d.drop (k * r) := ⟨_, rfl⟩
    have hDl : D.length = d.length - k * r := by rw [hD, List.length_drop]
    have hBE := bs_empty D
    have hBz := bs_size D
    rw [← hD]
    by_cases hlt : k < N
    case neg =>
      obtain rfl : k = N := by omega
      have h0 : ¬ k * r < d.length := fun h => hlt ((HSP.out k).1 h)
      have q1 : ((bs D).toList == ([] : List UInt8)) = true := by
        rw [hBE, List.isEmpty_iff]
        exact List.length_eq_zero_iff.1 (by omega)
      have q2 : ((bs D).toList != ([] : List UInt8)) = false := by rw [bne, q1]; rfl
      clear hBE hD hDl hBz h0
      generalize bs D = B at *
      go_wp2
      go_ret
      exact ⟨_, rfl, by rw [HPF.out]; unfold FMine; rw [partsTo_len]; exact HO.out, HB.out⟩
    have hkr := (HSP.out k).2 hlt
    have q1 : ((bs D).toList == ([] : List UInt8)) = false := by
      rw [hBE]
      cases hh : D with
      | nil => rw [hh] at hDl; simp at hDl; omega
      | cons _ _ => rfl
    have q2 : ((bs D).toList != ([] : List UInt8)) = true := by rw [bne, q1]; rfl
    obtain ⟨m, hm⟩ : ∃ m : Nat, m = min r D.length := ⟨_, rfl⟩
    have hmn := fun w ts t => Txt.min2' (P := Tryd.prog) w ts t (r : Int) ((bs D).size : Int) (m : Int) (by rw [hBz]; omega)
    have hsl := fun w => Txt.cutS D m (m : Int) rfl (by omega) w
    have hsd := fun w => Txt.dropS D m (m : Int) rfl (by omega) w
    have HF := Lib.hid (HFR.out k hlt)
    have e1 : D.take m = cut d (k * r) r := by
      unfold cut
      rw [← hD]
      by_cases hc : r ≤ D.length
      · rw [show m = r by omega]
      · rw [List.take_of_length_le (by omega), List.take_of_length_le (by omega)]
    have e2 : D.drop m = d.drop ((k + 1) * r) := by
      rw [Nat.add_mul, Nat.one_mul, ← List.drop_drop, ← hD]
      by_cases hc : r ≤ D.length
      · rw [show m = r by omega]
      · rw [List.drop_eq_nil_of_le (by omega), List.drop_eq_nil_of_le (by omega)]
    have hD2 : (bs (D.drop m)).size < (bs D).size := by rw [bs_size, bs_size, List.length_drop]; omega
    have HE2 := Lib.hid (show bs (D.drop m) = bs (d.drop ((k + 1) * r)) by rw [e2])
    rw [e1] at hsl
    have HPA := Lib.hid (show partAt s r d k = ⟨2, s, wd (k : Int), cut d (k * r) r⟩ from rfl)
    have hkv : vl (wd (k : Int)) = (k : Int) := Crc.vl_wd (by omega) (by omega)
    have HFC := Lib.hid (show fC (partAt s r d k) = [.int .i64 2, .int .u32 (vl s), .int .u32 (k : Int), .string (bs (cut d (k * r) r))] by rw [HPA.out]; unfold fC; simp only; rw [hkv])
    have hk32 : (k : Int) % 4294967296 = (k : Int) := by omega
    clear hBE hBz hm e1 e2 HPA hkv HFR
    generalize bs (cut d (k * r) r) = T at *
    generalize bs (D.drop m) = B2 at *
    clear hD hDl
    generalize bs D = B at *
    go_wp2_with (first
      | (go_at_call 28; go_loud ((with_reducible refine (HF.out _).mono ?_); rintro e w1 ⟨rfl, bz⟩; have hbel : Below wr.heap.size wr w1 := (by exact bz); clear bz; have bw1 := Lib.hid (hbel); have zw1 := Lib.hid hbel.size; clear hbel; have vf1 := (show Var (w1.alloc (.cells #[.int .i64 2, .int .u32 (vl s), .int .u32 (k : Int), .string T] 49)) (w1.heap.size) 49 [.int .i64 2, .int .u32 (vl s), .int .u32 (k : Int), .string T] from (Var.new w1 49 [.int .i64 2, .int .u32 (vl s), .int .u32 (k : Int), .string T])); have c2 := vf1.cell (j := 0) rfl; have c3 := vf1.cell (j := 1) rfl; have c4 := vf1.cell (j := 2) rfl; have c5 := vf1.cell (j := 3) rfl; clear vf1))
      | (at_builtin; go_loud ((refine append_tup rfl _ _ 31 rfl w.heap.size 49 (.agg #[.int .i64 0, .int .u32 0, .int .u32 0, .string ⟨#[]⟩]) 4 32 Tryd.underlying31 infoF rfl (by decide) (.slice a k c) k (flatF (partsTo s r d k)) rfl (show World.ownsRow _ w.heap.size _ 4 (.slice a k c) k (flatF (partsTo s r d k)) from owns_below HO.out (bel2 (bel2 bw1.out (Geom.bel_alloc _ _)) (Geom.bel_alloc _ _))) (w1.heap.size + 1) [.int .i64 2, .int .u32 (vl s), .int .u32 (k : Int), .string T] rfl rfl ?c0 ?c1 ?c2 ?c3 ?c5 ?_); (case c0 => exact Batch.lies_two _ _ _ _); (case c1 => simp [Value.oneCell']); (case c2 => omega); (case c3 => (unfold maxLen; omega)); (case c5 => exact (bel2 HB.out (bel2 (bel2 bw1.out (Geom.bel_alloc _ _)) (Geom.bel_alloc _ _))).size); intro g cap2 w9 hown9 hgrow9 hat9 hlt9)))
    have HB9 := Lib.hid (below_append (bel2 HB.out (bel2 (bel2 bw1.out (Geom.bel_alloc _ _)) (Geom.bel_alloc _ _))) hgrow9 (bel2 HB.out (bel2 (bel2 bw1.out (Geom.bel_alloc _ _)) (Geom.bel_alloc _ _))).size (fun t ht => (owns_lt HO.out t ht).2))
    go_roundw
    case rel => exact ⟨k + 1, by omega, by rw [HE2.out], by unfold FMine; rw [partsTo_len, partsTo_succ, flatF_snoc, HFC.out]; exact hown9, HB9.out⟩
    case measure => exact hD2
end Go.Proofs.YtligapgjdpdihaaDoor.Group
/-
  What package group's sealed answers.
-/
set_option linter.unusedVariables false
set_option linter.unusedSimpArgs false
namespace Go.Proofs.YtligapgjdpdihaaDoor.Group
open Go.RowKit
open CrcM (W)
open Crc (le4 sumOf vl wd putS)
open Flash (bs bs_size bs_list list_bs cut)
open Go.Proofs.YtligapgjdpdihaaDoor.Frame (Fr zeroF fV fC bel2 below_drewN)
open Piece (pieceR isSeqB ofF ofF_ok ofF_not pcOf pcV Pc of_any asPart_any asSeal_any asPartV asSealV isPartP isSealP sealV partV)
open Tup Bytes Own
open Go.Proofs.YtligapgjdpdihaaDoor.Region (fill Then Deps Each wp_region_is wp_region_is_tail wp_region_each wp_region_tail)
set_option maxRecDepth 100000 in
set_option maxHeartbeats 8000000 in
theorem sealed_core (sq pv fr : W) (V : Value) (n m : Nat) (hn : n ≤ 4294967295) (hm : m ≤ 4294967295) (B : ByteArray) (hB : B.size = m) (sm : Int)
    (HS : Hid (∀ (b cap : Nat) (w : World), w.cell? ⟨b, 0, none⟩ = some (.string B) → Calls Tryd.prog 40 #[.slice (some ⟨b, 0, none⟩) 1 cap] w fun e w' => e = .returned (.int .u32 sm) ∧ w = w')) (w : World) :
    Calls Tryd.prog 29 #[.agg #[.int .u32 (vl sq), .int .u32 (vl pv), .int .u32 (vl fr), V], .int .i64 (n : Int), .string B] w fun e w' => e = .returned (.agg #[.int .u32 (vl sq), .int .u32 (n : Int), .int .u32 (vl pv), .int .u32 (vl fr), .int .u32 sm, .int .u32 (m : Int)]) ∧ Below w.heap.size w w' := by
  have hn32 : (n : Int) % 4294967296 = (n : Int) := by omega
  have hm32 : (m : Int) % 4294967296 = (m : Int) := by omega
  go_enter Tryd.func29, Tryd.ntmps29
  go_wp2
  obtain ⟨w1, hw1⟩ : ∃ wx, wx = ((w.alloc (.cells #[.int .u32 (vl sq), .int .u32 (vl pv), .int .u32 (vl fr), V] 27)).alloc (.cells #[.int .u32 0, .int .u32 0, .int .u32 0, .int .u32 0, .int .u32 0, .int .u32 0] 61)) := ⟨_, rfl⟩
  have bw1 := Lib.hid (show Below w.heap.size w w1 by rw [hw1]; exact (bel2 (Geom.bel_alloc _ _) (Geom.bel_alloc _ _)))
  have zw1 := Lib.hid (show w.heap.size + 2 ≤ w1.heap.size by rw [hw1]; simp)
  have vw1x := Lib.hid (show Var w1 (w.heap.size) 27 [.int .u32 (vl sq), .int .u32 (vl pv), .int .u32 (vl fr), V] by rw [hw1]; exact ((Var.new w 27 [.int .u32 (vl sq), .int .u32 (vl pv), .int .u32 (vl fr), V]).alloc _))
  have vw1r := Lib.hid (show Var w1 (w.heap.size + 1) 61 [.int .u32 0, .int .u32 0, .int .u32 0, .int .u32 0, .int .u32 0, .int .u32 0] by rw [hw1]; exact (show Var ((w.alloc (.cells #[.int .u32 (vl sq), .int .u32 (vl pv), .int .u32 (vl fr), V] 27)).alloc (.cells #[.int .u32 0, .int .u32 0, .int .u32 0, .int .u32 0, .int .u32 0, .int .u32 0] 61)) (w.heap.size + 1) 61 [.int .u32 0, .int .u32 0, .int .u32 0, .int .u32 0, .int .u32 0, .int .u32 0] from by have h := Var.new (w.alloc (.cells #[.int .u32 (vl sq), .int .u32 (vl pv), .int .u32 (vl fr), V] 27)) 61 [.int .u32 0, .int .u32 0, .int .u32 0, .int .u32 0, .int .u32 0, .int .u32 0]; rw [show (w.alloc (.cells #[.int .u32 (vl sq), .int .u32 (vl pv), .int .u32 (vl fr), V] 27)).heap.size = w.heap.size + 1 by simp] at h; exact h))
  rw [← hw1]
  refine wp_region_tail 15 [7, 8, 9, 10, 11, 12, 13, 14, 15, 16, 17, 18, 19, 20, 21] (fun w' => Below w1.heap.size w1 w') (VT [.pointer (some ⟨w.heap.size, 0, none⟩), .int .u32 (vl sq), .int .i64 (n : Int), .int .u32 (n : Int), .pointer (some ⟨w.heap.size, 1, none⟩), .int .u32 (vl pv), .pointer (some ⟨w.heap.size, 2, none⟩), .int .u32 (vl fr), .string B, undef, .int .u32 sm, .string B, .int .i64 (m : Int), .int .u32 (m : Int), .agg #[.int .u32 (vl sq), .int .u32 (n : Int), .int .u32 (vl pv), .int .u32 (vl fr), .int .u32 sm, .int .u32 (m : Int)]] [(9, oneSp [.string B])]) (by kernel_rfl) (by kernel_rfl) (by kernel_rfl) (by decide) rfl (by decide) (by simp) (VT.mono _ _) (Below.refl _ _).drew ?each ?done
  case each =>
    simp only [List.take_succ_cons, List.take_zero, Each]
    refine ⟨?o0, ?o1, ?o2, ?o3, ?o4, ?o5, ?o6, ?o7, ?o8, ?o9, ?o10, ?o11, ?o12, ?o13, ?o14, trivial⟩
    case o0 =>
      intro ys wx hBx hdeps
      clear hdeps
      simp only [fill, List.foldl_cons, List.foldl_nil, Act.put, List.setIfInBounds_toArray, List.set_cons_succ, List.set_cons_zero]
      go_wp2_with fail
      exact ⟨_, rfl, rfl, hBx, Below.refl _ _⟩
    case o1 =>
      intro ys wx hBx hdeps
      simp only [Deps, Region.binds, List.getD_cons_zero, List.getD_cons_succ, forall_const, and_true, true_and] at hdeps
      have y0 : ys 7 = .pointer (some ⟨w.heap.size, 0, none⟩) := by first | exact hdeps | exact hdeps.1 | exact hdeps.2.1 | exact hdeps.2 | exact hdeps.2.2
      clear hdeps
      have q1 := (vw1x.out.below hBx vw1x.out.lt).cell (j := 0) rfl
      simp only [y0, fill, List.foldl_cons, List.foldl_nil, Act.put, List.setIfInBounds_toArray, List.set_cons_succ, List.set_cons_zero]
      go_wp2_with fail
      exact ⟨_, rfl, rfl, hBx, Below.refl _ _⟩
    case o2 =>
      intro ys wx hBx hdeps
      clear hdeps
      simp only [fill, List.foldl_cons, List.foldl_nil, Act.put, List.setIfInBounds_toArray, List.set_cons_succ, List.set_cons_zero]
      go_wp2_with fail
      exact ⟨_, rfl, rfl, hBx, Below.refl _ _⟩
    case o3 =>
      intro ys wx hBx hdeps
      simp only [Deps, Region.binds, List.getD_cons_zero, List.getD_cons_succ, forall_const, and_true, true_and] at hdeps
      have y2 : ys 9 = .int .i64 (n : Int) := by first | exact hdeps | exact hdeps.1 | exact hdeps.2.1 | exact hdeps.2 | exact hdeps.2.2
      clear hdeps
      simp only [y2, fill, List.foldl_cons, List.foldl_nil, Act.put, List.setIfInBounds_toArray, List.set_cons_succ, List.set_cons_zero]
      go_wp2_with fail
      exact ⟨_, rfl, rfl, hBx, Below.refl _ _⟩
    case o4 =>
      intro ys wx hBx hdeps
      clear hdeps
      simp only [fill, List.foldl_cons, List.foldl_nil, Act.put, List.setIfInBounds_toArray, List.set_cons_succ, List.set_cons_zero]
      go_wp2_with fail
      exact ⟨_, rfl, rfl, hBx, Below.refl _ _⟩
    case o5 =>
      intro ys wx hBx hdeps
      simp only [Deps, Region.binds, List.getD_cons_zero, List.getD_cons_succ, forall_const, and_true, true_and] at hdeps
      have y4 : ys 11 = .pointer (some ⟨w.heap.size, 1, none⟩) := by first | exact hdeps | exact hdeps.1 | exact hdeps.2.1 | exact hdeps.2 | exact hdeps.2.2
      clear hdeps
      have q2 := (vw1x.out.below hBx vw1x.out.lt).cell (j := 1) rfl
      simp only [y4, fill, List.foldl_cons, List.foldl_nil, Act.put, List.setIfInBounds_toArray, List.set_cons_succ, List.set_cons_zero]
      go_wp2_with fail
      exact ⟨_, rfl, rfl, hBx, Below.refl _ _⟩
    case o6 =>
      intro ys wx hBx hdeps
      clear hdeps
      simp only [fill, List.foldl_cons, List.foldl_nil, Act.put, List.setIfInBounds_toArray, List.set_cons_succ, List.set_cons_zero]
      go_wp2_with fail
      exact ⟨_, rfl, rfl, hBx, Below.refl _ _⟩
    case o7 =>
      intro ys wx hBx hdeps
      simp only [Deps, Region.binds, List.getD_cons_zero, List.getD_cons_succ, forall_const, and_true, true_and] at hdeps
      have y6 : ys 13 = .pointer (some ⟨w.heap.size, 2, none⟩) := by first | exact hdeps | exact hdeps.1 | exact hdeps.2.1 | exact hdeps.2 | exact hdeps.2.2
      clear hdeps
      have q3 := (vw1x.out.below hBx vw1x.out.lt).cell (j := 2) rfl
      simp only [y6, fill, List.foldl_cons, List.foldl_nil, Act.put, List.setIfInBounds_toArray, List.set_cons_succ, List.set_cons_zero]
      go_wp2_with fail
      exact ⟨_, rfl, rfl, hBx, Below.refl _ _⟩
    case o8 =>
      intro ys wx hBx hdeps
      clear hdeps
      simp only [fill, List.foldl_cons, List.foldl_nil, Act.put, List.setIfInBounds_toArray, List.set_cons_succ, List.set_cons_zero]
      go_wp2_with fail
      exact ⟨_, rfl, rfl, hBx, Below.refl _ _⟩
    case o9 =>
      intro ys wx hBx hdeps
      simp only [Deps, Region.binds, List.getD_cons_zero, List.getD_cons_succ, forall_const, and_true, true_and] at hdeps
      have y8 : ys 15 = .string B := by first | exact hdeps | exact hdeps.1 | exact hdeps.2.1 | exact hdeps.2 | exact hdeps.2.2
      clear hdeps
      simp only [y8, fill, List.foldl_cons, List.foldl_nil, Act.put, List.setIfInBounds_toArray, List.set_cons_succ, List.set_cons_zero]
      go_wp2_with fail
      exact ⟨_, rfl, ⟨_, rfl, lies_new wx [.string B] 9⟩, hBx.alloc hBx.size _, (Below.refl _ _).alloc (Nat.le_refl _) _⟩
    case o10 =>
      intro ys wx hBx hdeps
      simp only [Deps, Region.binds, List.getD_cons_zero, List.getD_cons_succ, forall_const, and_true, true_and] at hdeps
      have z9 : ∃ g, ys 16 = .slice (some ⟨g, 0, none⟩) 1 1 ∧ Lies wx g 0 [.string B] := by first | exact hdeps | exact hdeps.1 | exact hdeps.2.1 | exact hdeps.2 | exact hdeps.2.2
      with_reducible refine Exists.elim z9 ?_
      intro g9 hh
      have y9 := hh.1
      have r9 := hh.2
      clear hh z9
      clear hdeps
      simp only [y9, fill, List.foldl_cons, List.foldl_nil, Act.put, List.setIfInBounds_toArray, List.set_cons_succ, List.set_cons_zero]
      have hcs : wx.cell? ⟨g9, 0, none⟩ = some (.string B) := r9 0 _ rfl
      go_wp2_with (go_at_call 40; (with_reducible refine (HS.out _ _ _ hcs).mono ?_); rintro e w3 ⟨rfl, rfl⟩)
      exact ⟨_, rfl, rfl, hBx, Below.refl _ _⟩
    case o11 =>
      intro ys wx hBx hdeps
      clear hdeps
      simp only [fill, List.foldl_cons, List.foldl_nil, Act.put, List.setIfInBounds_toArray, List.set_cons_succ, List.set_cons_zero]
      go_wp2_with fail
      exact ⟨_, rfl, rfl, hBx, Below.refl _ _⟩
    case o12 =>
      intro ys wx hBx hdeps
      simp only [Deps, Region.binds, List.getD_cons_zero, List.getD_cons_succ, forall_const, and_true, true_and] at hdeps
      have y11 : ys 18 = .string B := by first | exact hdeps | exact hdeps.1 | exact hdeps.2.1 | exact hdeps.2 | exact hdeps.2.2
      clear hdeps
      simp only [y11, fill, List.foldl_cons, List.foldl_nil, Act.put, List.setIfInBounds_toArray, List.set_cons_succ, List.set_cons_zero]
      go_wp2_with fail
      exact ⟨_, rfl, rfl, hBx, Below.refl _ _⟩
    case o13 =>
      intro ys wx hBx hdeps
      simp only [Deps, Region.binds, List.getD_cons_zero, List.getD_cons_succ, forall_const, and_true, true_and] at hdeps
      have y12 : ys 19 = .int .i64 (m : Int) := by first | exact hdeps | exact hdeps.1 | exact hdeps.2.1 | exact hdeps.2 | exact hdeps.2.2
      clear hdeps
      simp only [y12, fill, List.foldl_cons, List.foldl_nil, Act.put, List.setIfInBounds_toArray, List.set_cons_succ, List.set_cons_zero]
      go_wp2_with fail
      exact ⟨_, rfl, rfl, hBx, Below.refl _ _⟩
    case o14 =>
      intro ys wx hBx hdeps
      simp only [Deps, Region.binds, List.getD_cons_zero, List.getD_cons_succ, forall_const, and_true, true_and] at hdeps
      have y1 : ys 8 = .int .u32 (vl sq) := by first | exact hdeps.1 | exact hdeps.2.1 | exact hdeps.2.2.1 | exact hdeps.2.2.2.1 | exact hdeps.2.2.2.2.1 | exact hdeps.2.2.2.2.2.1 | exact hdeps.2.2.2.2.2.2.1 | exact hdeps.2 | exact hdeps.2.2 | exact hdeps.2.2.2 | exact hdeps.2.2.2.2 | exact hdeps.2.2.2.2.2 | exact hdeps.2.2.2.2.2.2 | exact hdeps.2.2.2.2.2.2.2
      have y3 : ys 10 = .int .u32 (n : Int) := by first | exact hdeps.1 | exact hdeps.2.1 | exact hdeps.2.2.1 | exact hdeps.2.2.2.1 | exact hdeps.2.2.2.2.1 | exact hdeps.2.2.2.2.2.1 | exact hdeps.2.2.2.2.2.2.1 | exact hdeps.2 | exact hdeps.2.2 | exact hdeps.2.2.2 | exact hdeps.2.2.2.2 | exact hdeps.2.2.2.2.2 | exact hdeps.2.2.2.2.2.2 | exact hdeps.2.2.2.2.2.2.2
      have y5 : ys 12 = .int .u32 (vl pv) := by first | exact hdeps.1 | exact hdeps.2.1 | exact hdeps.2.2.1 | exact hdeps.2.2.2.1 | exact hdeps.2.2.2.2.1 | exact hdeps.2.2.2.2.2.1 | exact hdeps.2.2.2.2.2.2.1 | exact hdeps.2 | exact hdeps.2.2 | exact hdeps.2.2.2 | exact hdeps.2.2.2.2 | exact hdeps.2.2.2.2.2 | exact hdeps.2.2.2.2.2.2 | exact hdeps.2.2.2.2.2.2.2
      have y7 : ys 14 = .int .u32 (vl fr) := by first | exact hdeps.1 | exact hdeps.2.1 | exact hdeps.2.2.1 | exact hdeps.2.2.2.1 | exact hdeps.2.2.2.2.1 | exact hdeps.2.2.2.2.2.1 | exact hdeps.2.2.2.2.2.2.1 | exact hdeps.2 | exact hdeps.2.2 | exact hdeps.2.2.2 | exact hdeps.2.2.2.2 | exact hdeps.2.2.2.2.2 | exact hdeps.2.2.2.2.2.2 | exact hdeps.2.2.2.2.2.2.2
      have y10 : ys 17 = .int .u32 sm := by first | exact hdeps.1 | exact hdeps.2.1 | exact hdeps.2.2.1 | exact hdeps.2.2.2.1 | exact hdeps.2.2.2.2.1 | exact hdeps.2.2.2.2.2.1 | exact hdeps.2.2.2.2.2.2.1 | exact hdeps.2 | exact hdeps.2.2 | exact hdeps.2.2.2 | exact hdeps.2.2.2.2 | exact hdeps.2.2.2.2.2 | exact hdeps.2.2.2.2.2.2 | exact hdeps.2.2.2.2.2.2.2
      have y13 : ys 20 = .int .u32 (m : Int) := by first | exact hdeps.1 | exact hdeps.2.1 | exact hdeps.2.2.1 | exact hdeps.2.2.2.1 | exact hdeps.2.2.2.2.1 | exact hdeps.2.2.2.2.2.1 | exact hdeps.2.2.2.2.2.2.1 | exact hdeps.2 | exact hdeps.2.2 | exact hdeps.2.2.2 | exact hdeps.2.2.2.2 | exact hdeps.2.2.2.2.2 | exact hdeps.2.2.2.2.2.2 | exact hdeps.2.2.2.2.2.2.2
      clear hdeps
      simp only [y1, y3, y5, y7, y10, y13, fill, List.foldl_cons, List.foldl_nil, Act.put, List.setIfInBounds_toArray, List.set_cons_succ, List.set_cons_zero]
      go_wp2_with fail
      exact ⟨_, rfl, rfl, hBx, Below.refl _ _⟩
  case done =>
    intro ys w2 hBx hV
    have bw2 := Lib.hid (bel2 bw1.out hBx)
    have zw2 := Lib.hid hBx.size
    have vw2x := Lib.hid (vw1x.out.below hBx vw1x.out.lt)
    have vw2r := Lib.hid (vw1r.out.below hBx vw1r.out.lt)
    have h21 : ys 21 = .agg #[.int .u32 (vl sq), .int .u32 (n : Int), .int .u32 (vl pv), .int .u32 (vl fr), .int .u32 sm, .int .u32 (m : Int)] := hV 14 (by decide)
    clear hBx hV
    simp only [h21, fill, List.drop_succ_cons, List.drop_zero, List.foldl_cons, List.foldl_nil, Act.put, List.setIfInBounds_toArray, List.set_cons_succ, List.set_cons_zero]
    have vf4 := (show Var w2 (w.heap.size + 1) 61 [.int .u32 0, .int .u32 0, .int .u32 0, .int .u32 0, .int .u32 0, .int .u32 0] from vw2r.out)
    have c5 := vf4.cell (j := 0) rfl
    have c6 := vf4.cell (j := 1) rfl
    have c7 := vf4.cell (j := 2) rfl
    have c8 := vf4.cell (j := 3) rfl
    have c9 := vf4.cell (j := 4) rfl
    have c10 := vf4.cell (j := 5) rfl
    clear vf4
    have vf11 := (show Var w2 (w.heap.size + 1) 61 [.int .u32 0, .int .u32 0, .int .u32 0, .int .u32 0, .int .u32 0, .int .u32 0] from vw2r.out)
    have f12 := vf11.frozen 0
    have f13 := vf11.frozen 1
    have f14 := vf11.frozen 2
    have f15 := vf11.frozen 3
    have f16 := vf11.frozen 4
    have f17 := vf11.frozen 5
    clear vf11
    go_wp2
    have vf18 := (show Var ((((((w2.setCell ⟨w.heap.size + 1, 0, none⟩ (.int .u32 (vl sq))).setCell ⟨w.heap.size + 1, 1, none⟩ (.int .u32 (n : Int))).setCell ⟨w.heap.size + 1, 2, none⟩ (.int .u32 (vl pv))).setCell ⟨w.heap.size + 1, 3, none⟩ (.int .u32 (vl fr))).setCell ⟨w.heap.size + 1, 4, none⟩ (.int .u32 sm)).setCell ⟨w.heap.size + 1, 5, none⟩ (.int .u32 (m : Int))) (w.heap.size + 1) 61 [.int .u32 (vl sq), .int .u32 (n : Int), .int .u32 (vl pv), .int .u32 (vl fr), .int .u32 sm, .int .u32 (m : Int)] from ((((((vw2r.out.set 0 (.int .u32 (vl sq))).set 1 (.int .u32 (n : Int))).set 2 (.int .u32 (vl pv))).set 3 (.int .u32 (vl fr))).set 4 (.int .u32 sm)).set 5 (.int .u32 (m : Int))))
    have c19 := vf18.cell (j := 0) rfl
    have c20 := vf18.cell (j := 1) rfl
    have c21 := vf18.cell (j := 2) rfl
    have c22 := vf18.cell (j := 3) rfl
    have c23 := vf18.cell (j := 4) rfl
    have c24 := vf18.cell (j := 5) rfl
    clear vf18
    refine bodyPost_ret (v := .agg #[.int .u32 (vl sq), .int .u32 (n : Int), .int .u32 (vl pv), .int .u32 (vl fr), .int .u32 sm, .int .u32 (m : Int)]) (by simp [results, Tryd.results29, go_sem, c19, c20, c21, c22, c23, c24]) rfl ?_
    exact ⟨rfl, ((((((bw2.out.setCell (p := ⟨w.heap.size + 1, 0, none⟩) (by have := zw1.out; have := zw2.out; simp only; omega) _).setCell (p := ⟨w.heap.size + 1, 1, none⟩) (by have := zw1.out; have := zw2.out; simp only; omega) _).setCell (p := ⟨w.heap.size + 1, 2, none⟩) (by have := zw1.out; have := zw2.out; simp only; omega) _).setCell (p := ⟨w.heap.size + 1, 3, none⟩) (by have := zw1.out; have := zw2.out; simp only; omega) _).setCell (p := ⟨w.heap.size + 1, 4, none⟩) (by have := zw1.out; have := zw2.out; simp only; omega) _).setCell (p := ⟨w.heap.size + 1, 5, none⟩) (by have := zw1.out; have := zw2.out; simp only; omega) _)⟩
theorem sealed_any (x : Gp) (V : Value) (n : Nat) (hn : n ≤ 4294967295) (d : List UInt8) (hd : d.length ≤ 1000000) (w : World) :
    Calls Tryd.prog 29 #[gpV x V, .int .i64 (n : Int), .string (bs d)] w fun e w' => e = .returned (sealV x.seq (wd (n : Int)) x.prev x.frm (CrcM.sum d) (wd (d.length : Int))) ∧ Below w.heap.size w w' := by
  have h := sealed_core x.seq x.prev x.frm V n d.length hn (by omega) (bs d) (bs_size d) (sumOf d) (fun b cap w hc => by
    have := Crc.sum_one (bs d) b cap w (by rw [bs_size]; unfold maxLen; omega) hc
    rwa [list_bs] at this) w
  unfold sealV gpV
  rw [Crc.vl_wd (by omega) (by omega), Crc.vl_wd (by omega) (by omega)]
  exact h
end Go.Proofs.YtligapgjdpdihaaDoor.Group
/-
  What the book's SameFrames and SameGroup answer of the same, and the laws' shaped.
-/
set_option linter.unusedVariables false
set_option linter.unusedSimpArgs false
namespace Go.Proofs.YtligapgjdpdihaaDoor.Group
open Go.RowKit
open CrcM (W)
open Crc (vl wd)
open Go.Proofs.YtligapgjdpdihaaDoor.Frame (Fr zeroF fC fV bel2)
open Own Tup
open Batch (Wr WAt WMine writesOf makeW)
open Flash (bs)
theorem Var.othr2 {w : World} {k : Nat} {t : TypeId} {cs : List Value} (h : Var w k t cs) (p : Addr) (v : Value) (hp : k ≠ p.block) : Var (w.setCell p v) k t cs := Piece.Var.othr2 h p v hp
theorem writes_six (l : List Wr) : (writesOf l 6).length ≤ 6 := by
  unfold writesOf; rw [List.length_map, List.length_take]; omega
theorem writes_most (l : List Wr) (n : Nat) : (writesOf l n).length ≤ n := by
  unfold writesOf; rw [List.length_map, List.length_take]; omega
theorem writes_key (l : List Wr) (n : Nat) : ∀ x ∈ writesOf l n, x.key.size ≤ 8796093022208 := by
  intro x hx
  unfold writesOf at hx
  obtain ⟨y, _, rfl⟩ := List.mem_map.1 hx
  show (RefSort.shortOf y.key 60).size ≤ _
  unfold RefSort.shortOf
  rw [ByteArray.size_extract]
  omega
set_option maxRecDepth 100000 in
set_option maxHeartbeats 4000000 in
theorem sameF_any (a b : Option Addr) (l : List Fr) (c d : Nat) (hl : l.length ≤ 1000000) (w : World) (ha : FAt w a l) (hb : FAt w b l) :
    Calls Tryd.prog 15 #[.slice a l.length c, .slice b l.length d] w fun e w' => e = .returned (.bool true) ∧ ∃ n, w' = w.drewN n := by
  have HA := Lib.hid ha
  have HB := Lib.hid hb
  clear ha hb
  obtain ⟨n, hn⟩ : ∃ n, n = l.length := ⟨_, rfl⟩
  rw [← hn]
  have HL := Lib.hid hn
  rw [← hn] at hl
  clear hn
  have d0 : ((n : Int) == (n : Int)) = true := beq_self_eq_true _
  have d00 : ((n : Int) != (n : Int)) = false := by rw [bne, d0]; rfl
  go_enter Tryd.func15, Tryd.ntmps15
  go_wp2
  go_loopw [5] (fun i wr => ∃ k : Nat, i = .int .i64 (k : Int) ∧ k ≤ n ∧ ∃ q, wr = w.drewN q) (fun i _ => n - (intOf i).toNat)
  case atStart => exact ⟨0, rfl, by omega, 0, rfl⟩
  case round =>
    obtain ⟨k, rfl, hk, q0, rfl⟩ := hrel
    by_cases hlt : k < n
    · have h1 : k < l.length := by rw [← HL.out]; exact hlt
      obtain ⟨b1, o1, ha1, hx1, c0, c1, c2, c3⟩ := FAt.get HA.out (List.getElem?_eq_getElem h1)
      obtain ⟨b2, o2, ha2, hx2, e0, e1, e2, e3⟩ := FAt.get HB.out (List.getElem?_eq_getElem h1)
      subst ha1 ha2
      clear hx1 hx2
      generalize l[k] = x at *
      clear h1
      go_wp2
      go_quiet (fail)
      go_wp2
      go_roundw
      case rel => exact ⟨k + 1, by go_num, by omega, q0 + nq, rfl⟩
      case measure => simp [intOf]; omega
    · go_wp2
      go_ret
      exact ⟨rfl, q0, rfl⟩
set_option maxRecDepth 100000 in
set_option maxHeartbeats 8000000 in
theorem sameG_any (x : Gp) (a b : Option Addr) (c d : Nat) (hl : x.wr.length ≤ 1000000) (w : World) (ha : WAt w a x.wr) (hb : WAt w b x.wr) :
    Calls Tryd.prog 18 #[gpV x (.slice a x.wr.length c), gpV x (.slice b x.wr.length d)] w fun e w' => e = .returned (.bool true) ∧ Below w.heap.size w w' := by
  obtain ⟨X, hX⟩ : ∃ X, X = x.wr := ⟨_, rfl⟩
  obtain ⟨sq, pv, fr, wr⟩ := x
  unfold gpV
  simp only at hX hl ha hb ⊢
  obtain ⟨n, hn⟩ : ∃ n, n = wr.length := ⟨_, rfl⟩
  have HSW : Hid (∀ w, WAt w a wr → WAt w b wr → Calls Tryd.prog 45 #[.slice a n c, .slice b n d] w fun e w' => e = .returned (.bool true) ∧ Below w.heap.size w w') := fun w ha hb => by
    have := Batch.sameW_any a b wr wr c d hl hl w ha hb
    rw [hn]
    exact this.mono fun _ _ ⟨h, hq⟩ => ⟨by rw [h]; simp, Crc.belD hq⟩
  rw [← hn]
  have HA := Lib.hid ha
  have HB := Lib.hid hb
  have q0 : (vl sq == vl sq) = true := beq_self_eq_true _
  have q1 : (vl pv == vl pv) = true := beq_self_eq_true _
  have q2 : (vl fr == vl fr) = true := beq_self_eq_true _
  clear hn hl ha hb hX
  go_enter Tryd.func18, Tryd.ntmps18
  go_wp2_with (first
    | (go_at_call 45; ((with_reducible refine (HSW.out _ (Batch.WAt.below HA.out (bel2 (Geom.bel_alloc _ _) (Geom.bel_alloc _ _))) (Batch.WAt.below HB.out (bel2 (Geom.bel_alloc _ _) (Geom.bel_alloc _ _)))).mono ?_); rintro e w2 ⟨rfl, bz⟩; obtain ⟨w1, hw1⟩ : ∃ wx, wx = ((w.alloc (.cells #[.int .u32 (vl sq), .int .u32 (vl pv), .int .u32 (vl fr), .slice a n c] 27)).alloc (.cells #[.int .u32 (vl sq), .int .u32 (vl pv), .int .u32 (vl fr), .slice b n d] 27)) := ⟨_, rfl⟩; have bw1 := Lib.hid (show Below w.heap.size w w1 by rw [hw1]; exact (bel2 (Geom.bel_alloc _ _) (Geom.bel_alloc _ _))); have zw1 := Lib.hid (show w.heap.size + 2 ≤ w1.heap.size by rw [hw1]; simp); have vw1x := Lib.hid (show Var w1 (w.heap.size) 27 [.int .u32 (vl sq), .int .u32 (vl pv), .int .u32 (vl fr), .slice a n c] by rw [hw1]; exact ((Var.new w 27 [.int .u32 (vl sq), .int .u32 (vl pv), .int .u32 (vl fr), .slice a n c]).alloc _)); have vw1y := Lib.hid (show Var w1 (w.heap.size + 1) 27 [.int .u32 (vl sq), .int .u32 (vl pv), .int .u32 (vl fr), .slice b n d] by rw [hw1]; exact (show Var ((w.alloc (.cells #[.int .u32 (vl sq), .int .u32 (vl pv), .int .u32 (vl fr), .slice a n c] 27)).alloc (.cells #[.int .u32 (vl sq), .int .u32 (vl pv), .int .u32 (vl fr), .slice b n d] 27)) (w.heap.size + 1) 27 [.int .u32 (vl sq), .int .u32 (vl pv), .int .u32 (vl fr), .slice b n d] from by have h := Var.new (w.alloc (.cells #[.int .u32 (vl sq), .int .u32 (vl pv), .int .u32 (vl fr), .slice a n c] 27)) 27 [.int .u32 (vl sq), .int .u32 (vl pv), .int .u32 (vl fr), .slice b n d]; rw [show (w.alloc (.cells #[.int .u32 (vl sq), .int .u32 (vl pv), .int .u32 (vl fr), .slice a n c] 27)).heap.size = w.heap.size + 1 by simp] at h; exact h)); have hbel : Below w1.heap.size w1 w2 := (by rw [hw1]; exact bz); clear bz; have bw2 := Lib.hid (bel2 bw1.out hbel); have zw2 := Lib.hid hbel.size; have vw2x := Lib.hid (vw1x.out.below hbel vw1x.out.lt); have vw2y := Lib.hid (vw1y.out.below hbel vw1y.out.lt); clear hbel)))
  go_ret
  exact ⟨rfl, bw2.out⟩
end Go.Proofs.YtligapgjdpdihaaDoor.Group
