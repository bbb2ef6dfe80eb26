/-
  Joined texts: GroupMath, GroupSb, RefGroup.
-/
import Derived.Test.YtligapgjdpdihaaDoorRunGroupM
import Derived.Test.YtligapgjdpdihaaDoorRunFrameM
import Derived.Test.YtligapgjdpdihaaDoorRunGeomA
import Derived.Test.YtligapgjdpdihaaDoorRunBatchE
import Derived.Test.YtligapgjdpdihaaDoorRunRefFrame
import Derived.Test.YtligapgjdpdihaaDoorRunFlashA
/-
  A group that has frames comes back from them; what becomes of its frames where a byte is turned, a frame lacks.
-/
set_option linter.unusedVariables false
set_option linter.unusedSimpArgs false
namespace Go.Proofs.YtligapgjdpdihaaDoor.Group
open CrcM (W)
open Crc (le4 sumOf vl wd)
open Go.Proofs.YtligapgjdpdihaaDoor.Frame (Fr zeroF)
open Piece (pieceR isSeqB)
open Geom (Gm rightG mostG needG Small right_small)
open Batch (Wr bytesW layB rightW readW read_back)
open Flash (bs bs_size bs_list list_bs cut)
structure CutOk (g : Gm) (x : Gp) (b : List UInt8) : Prop where
  right : rightG g = true
  code : (bytesW x.wr).2 = 0
  form : formG x = true
  fits : needG g (bytesW x.wr).1.size ≤ mostG g
  bytes : b = (bytesW x.wr).1.data.toList
theorem cut_ok {g : Gm} {x : Gp} {l : List Fr} (h : cutG g x = (l, 0)) : ∃ b, CutOk g x b ∧ l = framesG g x b := by
  unfold cutG at h
  cases hg : rightG g with
  | false => rw [hg, if_pos rfl] at h; simp at h
  | true =>
    rw [hg, if_neg (by simp)] at h
    by_cases hc : (bytesW x.wr).2 = 0
    case neg => rw [if_pos hc] at h; simp only [Prod.mk.injEq] at h; exact absurd h.2 hc
    rw [if_neg (by simp [hc])] at h
    cases hf : formG x with
    | false => rw [hf, if_pos rfl] at h; simp at h
    | true =>
      rw [hf, if_neg (by simp)] at h
      by_cases hm : mostG g < needG g (bytesW x.wr).1.size
      · rw [if_pos hm] at h; simp at h
      · rw [if_neg hm] at h
        simp only [Prod.mk.injEq, and_true] at h
        exact ⟨_, ⟨hg, hc, hf, by omega, rfl⟩, h.symm⟩
theorem cut_none {g : Gm} {x : Gp} (h : (cutG g x).2 ≠ 0) : (cutG g x).1 = [] := by
  unfold cutG at h ⊢
  split
  · rfl
  split
  · rfl
  split
  · rfl
  split
  · rfl
  · rename_i h1 h2 h3 h4
    rw [if_neg h1, if_neg h2, if_neg h3, if_neg h4] at h
    exact absurd rfl h
theorem CutOk.sizes {g : Gm} {x : Gp} {b : List UInt8} (h : CutOk g x b) : 17 ≤ roomN g ∧ roomN g ≤ 113 ∧ 1 ≤ b.length ∧ b.length ≤ 1000 ∧ 1 ≤ partsN (roomN g) b.length ∧ partsN (roomN g) b.length ≤ 1000 ∧ needG g (bytesW x.wr).1.size = (partsN (roomN g) b.length : Int) + 1 ∧ bs b = (bytesW x.wr).1 ∧ b.length = (bytesW x.wr).1.size := by
  have hs := right_small.1 h.right
  obtain ⟨r1, r2, r3⟩ := roomN_pos hs
  have hb := bytes_small h.code
  have hl : b.length = (bytesW x.wr).1.size := by rw [h.bytes]; simp
  refine ⟨r1, r2, by omega, by omega, partsN_pos (by omega) (by omega), ?_, ?_, by rw [h.bytes]; exact bs_list _, hl⟩
  · have h2 := (partsN_spec (r := roomN g) (n := b.length) (by omega) (partsN (roomN g) b.length - 1)).2
    by_cases h0 : partsN (roomN g) b.length = 0
    · omega
    · have h3 := h2 (by omega)
      have h4 : partsN (roomN g) b.length - 1 ≤ (partsN (roomN g) b.length - 1) * roomN g := Nat.le_mul_of_pos_right _ (by omega)
      omega
  · rw [← hl]; exact partsN_need g hs b.length (by omega) (by omega)
theorem CutOk.seal {g : Gm} {x : Gp} {b : List UInt8} (h : CutOk g x b) : pieceR (sealF x (partsN (roomN g) b.length) b) = true := by
  obtain ⟨_, _, h1, h2, h3, h4, _⟩ := h.sizes
  exact seal_right h.form h3 (by omega) h1 (by omega)
theorem join_frames {g : Gm} {x : Gp} {b : List UInt8} (h : CutOk g x b) : joinG (framesG g x b) = (x, 0) := by
  obtain ⟨r1, _, h1, h2, h3, h4, _, hbs, hl⟩ := h.sizes
  have hsm := bytes_small h.code
  obtain ⟨l0, l4, l8, l12⟩ := seal_le x (partsN (roomN g) b.length) b
  have hso : sealOk (framesG g x b) = true := by
    unfold sealOk
    rw [frames_last, frames_head, h.seal, framesG_len, Nat.add_sub_cancel]
    rw [show (sealF x (partsN (roomN g) b.length) b).kind = 3 from rfl, show (sealF x (partsN (roomN g) b.length) b).b = wd (partsN (roomN g) b.length : Int) from rfl, show (sealF x (partsN (roomN g) b.length) b).a = x.seq from rfl, Crc.vl_wd (by omega) (by omega)]
    rw [show partsF x.seq (roomN g) b = partsTo x.seq (roomN g) b (partsN (roomN g) b.length) from rfl, partsOk_to (form_seq h.form) (by omega) b (by omega) _ (Nat.le_refl _)]
    simp
  have htx : textsF (headF (framesG g x b)) = b := by rw [frames_head, texts_parts _ (by omega)]
  have hsu : sumsOk (framesG g x b) = true := by
    unfold sumsOk
    rw [htx, frames_last, l12, l8, Crc.vl_wd (by omega) (by omega)]
    simp
  have hrd : readW (bs b) = (x.wr, 0) := by rw [hbs, hsm.2.2.2]; exact read_back hsm.2.2.1
  unfold joinG
  rw [if_neg (by rw [framesG_len]; omega), if_neg (by simp [hso]), if_neg (by simp [hsu]), htx, hrd, if_neg (by simp), frames_last, l0, l4, Crc.wd_vl, Crc.wd_vl]
  rfl
theorem part_get {g : Gm} {x : Gp} {b : List UInt8} {i : Nat} (hi : i < partsN (roomN g) b.length) : (framesG g x b)[i]? = some (partAt x.seq (roomN g) b i) := by
  unfold framesG
  rw [List.getElem?_append_left (by rw [partsF_len]; exact hi)]
  unfold partsF partsTo
  rw [List.getElem?_map, List.getElem?_range hi]; rfl
theorem last_of {l : List Fr} {f : Fr} (h : l[l.length - 1]? = some f) : lastF l = f := by
  unfold lastF
  rw [List.getD_eq_getElem?_getD, h]; rfl
/-- a frame lacks: no group -/
theorem join_lacks {g : Gm} {x : Gp} {b : List UInt8} (h : CutOk g x b) {i : Nat} (hi : i ≤ partsN (roomN g) b.length) :
    (joinG ((framesG g x b).take i ++ (framesG g x b).drop (i + 1))).2 = 2 ∨ ((joinG ((framesG g x b).take i ++ (framesG g x b).drop (i + 1))).2 = 3 ∧ (framesG g x b).length = 2) := by
  obtain ⟨r1, _, h1, h2, h3, h4, _⟩ := h.sizes
  have hlen : ((framesG g x b).take i ++ (framesG g x b).drop (i + 1)).length = partsN (roomN g) b.length := by
    rw [List.length_append, List.length_take, List.length_drop, framesG_len]; omega
  by_cases hn : partsN (roomN g) b.length = 1
  · right
    refine ⟨?_, by rw [framesG_len, hn]⟩
    unfold joinG
    rw [if_pos (by omega)]
  left
  have hno : sealOk ((framesG g x b).take i ++ (framesG g x b).drop (i + 1)) = false := by
    by_cases hl : i = partsN (roomN g) b.length
    · apply sealOk_not
      rintro ⟨_, hk⟩
      rw [last_of (f := partAt x.seq (roomN g) b (partsN (roomN g) b.length - 1)) (by
        rw [hlen, List.getElem?_append_left (by rw [List.length_take, framesG_len]; omega), List.getElem?_take_of_lt (by omega), part_get (by omega)])] at hk
      have : (2 : Int) = 3 := hk
      omega
    · have hla : lastF ((framesG g x b).take i ++ (framesG g x b).drop (i + 1)) = sealF x (partsN (roomN g) b.length) b := by
        apply last_of
        have hg := last_get (l := framesG g x b) (by rw [framesG_len]; omega)
        rw [frames_last, framesG_len, Nat.add_sub_cancel] at hg
        have hlt : (List.take i (framesG g x b)).length = i := by rw [List.length_take, framesG_len]; omega
        rw [hlen, List.getElem?_append_right (by rw [hlt]; omega), List.getElem?_drop, hlt, ← hg]
        congr 1
        omega
      have hne : ¬ ((partsN (roomN g) b.length : Int) = ((partsN (roomN g) b.length - 1 : Nat) : Int)) := by omega
      unfold sealOk
      rw [hla, hlen, show (sealF x (partsN (roomN g) b.length) b).b = wd (partsN (roomN g) b.length : Int) from rfl, Crc.vl_wd (by omega) (by omega), decide_eq_false hne]
      simp
  unfold joinG
  rw [if_neg (by omega), if_pos hno]
/-- a byte of a part is turned: no group -/
theorem join_turned {g : Gm} {x : Gp} {b : List UInt8} (h : CutOk g x b) {i : Nat} (hi : i < partsN (roomN g) b.length) {p q : Fr} (hp : p = partAt x.seq (roomN g) b i) {j : Nat} (hj : j < p.body.length) (v : UInt8) (hv : v ≠ p.body[j]) (hq : q = ⟨p.kind, p.a, p.b, p.body.set j v⟩) :
    joinG ((framesG g x b).set i q) = (zeroGp, 5) := by
  obtain ⟨r1, _, h1, h2, h3, h4, _⟩ := h.sizes
  have hge := part_get (g := g) (x := x) (b := b) hi
  have hpr : pieceR p = true := by rw [hp]; exact part_right (form_seq h.form) (by omega) ((partsN_spec (by omega) i).2 hi)
  have hpk : p.kind = 2 := by rw [hp]; rfl
  rw [← hp] at hge
  have hqr : pieceR q = true := by
    rw [hq]
    unfold pieceR at hpr ⊢
    simp only [hpk] at hpr ⊢
    simp only [show ¬ (2 : Int) = 1 by decide, if_false, if_true] at hpr ⊢
    rw [Bool.and_eq_true] at hpr ⊢
    refine ⟨hpr.1, ?_⟩
    have := hpr.2
    cases hb : p.body with
    | nil => rw [hb] at hj; simp at hj
    | cons c r =>
      cases j <;> rfl
  have hlen : ((framesG g x b).set i q).length = partsN (roomN g) b.length + 1 := by rw [List.length_set, framesG_len]
  have hset : (framesG g x b).set i q = (partsF x.seq (roomN g) b).set i q ++ [sealF x (partsN (roomN g) b.length) b] := by
    unfold framesG
    rw [List.set_append_left _ _ (by rw [partsF_len]; exact hi)]
  have hla : lastF ((framesG g x b).set i q) = sealF x (partsN (roomN g) b.length) b := by
    apply last_of
    rw [hlen, Nat.add_sub_cancel, hset, List.getElem?_append_right (by rw [List.length_set, partsF_len]; exact Nat.le_refl _), List.length_set, partsF_len, Nat.sub_self]; rfl
  have hhd : headF ((framesG g x b).set i q) = (partsF x.seq (roomN g) b).set i q := by
    unfold headF
    rw [hlen, Nat.add_sub_cancel, hset, List.take_append_of_le_length (by rw [List.length_set, partsF_len]; exact Nat.le_refl _), List.take_of_length_le (by rw [List.length_set, partsF_len]; exact Nat.le_refl _)]
  have hil : i < (partsF x.seq (roomN g) b).length := by rw [partsF_len]; exact hi
  have hgi : (partsF x.seq (roomN g) b)[i] = p := by
    have h1 : (partsF x.seq (roomN g) b)[i]? = some p := by
      rw [← hge]; unfold framesG; rw [List.getElem?_append_left hil]
    rw [List.getElem?_eq_getElem hil] at h1
    simpa using h1
  have hpo := partsOk_to (form_seq h.form) (r := roomN g) (by omega) b (by omega) _ (Nat.le_refl _)
  rw [show partsTo x.seq (roomN g) b (partsN (roomN g) b.length) = partsF x.seq (roomN g) b from rfl, partsOk_split _ hil, hgi] at hpo
  simp only [Bool.and_eq_true] at hpo
  have hqo : okAt x.seq i q = true := by
    have h2 := hpo.2.1
    unfold okAt at h2 ⊢
    rw [hqr]
    rw [hpr] at h2
    rw [hq]; exact h2
  have hsplit : (partsF x.seq (roomN g) b).set i q = (partsF x.seq (roomN g) b).take i ++ q :: (partsF x.seq (roomN g) b).drop (i + 1) := List.set_eq_take_append_cons_drop.trans (by rw [if_pos hil])
  have hold : partsF x.seq (roomN g) b = (partsF x.seq (roomN g) b).take i ++ p :: (partsF x.seq (roomN g) b).drop (i + 1) := by
    conv => lhs; rw [← List.take_append_drop i (partsF x.seq (roomN g) b), List.drop_eq_getElem_cons hil, hgi]
  have hpo2 : partsOk x.seq 0 ((partsF x.seq (roomN g) b).set i q) = true := by
    rw [hsplit, partsOk_app, hpo.1, Nat.zero_add, List.length_take, show min i (partsF x.seq (roomN g) b).length = i by omega]
    unfold partsOk
    rw [hqo, hpo.2.2]; rfl
  have hso : sealOk ((framesG g x b).set i q) = true := by
    unfold sealOk
    rw [hla, hhd, hlen, Nat.add_sub_cancel, h.seal]
    rw [show (sealF x (partsN (roomN g) b.length) b).kind = 3 from rfl, show (sealF x (partsN (roomN g) b.length) b).b = wd (partsN (roomN g) b.length : Int) from rfl, show (sealF x (partsN (roomN g) b.length) b).a = x.seq from rfl, Crc.vl_wd (by omega) (by omega), hpo2]
    simp
  have htx := texts_parts x.seq (r := roomN g) (by omega) b
  obtain ⟨_, _, l8, l12⟩ := seal_le x (partsN (roomN g) b.length) b
  have hsu : sumsOk ((framesG g x b).set i q) = false := by
    unfold sumsOk
    rw [hla, hhd, l8]
    have hne : ¬ sumOf b = sumOf (textsF ((partsF x.seq (roomN g) b).set i q)) := by
      intro e
      have hr := Frame.sum_inj e
      have e1 : b = textsF ((partsF x.seq (roomN g) b).take i) ++ p.body ++ textsF ((partsF x.seq (roomN g) b).drop (i + 1)) := by
        conv => lhs; rw [← htx, hold]
        simp [textsF]
      have e2 : textsF ((partsF x.seq (roomN g) b).set i q) = textsF ((partsF x.seq (roomN g) b).take i) ++ q.body ++ textsF ((partsF x.seq (roomN g) b).drop (i + 1)) := by
        rw [hsplit]; simp [textsF]
      have hqb : q.body = p.body.take j ++ v :: p.body.drop (j + 1) := by
        rw [hq]
        exact List.set_eq_take_append_cons_drop.trans (by rw [if_pos hj])
      have hpb : p.body = p.body.take j ++ p.body[j] :: p.body.drop (j + 1) := by
        conv => lhs; rw [← List.take_append_drop j p.body, List.drop_eq_getElem_cons hj]
      generalize textsF ((partsF x.seq (roomN g) b).take i) = A at *
      generalize textsF ((partsF x.seq (roomN g) b).drop (i + 1)) = C at *
      rw [e2, hqb] at hr
      rw [e1, hpb] at hr
      have h9 := Frame.run_one 4294967295#32 (A ++ p.body.take j) (p.body.drop (j + 1) ++ C) p.body[j] v (by
        simp only [List.append_assoc, List.cons_append] at hr ⊢
        simpa using hr)
      exact hv h9.symm
    rw [decide_eq_false hne, Bool.and_false]
  unfold joinG
  rw [if_neg (by omega), if_neg (by simp [hso]), if_pos hsu]
end Go.Proofs.YtligapgjdpdihaaDoor.Group
/-
  What the laws' shaped answers.
-/
set_option linter.unusedVariables false
set_option linter.unusedSimpArgs false
namespace Go.Proofs.YtligapgjdpdihaaDoor.Group
open Go.RowKit
open CrcM (W)
open Crc (le4 sumOf vl wd putS)
open Flash (bs bs_size bs_list list_bs cut)
open Go.Proofs.YtligapgjdpdihaaDoor.Frame (Fr zeroF fV fC bel2 below_drewN)
open Piece (pieceR isSeqB ofF ofF_ok ofF_not pcOf pcV Pc of_any asPart_any asSeal_any asPartV asSealV isPartP isSealP sealV partV)
open Tup Bytes Own
open Batch (Wr WAt WMine writesOf makeW)
open Go.Proofs.YtligapgjdpdihaaDoor.Region (fill Then Deps Each wp_region_is wp_region_is_tail wp_region_each wp_region_tail)
/-- what shaped makes of a group -/
def shapedG (x : Gp) : Gp := ⟨wd (1 + vl x.seq % 1000), wd (vl x.prev % (1 + vl x.seq % 1000)), wd (1 + vl x.frm % (1 + vl x.seq % 1000)), makeW (writesOf x.wr 6)⟩
theorem shaped_ints (x : Gp) : vl (shapedG x).seq = 1 + vl x.seq % 1000 ∧ vl (shapedG x).prev = vl x.prev % (1 + vl x.seq % 1000) ∧ vl (shapedG x).frm = 1 + vl x.frm % (1 + vl x.seq % 1000) := by
  have h := Crc.vl_range x.seq
  have h1 := Int.emod_nonneg (vl x.prev) (show 1 + vl x.seq % 1000 ≠ 0 by omega)
  have h2 := Int.emod_lt_of_pos (vl x.prev) (show 0 < 1 + vl x.seq % 1000 by omega)
  have h3 := Int.emod_nonneg (vl x.frm) (show 1 + vl x.seq % 1000 ≠ 0 by omega)
  have h4 := Int.emod_lt_of_pos (vl x.frm) (show 0 < 1 + vl x.seq % 1000 by omega)
  unfold shapedG
  simp only
  rw [Crc.vl_wd (by omega) (by omega), Crc.vl_wd (by omega) (by omega), Crc.vl_wd (by omega) (by omega)]
  exact ⟨rfl, rfl, rfl⟩
theorem shaped_form (x : Gp) : formG (shapedG x) = true := by
  obtain ⟨h0, h1, h2⟩ := shaped_ints x
  have h := Crc.vl_range x.seq
  have g2 := Int.emod_lt_of_pos (vl x.prev) (show 0 < 1 + vl x.seq % 1000 by omega)
  have g3 := Int.emod_nonneg (vl x.frm) (show 1 + vl x.seq % 1000 ≠ 0 by omega)
  have g4 := Int.emod_lt_of_pos (vl x.frm) (show 0 < 1 + vl x.seq % 1000 by omega)
  unfold formG Piece.isSeqB
  rw [h0, h1, h2]
  simp only [Bool.and_eq_true, decide_eq_true_eq]
  omega
set_option maxRecDepth 100000 in
set_option maxHeartbeats 8000000 in
theorem shaped_any (x : Gp) (a : Option Addr) (cap : Nat) (hl : x.wr.length ≤ maxLen) (w : World) (hr : WAt w a x.wr) :
    Calls Tryd.prog 11 #[gpV x (.slice a x.wr.length cap)] w fun e w' => ∃ va vc, e = .returned (gpV (shapedG x) (.slice va (shapedG x).wr.length vc)) ∧ WAt w' va (shapedG x).wr ∧ WMine w' w.heap.size (.slice va (shapedG x).wr.length vc) (shapedG x).wr ∧ Below w.heap.size w w' := by
  have HW : Hid (∀ w, WAt w a x.wr → Calls Tryd.prog 10 #[.slice a x.wr.length cap, .int .i64 6] w fun e w' => ∃ va vc, e = .returned (.slice va (writesOf x.wr 6).length vc) ∧ WAt w' va (writesOf x.wr 6) ∧ Below w.heap.size w w') := fun w hr =>
    (Batch.writes_any a x.wr cap 6 (by decide) hl w hr).mono fun e w' ⟨v, he, hown, hb⟩ => by
      obtain ⟨va, vc, rfl⟩ := owns_slice hown
      exact ⟨va, vc, he, At.of_owns hown, hb⟩
  have HM : Hid (∀ w va vc, WAt w va (writesOf x.wr 6) → Calls Tryd.prog 25 #[.slice va (writesOf x.wr 6).length vc] w fun e w' => ∃ vb vd, e = .returned (.slice vb (makeW (writesOf x.wr 6)).length vd) ∧ WMine w' w.heap.size (.slice vb (makeW (writesOf x.wr 6)).length vd) (makeW (writesOf x.wr 6)) ∧ Below w.heap.size w w') := fun w va vc hr =>
    (Batch.refMake_any va (writesOf x.wr 6) vc (by have := writes_six x.wr; omega) (writes_key x.wr 6) w hr).mono fun e w' ⟨v, he, hown, hb⟩ => by
      obtain ⟨vb, vd, rfl⟩ := owns_slice hown
      exact ⟨vb, vd, he, hown, hb⟩
  have HA := Lib.hid hr
  obtain ⟨i0, i1, i2⟩ := shaped_ints x
  unfold gpV
  rw [i0, i1, i2]
  rw [show (shapedG x).wr = makeW (writesOf x.wr 6) from rfl]
  clear i0 i1 i2 hl hr
  obtain ⟨sq, pv, fr, wr⟩ := x
  simp only at HW HM HA ⊢
  generalize wr.length = n at *
  generalize (writesOf wr 6).length = n6 at *
  generalize makeW (writesOf wr 6) = M at *
  obtain ⟨s, hs⟩ : ∃ s, (vl sq).tmod 1000 = s := ⟨_, rfl⟩
  have hs1 : 0 ≤ s ∧ s ≤ 999 := by
    have := Crc.vl_range sq
    rw [← hs, Int.tmod_eq_emod_of_nonneg this.1]; omega
  rw [show vl sq % 1000 = s by rw [← hs, Int.tmod_eq_emod_of_nonneg (Crc.vl_range sq).1]]
  rw [← Int.tmod_eq_emod_of_nonneg (Crc.vl_range pv).1, ← Int.tmod_eq_emod_of_nonneg (Crc.vl_range fr).1]
  have hp0 := Crc.vl_range pv
  have hf0 := Crc.vl_range fr
  obtain ⟨p, hp⟩ : ∃ p, (vl pv).tmod (1 + s) = p := ⟨_, rfl⟩
  obtain ⟨f, hf⟩ : ∃ f, (vl fr).tmod (1 + s) = f := ⟨_, rfl⟩
  have hp1 : 0 ≤ p ∧ p < 1 + s := by
    rw [← hp, Int.tmod_eq_emod_of_nonneg hp0.1]
    exact ⟨Int.emod_nonneg _ (by omega), Int.emod_lt_of_pos _ (by omega)⟩
  have hf1 : 0 ≤ f ∧ f < 1 + s := by
    rw [← hf, Int.tmod_eq_emod_of_nonneg hf0.1]
    exact ⟨Int.emod_nonneg _ (by omega), Int.emod_lt_of_pos _ (by omega)⟩
  have hne : ((1 + s : Int) == 0) = false := by rw [beq_eq_false_iff_ne]; omega
  rw [hp, hf]
  go_enter Tryd.func11, Tryd.ntmps11
  go_wp2_with (first
    | (go_at_call 10; ((with_reducible refine (HW.out _ (Batch.WAt.below HA.out (bel2 (Geom.bel_alloc _ _) (Geom.bel_alloc _ _)))).mono ?_); rintro e w2 ⟨va, vc, rfl, hat, bz⟩; obtain ⟨w1, hw1⟩ : ∃ wx, wx = ((w.alloc (.cells #[.int .u32 (1 + s), .int .u32 p, .int .u32 (1 + f), .slice a n cap] 27)).alloc (.cells #[.int .u32 0, .int .u32 0, .int .u32 0, .slice none 0 0] 27)) := ⟨_, rfl⟩; have bw1 := Lib.hid (show Below w.heap.size w w1 by rw [hw1]; exact (bel2 (Geom.bel_alloc _ _) (Geom.bel_alloc _ _))); have zw1 := Lib.hid (show w.heap.size + 2 ≤ w1.heap.size by rw [hw1]; simp); have vw1x := Lib.hid (show Var w1 (w.heap.size) 27 [.int .u32 (1 + s), .int .u32 p, .int .u32 (1 + f), .slice a n cap] by rw [hw1]; exact ((Var.new w 27 [.int .u32 (1 + s), .int .u32 p, .int .u32 (1 + f), .slice a n cap]).alloc _)); have vw1r := Lib.hid (show Var w1 (w.heap.size + 1) 27 [.int .u32 0, .int .u32 0, .int .u32 0, .slice none 0 0] by rw [hw1]; exact (show Var ((w.alloc (.cells #[.int .u32 (1 + s), .int .u32 p, .int .u32 (1 + f), .slice a n cap] 27)).alloc (.cells #[.int .u32 0, .int .u32 0, .int .u32 0, .slice none 0 0] 27)) (w.heap.size + 1) 27 [.int .u32 0, .int .u32 0, .int .u32 0, .slice none 0 0] from by have h := Var.new (w.alloc (.cells #[.int .u32 (1 + s), .int .u32 p, .int .u32 (1 + f), .slice a n cap] 27)) 27 [.int .u32 0, .int .u32 0, .int .u32 0, .slice none 0 0]; rw [show (w.alloc (.cells #[.int .u32 (1 + s), .int .u32 p, .int .u32 (1 + f), .slice a n cap] 27)).heap.size = w.heap.size + 1 by simp] at h; exact h)); have hbel : Below w1.heap.size w1 w2 := (by rw [hw1]; exact bz); clear bz; have bw2 := Lib.hid (bel2 bw1.out hbel); have zw2 := Lib.hid hbel.size; have vw2x := Lib.hid (vw1x.out.below hbel vw1x.out.lt); have vw2r := Lib.hid (vw1r.out.below hbel vw1r.out.lt); clear hbel; have HA2 := Lib.hid hat; clear hat))
    | (go_at_call 25; ((with_reducible refine (HM.out _ va vc HA2.out).mono ?_); rintro e w3 ⟨vb, vd, rfl, hown, bz⟩; have hbel : Below w2.heap.size w2 w3 := (by exact bz); clear bz; have bw3 := Lib.hid (bel2 bw2.out hbel); have zw3 := Lib.hid hbel.size; have vw3x := Lib.hid (vw2x.out.below hbel vw2x.out.lt); have vw3r := Lib.hid (vw2r.out.below hbel vw2r.out.lt); clear hbel; have HO := Lib.hid hown; clear hown; have vf1 := (show Var w3 (w.heap.size) 27 [.int .u32 (1 + s), .int .u32 p, .int .u32 (1 + f), .slice a n cap] from vw3x.out); have c2 := vf1.cell (j := 0) rfl; have c3 := vf1.cell (j := 1) rfl; have c4 := vf1.cell (j := 2) rfl; have c5 := vf1.cell (j := 3) rfl; clear vf1; have vf6 := (show Var w3 (w.heap.size + 1) 27 [.int .u32 0, .int .u32 0, .int .u32 0, .slice none 0 0] from vw3r.out); have c7 := vf6.cell (j := 0) rfl; have c8 := vf6.cell (j := 1) rfl; have c9 := vf6.cell (j := 2) rfl; have c10 := vf6.cell (j := 3) rfl; clear vf6; have vf11 := (show Var w3 (w.heap.size) 27 [.int .u32 (1 + s), .int .u32 p, .int .u32 (1 + f), .slice a n cap] from vw3x.out); have f12 := vf11.frozen 0; have f13 := vf11.frozen 1; have f14 := vf11.frozen 2; have f15 := vf11.frozen 3; clear vf11; have vf16 := (show Var w3 (w.heap.size + 1) 27 [.int .u32 0, .int .u32 0, .int .u32 0, .slice none 0 0] from vw3r.out); have f17 := vf16.frozen 0; have f18 := vf16.frozen 1; have f19 := vf16.frozen 2; have f20 := vf16.frozen 3; clear vf16)))
  have vf21 := (show Var (((((w3.setCell ⟨w.heap.size, 3, none⟩ (.slice vb M.length vd)).setCell ⟨w.heap.size + 1, 0, none⟩ (.int .u32 (1 + s))).setCell ⟨w.heap.size + 1, 1, none⟩ (.int .u32 p)).setCell ⟨w.heap.size + 1, 2, none⟩ (.int .u32 (1 + f))).setCell ⟨w.heap.size + 1, 3, none⟩ (.slice vb M.length vd)) (w.heap.size + 1) 27 [.int .u32 (1 + s), .int .u32 p, .int .u32 (1 + f), .slice vb M.length vd] from (((((Var.othr2 vw3r.out ⟨w.heap.size, 3, none⟩ (.slice vb M.length vd) (by have := zw1.out; have := zw2.out; have := zw3.out; have := vw3r.out.lt; simp only; omega)).set 0 (.int .u32 (1 + s))).set 1 (.int .u32 p)).set 2 (.int .u32 (1 + f))).set 3 (.slice vb M.length vd)))
  have c22 := vf21.cell (j := 0) rfl
  have c23 := vf21.cell (j := 1) rfl
  have c24 := vf21.cell (j := 2) rfl
  have c25 := vf21.cell (j := 3) rfl
  clear vf21
  refine bodyPost_ret (v := .agg #[.int .u32 (1 + s), .int .u32 p, .int .u32 (1 + f), .slice vb M.length vd]) (by simp [results, Tryd.results11, go_sem, c22, c23, c24, c25]) rfl ?_
  exact ⟨vb, vd, rfl, At.of_owns (owns_set_far (owns_set_far (owns_set_far (owns_set_far (owns_set_far HO.out _ _ (by have := zw1.out; have := zw2.out; have := zw3.out; simp only; omega)) _ _ (by have := zw1.out; have := zw2.out; have := zw3.out; simp only; omega)) _ _ (by have := zw1.out; have := zw2.out; have := zw3.out; simp only; omega)) _ _ (by have := zw1.out; have := zw2.out; have := zw3.out; simp only; omega)) _ _ (by have := zw1.out; have := zw2.out; have := zw3.out; simp only; omega)), (by exact wmine_base (owns_set_far (owns_set_far (owns_set_far (owns_set_far (owns_set_far HO.out _ _ (by have := zw1.out; have := zw2.out; have := zw3.out; simp only; omega)) _ _ (by have := zw1.out; have := zw2.out; have := zw3.out; simp only; omega)) _ _ (by have := zw1.out; have := zw2.out; have := zw3.out; simp only; omega)) _ _ (by have := zw1.out; have := zw2.out; have := zw3.out; simp only; omega)) _ _ (by have := zw1.out; have := zw2.out; have := zw3.out; simp only; omega)) (by have := zw1.out; have := zw2.out; have := zw3.out; omega)), (((((bw3.out.setCell (p := ⟨w.heap.size, 3, none⟩) (by have := zw1.out; have := zw2.out; have := zw3.out; simp only; omega) _).setCell (p := ⟨w.heap.size + 1, 0, none⟩) (by have := zw1.out; have := zw2.out; have := zw3.out; simp only; omega) _).setCell (p := ⟨w.heap.size + 1, 1, none⟩) (by have := zw1.out; have := zw2.out; have := zw3.out; simp only; omega) _).setCell (p := ⟨w.heap.size + 1, 2, none⟩) (by have := zw1.out; have := zw2.out; have := zw3.out; simp only; omega) _).setCell (p := ⟨w.heap.size + 1, 3, none⟩) (by have := zw1.out; have := zw2.out; have := zw3.out; simp only; omega) _)⟩
end Go.Proofs.YtligapgjdpdihaaDoor.Group
/-
  What the document's Cut answers.
-/
set_option linter.unusedVariables false
set_option linter.unusedSimpArgs false
namespace Go.Proofs.YtligapgjdpdihaaDoor.Group
open Go.RowKit
open CrcM (W)
open Crc (le4 sumOf vl wd putS)
open Flash (bs bs_size bs_list list_bs cut)
open Go.Proofs.YtligapgjdpdihaaDoor.Frame (Fr zeroF fV fC bel2 below_drewN)
open Piece (pieceR isSeqB)
open Tup Bytes Own
open Geom (Gm gV rightG mostG needG Small right_small roomG)
open Batch (Wr WAt WMine bytesW layB rightW readW)
open Piece (four sealR)
open Go.Proofs.YtligapgjdpdihaaDoor.Region (fill Then Deps Each wp_region_is wp_region_is_tail wp_region_each wp_region_tail)
set_option maxRecDepth 100000 in
set_option maxHeartbeats 8000000 in
theorem rcut_1 (gp gs gr : Int) (sq pv fr : W) (a : Option Addr) (n cap : Nat) (L : List Wr) (B : ByteArray) 
    (HR : Hid (∀ w, Calls Tryd.prog 31 #[.agg #[.int .i64 gp, .int .i64 gs, .int .i64 gr]] w fun e w' => e = .returned (.bool false) ∧ Below w.heap.size w w')) (w : World) (HRW : Hid (WAt w a L)) :
    Calls Tryd.prog 13 #[.agg #[.int .i64 gp, .int .i64 gs, .int .i64 gr], .agg #[.int .u32 (vl sq), .int .u32 (vl pv), .int .u32 (vl fr), .slice a n cap]] w (CutSays ([], 1) w) := by
  go_enter Tryd.func13, Tryd.ntmps13
  go_wp2_with (first
    | (go_at_call 31; ((with_reducible refine (HR.out _).mono ?_); rintro e w2 ⟨rfl, bz⟩; obtain ⟨w1, hw1⟩ : ∃ wx, wx = ((w.alloc (.cells #[.int .i64 gp, .int .i64 gs, .int .i64 gr] 23)).alloc (.cells #[.int .u32 (vl sq), .int .u32 (vl pv), .int .u32 (vl fr), .slice a n cap] 27)) := ⟨_, rfl⟩; have bw1 := Lib.hid (show Below w.heap.size w w1 by rw [hw1]; exact (bel2 (Geom.bel_alloc _ _) (Geom.bel_alloc _ _))); have zw1 := Lib.hid (show w.heap.size + 2 ≤ w1.heap.size by rw [hw1]; simp); have vw1g := Lib.hid (show Var w1 (w.heap.size) 23 [.int .i64 gp, .int .i64 gs, .int .i64 gr] by rw [hw1]; exact ((Var.new w 23 [.int .i64 gp, .int .i64 gs, .int .i64 gr]).alloc _)); have vw1x := Lib.hid (show Var w1 (w.heap.size + 1) 27 [.int .u32 (vl sq), .int .u32 (vl pv), .int .u32 (vl fr), .slice a n cap] by rw [hw1]; exact (show Var ((w.alloc (.cells #[.int .i64 gp, .int .i64 gs, .int .i64 gr] 23)).alloc (.cells #[.int .u32 (vl sq), .int .u32 (vl pv), .int .u32 (vl fr), .slice a n cap] 27)) (w.heap.size + 1) 27 [.int .u32 (vl sq), .int .u32 (vl pv), .int .u32 (vl fr), .slice a n cap] from by have h := Var.new (w.alloc (.cells #[.int .i64 gp, .int .i64 gs, .int .i64 gr] 23)) 27 [.int .u32 (vl sq), .int .u32 (vl pv), .int .u32 (vl fr), .slice a n cap]; rw [show (w.alloc (.cells #[.int .i64 gp, .int .i64 gs, .int .i64 gr] 23)).heap.size = w.heap.size + 1 by simp] at h; exact h)); have hbel : Below w1.heap.size w1 w2 := (by rw [hw1]; exact bz); clear bz; have bw2 := Lib.hid (bel2 bw1.out hbel); have zw2 := Lib.hid hbel.size; have vw2g := Lib.hid (vw1g.out.below hbel vw1g.out.lt); have vw2x := Lib.hid (vw1x.out.below hbel vw1x.out.lt); clear hbel; have vf1 := (show Var w2 (w.heap.size) 23 [.int .i64 gp, .int .i64 gs, .int .i64 gr] from vw2g.out); have c2 := vf1.cell (j := 0) rfl; have c3 := vf1.cell (j := 1) rfl; have c4 := vf1.cell (j := 2) rfl; clear vf1; have vf5 := (show Var w2 (w.heap.size + 1) 27 [.int .u32 (vl sq), .int .u32 (vl pv), .int .u32 (vl fr), .slice a n cap] from vw2x.out); have c6 := vf5.cell (j := 0) rfl; have c7 := vf5.cell (j := 1) rfl; have c8 := vf5.cell (j := 2) rfl; have c9 := vf5.cell (j := 3) rfl; clear vf5)))
  go_ret2
  exact ⟨_, rfl, FMine.nil _ _, bw2.out⟩
set_option maxRecDepth 100000 in
set_option maxHeartbeats 8000000 in
theorem rcut_2 (gp gs gr : Int) (sq pv fr : W) (a : Option Addr) (n cap : Nat) (L : List Wr) (B : ByteArray) (c : Nat) (qc : ((c : Int) == 0) = false) (qc2 : ((c : Int) != 0) = true)
    (HR : Hid (∀ w, Calls Tryd.prog 31 #[.agg #[.int .i64 gp, .int .i64 gs, .int .i64 gr]] w fun e w' => e = .returned (.bool true) ∧ Below w.heap.size w w'))
    (HBY : Hid (∀ w, WAt w a L → Calls Tryd.prog 19 #[.slice a n cap] w fun e w' => e = .returned (.tuple #[.string B, .int .i64 (c : Int)]) ∧ Below w.heap.size w w')) (w : World) (HRW : Hid (WAt w a L)) :
    Calls Tryd.prog 13 #[.agg #[.int .i64 gp, .int .i64 gs, .int .i64 gr], .agg #[.int .u32 (vl sq), .int .u32 (vl pv), .int .u32 (vl fr), .slice a n cap]] w (CutSays ([], c) w) := by
  go_enter Tryd.func13, Tryd.ntmps13
  go_wp2_with (first
    | (go_at_call 31; ((with_reducible refine (HR.out _).mono ?_); rintro e w2 ⟨rfl, bz⟩; obtain ⟨w1, hw1⟩ : ∃ wx, wx = ((w.alloc (.cells #[.int .i64 gp, .int .i64 gs, .int .i64 gr] 23)).alloc (.cells #[.int .u32 (vl sq), .int .u32 (vl pv), .int .u32 (vl fr), .slice a n cap] 27)) := ⟨_, rfl⟩; have bw1 := Lib.hid (show Below w.heap.size w w1 by rw [hw1]; exact (bel2 (Geom.bel_alloc _ _) (Geom.bel_alloc _ _))); have zw1 := Lib.hid (show w.heap.size + 2 ≤ w1.heap.size by rw [hw1]; simp); have vw1g := Lib.hid (show Var w1 (w.heap.size) 23 [.int .i64 gp, .int .i64 gs, .int .i64 gr] by rw [hw1]; exact ((Var.new w 23 [.int .i64 gp, .int .i64 gs, .int .i64 gr]).alloc _)); have vw1x := Lib.hid (show Var w1 (w.heap.size + 1) 27 [.int .u32 (vl sq), .int .u32 (vl pv), .int .u32 (vl fr), .slice a n cap] by rw [hw1]; exact (show Var ((w.alloc (.cells #[.int .i64 gp, .int .i64 gs, .int .i64 gr] 23)).alloc (.cells #[.int .u32 (vl sq), .int .u32 (vl pv), .int .u32 (vl fr), .slice a n cap] 27)) (w.heap.size + 1) 27 [.int .u32 (vl sq), .int .u32 (vl pv), .int .u32 (vl fr), .slice a n cap] from by have h := Var.new (w.alloc (.cells #[.int .i64 gp, .int .i64 gs, .int .i64 gr] 23)) 27 [.int .u32 (vl sq), .int .u32 (vl pv), .int .u32 (vl fr), .slice a n cap]; rw [show (w.alloc (.cells #[.int .i64 gp, .int .i64 gs, .int .i64 gr] 23)).heap.size = w.heap.size + 1 by simp] at h; exact h)); have hbel : Below w1.heap.size w1 w2 := (by rw [hw1]; exact bz); clear bz; have bw2 := Lib.hid (bel2 bw1.out hbel); have zw2 := Lib.hid hbel.size; have vw2g := Lib.hid (vw1g.out.below hbel vw1g.out.lt); have vw2x := Lib.hid (vw1x.out.below hbel vw1x.out.lt); clear hbel; have vf1 := (show Var w2 (w.heap.size) 23 [.int .i64 gp, .int .i64 gs, .int .i64 gr] from vw2g.out); have c2 := vf1.cell (j := 0) rfl; have c3 := vf1.cell (j := 1) rfl; have c4 := vf1.cell (j := 2) rfl; clear vf1; have vf5 := (show Var w2 (w.heap.size + 1) 27 [.int .u32 (vl sq), .int .u32 (vl pv), .int .u32 (vl fr), .slice a n cap] from vw2x.out); have c6 := vf5.cell (j := 0) rfl; have c7 := vf5.cell (j := 1) rfl; have c8 := vf5.cell (j := 2) rfl; have c9 := vf5.cell (j := 3) rfl; clear vf5))
    | (go_at_call 19; ((with_reducible refine (HBY.out _ (Batch.WAt.below HRW.out bw2.out)).mono ?_); rintro e w3 ⟨rfl, bz⟩; have hbel : Below w2.heap.size w2 w3 := (by exact bz); clear bz; have bw3 := Lib.hid (bel2 bw2.out hbel); have zw3 := Lib.hid hbel.size; have vw3g := Lib.hid (vw2g.out.below hbel vw2g.out.lt); have vw3x := Lib.hid (vw2x.out.below hbel vw2x.out.lt); clear hbel; clear c2 c3 c4 c6 c7 c8 c9; have vf10 := (show Var w3 (w.heap.size) 23 [.int .i64 gp, .int .i64 gs, .int .i64 gr] from vw3g.out); have c11 := vf10.cell (j := 0) rfl; have c12 := vf10.cell (j := 1) rfl; have c13 := vf10.cell (j := 2) rfl; clear vf10; have vf14 := (show Var w3 (w.heap.size + 1) 27 [.int .u32 (vl sq), .int .u32 (vl pv), .int .u32 (vl fr), .slice a n cap] from vw3x.out); have c15 := vf14.cell (j := 0) rfl; have c16 := vf14.cell (j := 1) rfl; have c17 := vf14.cell (j := 2) rfl; have c18 := vf14.cell (j := 3) rfl; clear vf14)))
  go_ret2
  exact ⟨_, rfl, FMine.nil _ _, bw3.out⟩
set_option maxRecDepth 100000 in
set_option maxHeartbeats 8000000 in
theorem rcut_3a (gp gs gr : Int) (sq pv fr : W) (a : Option Addr) (n cap : Nat) (L : List Wr) (B : ByteArray) (t0 : decide (vl sq ≤ vl pv) = true)
    (HR : Hid (∀ w, Calls Tryd.prog 31 #[.agg #[.int .i64 gp, .int .i64 gs, .int .i64 gr]] w fun e w' => e = .returned (.bool true) ∧ Below w.heap.size w w'))
    (HBY : Hid (∀ w, WAt w a L → Calls Tryd.prog 19 #[.slice a n cap] w fun e w' => e = .returned (.tuple #[.string B, .int .i64 0]) ∧ Below w.heap.size w w')) (w : World) (HRW : Hid (WAt w a L)) :
    Calls Tryd.prog 13 #[.agg #[.int .i64 gp, .int .i64 gs, .int .i64 gr], .agg #[.int .u32 (vl sq), .int .u32 (vl pv), .int .u32 (vl fr), .slice a n cap]] w (CutSays ([], 2) w) := by
  go_enter Tryd.func13, Tryd.ntmps13
  go_wp2_with (first
    | (go_at_call 31; ((with_reducible refine (HR.out _).mono ?_); rintro e w2 ⟨rfl, bz⟩; obtain ⟨w1, hw1⟩ : ∃ wx, wx = ((w.alloc (.cells #[.int .i64 gp, .int .i64 gs, .int .i64 gr] 23)).alloc (.cells #[.int .u32 (vl sq), .int .u32 (vl pv), .int .u32 (vl fr), .slice a n cap] 27)) := ⟨_, rfl⟩; have bw1 := Lib.hid (show Below w.heap.size w w1 by rw [hw1]; exact (bel2 (Geom.bel_alloc _ _) (Geom.bel_alloc _ _))); have zw1 := Lib.hid (show w.heap.size + 2 ≤ w1.heap.size by rw [hw1]; simp); have vw1g := Lib.hid (show Var w1 (w.heap.size) 23 [.int .i64 gp, .int .i64 gs, .int .i64 gr] by rw [hw1]; exact ((Var.new w 23 [.int .i64 gp, .int .i64 gs, .int .i64 gr]).alloc _)); have vw1x := Lib.hid (show Var w1 (w.heap.size + 1) 27 [.int .u32 (vl sq), .int .u32 (vl pv), .int .u32 (vl fr), .slice a n cap] by rw [hw1]; exact (show Var ((w.alloc (.cells #[.int .i64 gp, .int .i64 gs, .int .i64 gr] 23)).alloc (.cells #[.int .u32 (vl sq), .int .u32 (vl pv), .int .u32 (vl fr), .slice a n cap] 27)) (w.heap.size + 1) 27 [.int .u32 (vl sq), .int .u32 (vl pv), .int .u32 (vl fr), .slice a n cap] from by have h := Var.new (w.alloc (.cells #[.int .i64 gp, .int .i64 gs, .int .i64 gr] 23)) 27 [.int .u32 (vl sq), .int .u32 (vl pv), .int .u32 (vl fr), .slice a n cap]; rw [show (w.alloc (.cells #[.int .i64 gp, .int .i64 gs, .int .i64 gr] 23)).heap.size = w.heap.size + 1 by simp] at h; exact h)); have hbel : Below w1.heap.size w1 w2 := (by rw [hw1]; exact bz); clear bz; have bw2 := Lib.hid (bel2 bw1.out hbel); have zw2 := Lib.hid hbel.size; have vw2g := Lib.hid (vw1g.out.below hbel vw1g.out.lt); have vw2x := Lib.hid (vw1x.out.below hbel vw1x.out.lt); clear hbel; have vf1 := (show Var w2 (w.heap.size) 23 [.int .i64 gp, .int .i64 gs, .int .i64 gr] from vw2g.out); have c2 := vf1.cell (j := 0) rfl; have c3 := vf1.cell (j := 1) rfl; have c4 := vf1.cell (j := 2) rfl; clear vf1; have vf5 := (show Var w2 (w.heap.size + 1) 27 [.int .u32 (vl sq), .int .u32 (vl pv), .int .u32 (vl fr), .slice a n cap] from vw2x.out); have c6 := vf5.cell (j := 0) rfl; have c7 := vf5.cell (j := 1) rfl; have c8 := vf5.cell (j := 2) rfl; have c9 := vf5.cell (j := 3) rfl; clear vf5))
    | (go_at_call 19; ((with_reducible refine (HBY.out _ (Batch.WAt.below HRW.out bw2.out)).mono ?_); rintro e w3 ⟨rfl, bz⟩; have hbel : Below w2.heap.size w2 w3 := (by exact bz); clear bz; have bw3 := Lib.hid (bel2 bw2.out hbel); have zw3 := Lib.hid hbel.size; have vw3g := Lib.hid (vw2g.out.below hbel vw2g.out.lt); have vw3x := Lib.hid (vw2x.out.below hbel vw2x.out.lt); clear hbel; clear c2 c3 c4 c6 c7 c8 c9; have vf10 := (show Var w3 (w.heap.size) 23 [.int .i64 gp, .int .i64 gs, .int .i64 gr] from vw3g.out); have c11 := vf10.cell (j := 0) rfl; have c12 := vf10.cell (j := 1) rfl; have c13 := vf10.cell (j := 2) rfl; clear vf10; have vf14 := (show Var w3 (w.heap.size + 1) 27 [.int .u32 (vl sq), .int .u32 (vl pv), .int .u32 (vl fr), .slice a n cap] from vw3x.out); have c15 := vf14.cell (j := 0) rfl; have c16 := vf14.cell (j := 1) rfl; have c17 := vf14.cell (j := 2) rfl; have c18 := vf14.cell (j := 3) rfl; clear vf14)))
  go_ret2
  exact ⟨_, rfl, FMine.nil _ _, bw3.out⟩
set_option maxRecDepth 100000 in
set_option maxHeartbeats 8000000 in
theorem rcut_3b (gp gs gr : Int) (sq pv fr : W) (a : Option Addr) (n cap : Nat) (L : List Wr) (B : ByteArray) (t0 : decide (vl sq ≤ vl pv) = false) (t1 : decide (vl fr < 1) = true)
    (HR : Hid (∀ w, Calls Tryd.prog 31 #[.agg #[.int .i64 gp, .int .i64 gs, .int .i64 gr]] w fun e w' => e = .returned (.bool true) ∧ Below w.heap.size w w'))
    (HBY : Hid (∀ w, WAt w a L → Calls Tryd.prog 19 #[.slice a n cap] w fun e w' => e = .returned (.tuple #[.string B, .int .i64 0]) ∧ Below w.heap.size w w')) (w : World) (HRW : Hid (WAt w a L)) :
    Calls Tryd.prog 13 #[.agg #[.int .i64 gp, .int .i64 gs, .int .i64 gr], .agg #[.int .u32 (vl sq), .int .u32 (vl pv), .int .u32 (vl fr), .slice a n cap]] w (CutSays ([], 2) w) := by
  go_enter Tryd.func13, Tryd.ntmps13
  go_wp2_with (first
    | (go_at_call 31; ((with_reducible refine (HR.out _).mono ?_); rintro e w2 ⟨rfl, bz⟩; obtain ⟨w1, hw1⟩ : ∃ wx, wx = ((w.alloc (.cells #[.int .i64 gp, .int .i64 gs, .int .i64 gr] 23)).alloc (.cells #[.int .u32 (vl sq), .int .u32 (vl pv), .int .u32 (vl fr), .slice a n cap] 27)) := ⟨_, rfl⟩; have bw1 := Lib.hid (show Below w.heap.size w w1 by rw [hw1]; exact (bel2 (Geom.bel_alloc _ _) (Geom.bel_alloc _ _))); have zw1 := Lib.hid (show w.heap.size + 2 ≤ w1.heap.size by rw [hw1]; simp); have vw1g := Lib.hid (show Var w1 (w.heap.size) 23 [.int .i64 gp, .int .i64 gs, .int .i64 gr] by rw [hw1]; exact ((Var.new w 23 [.int .i64 gp, .int .i64 gs, .int .i64 gr]).alloc _)); have vw1x := Lib.hid (show Var w1 (w.heap.size + 1) 27 [.int .u32 (vl sq), .int .u32 (vl pv), .int .u32 (vl fr), .slice a n cap] by rw [hw1]; exact (show Var ((w.alloc (.cells #[.int .i64 gp, .int .i64 gs, .int .i64 gr] 23)).alloc (.cells #[.int .u32 (vl sq), .int .u32 (vl pv), .int .u32 (vl fr), .slice a n cap] 27)) (w.heap.size + 1) 27 [.int .u32 (vl sq), .int .u32 (vl pv), .int .u32 (vl fr), .slice a n cap] from by have h := Var.new (w.alloc (.cells #[.int .i64 gp, .int .i64 gs, .int .i64 gr] 23)) 27 [.int .u32 (vl sq), .int .u32 (vl pv), .int .u32 (vl fr), .slice a n cap]; rw [show (w.alloc (.cells #[.int .i64 gp, .int .i64 gs, .int .i64 gr] 23)).heap.size = w.heap.size + 1 by simp] at h; exact h)); have hbel : Below w1.heap.size w1 w2 := (by rw [hw1]; exact bz); clear bz; have bw2 := Lib.hid (bel2 bw1.out hbel); have zw2 := Lib.hid hbel.size; have vw2g := Lib.hid (vw1g.out.below hbel vw1g.out.lt); have vw2x := Lib.hid (vw1x.out.below hbel vw1x.out.lt); clear hbel; have vf1 := (show Var w2 (w.heap.size) 23 [.int .i64 gp, .int .i64 gs, .int .i64 gr] from vw2g.out); have c2 := vf1.cell (j := 0) rfl; have c3 := vf1.cell (j := 1) rfl; have c4 := vf1.cell (j := 2) rfl; clear vf1; have vf5 := (show Var w2 (w.heap.size + 1) 27 [.int .u32 (vl sq), .int .u32 (vl pv), .int .u32 (vl fr), .slice a n cap] from vw2x.out); have c6 := vf5.cell (j := 0) rfl; have c7 := vf5.cell (j := 1) rfl; have c8 := vf5.cell (j := 2) rfl; have c9 := vf5.cell (j := 3) rfl; clear vf5))
    | (go_at_call 19; ((with_reducible refine (HBY.out _ (Batch.WAt.below HRW.out bw2.out)).mono ?_); rintro e w3 ⟨rfl, bz⟩; have hbel : Below w2.heap.size w2 w3 := (by exact bz); clear bz; have bw3 := Lib.hid (bel2 bw2.out hbel); have zw3 := Lib.hid hbel.size; have vw3g := Lib.hid (vw2g.out.below hbel vw2g.out.lt); have vw3x := Lib.hid (vw2x.out.below hbel vw2x.out.lt); clear hbel; clear c2 c3 c4 c6 c7 c8 c9; have vf10 := (show Var w3 (w.heap.size) 23 [.int .i64 gp, .int .i64 gs, .int .i64 gr] from vw3g.out); have c11 := vf10.cell (j := 0) rfl; have c12 := vf10.cell (j := 1) rfl; have c13 := vf10.cell (j := 2) rfl; clear vf10; have vf14 := (show Var w3 (w.heap.size + 1) 27 [.int .u32 (vl sq), .int .u32 (vl pv), .int .u32 (vl fr), .slice a n cap] from vw3x.out); have c15 := vf14.cell (j := 0) rfl; have c16 := vf14.cell (j := 1) rfl; have c17 := vf14.cell (j := 2) rfl; have c18 := vf14.cell (j := 3) rfl; clear vf14)))
  go_ret2
  exact ⟨_, rfl, FMine.nil _ _, bw3.out⟩
set_option maxRecDepth 100000 in
set_option maxHeartbeats 8000000 in
theorem rcut_3c (gp gs gr : Int) (sq pv fr : W) (a : Option Addr) (n cap : Nat) (L : List Wr) (B : ByteArray) (t0 : decide (vl sq ≤ vl pv) = false) (t1 : decide (vl fr < 1) = false) (t2 : decide (vl sq < vl fr) = true)
    (HR : Hid (∀ w, Calls Tryd.prog 31 #[.agg #[.int .i64 gp, .int .i64 gs, .int .i64 gr]] w fun e w' => e = .returned (.bool true) ∧ Below w.heap.size w w'))
    (HBY : Hid (∀ w, WAt w a L → Calls Tryd.prog 19 #[.slice a n cap] w fun e w' => e = .returned (.tuple #[.string B, .int .i64 0]) ∧ Below w.heap.size w w')) (w : World) (HRW : Hid (WAt w a L)) :
    Calls Tryd.prog 13 #[.agg #[.int .i64 gp, .int .i64 gs, .int .i64 gr], .agg #[.int .u32 (vl sq), .int .u32 (vl pv), .int .u32 (vl fr), .slice a n cap]] w (CutSays ([], 2) w) := by
  go_enter Tryd.func13, Tryd.ntmps13
  go_wp2_with (first
    | (go_at_call 31; ((with_reducible refine (HR.out _).mono ?_); rintro e w2 ⟨rfl, bz⟩; obtain ⟨w1, hw1⟩ : ∃ wx, wx = ((w.alloc (.cells #[.int .i64 gp, .int .i64 gs, .int .i64 gr] 23)).alloc (.cells #[.int .u32 (vl sq), .int .u32 (vl pv), .int .u32 (vl fr), .slice a n cap] 27)) := ⟨_, rfl⟩; have bw1 := Lib.hid (show Below w.heap.size w w1 by rw [hw1]; exact (bel2 (Geom.bel_alloc _ _) (Geom.bel_alloc _ _))); have zw1 := Lib.hid (show w.heap.size + 2 ≤ w1.heap.size by rw [hw1]; simp); have vw1g := Lib.hid (show Var w1 (w.heap.size) 23 [.int .i64 gp, .int .i64 gs, .int .i64 gr] by rw [hw1]; exact ((Var.new w 23 [.int .i64 gp, .int .i64 gs, .int .i64 gr]).alloc _)); have vw1x := Lib.hid (show Var w1 (w.heap.size + 1) 27 [.int .u32 (vl sq), .int .u32 (vl pv), .int .u32 (vl fr), .slice a n cap] by rw [hw1]; exact (show Var ((w.alloc (.cells #[.int .i64 gp, .int .i64 gs, .int .i64 gr] 23)).alloc (.cells #[.int .u32 (vl sq), .int .u32 (vl pv), .int .u32 (vl fr), .slice a n cap] 27)) (w.heap.size + 1) 27 [.int .u32 (vl sq), .int .u32 (vl pv), .int .u32 (vl fr), .slice a n cap] from by have h := Var.new (w.alloc (.cells #[.int .i64 gp, .int .i64 gs, .int .i64 gr] 23)) 27 [.int .u32 (vl sq), .int .u32 (vl pv), .int .u32 (vl fr), .slice a n cap]; rw [show (w.alloc (.cells #[.int .i64 gp, .int .i64 gs, .int .i64 gr] 23)).heap.size = w.heap.size + 1 by simp] at h; exact h)); have hbel : Below w1.heap.size w1 w2 := (by rw [hw1]; exact bz); clear bz; have bw2 := Lib.hid (bel2 bw1.out hbel); have zw2 := Lib.hid hbel.size; have vw2g := Lib.hid (vw1g.out.below hbel vw1g.out.lt); have vw2x := Lib.hid (vw1x.out.below hbel vw1x.out.lt); clear hbel; have vf1 := (show Var w2 (w.heap.size) 23 [.int .i64 gp, .int .i64 gs, .int .i64 gr] from vw2g.out); have c2 := vf1.cell (j := 0) rfl; have c3 := vf1.cell (j := 1) rfl; have c4 := vf1.cell (j := 2) rfl; clear vf1; have vf5 := (show Var w2 (w.heap.size + 1) 27 [.int .u32 (vl sq), .int .u32 (vl pv), .int .u32 (vl fr), .slice a n cap] from vw2x.out); have c6 := vf5.cell (j := 0) rfl; have c7 := vf5.cell (j := 1) rfl; have c8 := vf5.cell (j := 2) rfl; have c9 := vf5.cell (j := 3) rfl; clear vf5))
    | (go_at_call 19; ((with_reducible refine (HBY.out _ (Batch.WAt.below HRW.out bw2.out)).mono ?_); rintro e w3 ⟨rfl, bz⟩; have hbel : Below w2.heap.size w2 w3 := (by exact bz); clear bz; have bw3 := Lib.hid (bel2 bw2.out hbel); have zw3 := Lib.hid hbel.size; have vw3g := Lib.hid (vw2g.out.below hbel vw2g.out.lt); have vw3x := Lib.hid (vw2x.out.below hbel vw2x.out.lt); clear hbel; clear c2 c3 c4 c6 c7 c8 c9; have vf10 := (show Var w3 (w.heap.size) 23 [.int .i64 gp, .int .i64 gs, .int .i64 gr] from vw3g.out); have c11 := vf10.cell (j := 0) rfl; have c12 := vf10.cell (j := 1) rfl; have c13 := vf10.cell (j := 2) rfl; clear vf10; have vf14 := (show Var w3 (w.heap.size + 1) 27 [.int .u32 (vl sq), .int .u32 (vl pv), .int .u32 (vl fr), .slice a n cap] from vw3x.out); have c15 := vf14.cell (j := 0) rfl; have c16 := vf14.cell (j := 1) rfl; have c17 := vf14.cell (j := 2) rfl; have c18 := vf14.cell (j := 3) rfl; clear vf14)))
  go_ret2
  exact ⟨_, rfl, FMine.nil _ _, bw3.out⟩
set_option maxRecDepth 100000 in
set_option maxHeartbeats 8000000 in
theorem rcut_3d (gp gs gr : Int) (sq pv fr : W) (a : Option Addr) (n cap : Nat) (L : List Wr) (B : ByteArray) (t0 : decide (vl sq ≤ vl pv) = false) (t1 : decide (vl fr < 1) = false) (t2 : decide (vl sq < vl fr) = false) (t3 : decide (2147483647 < vl sq) = true)
    (HR : Hid (∀ w, Calls Tryd.prog 31 #[.agg #[.int .i64 gp, .int .i64 gs, .int .i64 gr]] w fun e w' => e = .returned (.bool true) ∧ Below w.heap.size w w'))
    (HBY : Hid (∀ w, WAt w a L → Calls Tryd.prog 19 #[.slice a n cap] w fun e w' => e = .returned (.tuple #[.string B, .int .i64 0]) ∧ Below w.heap.size w w')) (w : World) (HRW : Hid (WAt w a L)) :
    Calls Tryd.prog 13 #[.agg #[.int .i64 gp, .int .i64 gs, .int .i64 gr], .agg #[.int .u32 (vl sq), .int .u32 (vl pv), .int .u32 (vl fr), .slice a n cap]] w (CutSays ([], 2) w) := by
  go_enter Tryd.func13, Tryd.ntmps13
  go_wp2_with (first
    | (go_at_call 31; ((with_reducible refine (HR.out _).mono ?_); rintro e w2 ⟨rfl, bz⟩; obtain ⟨w1, hw1⟩ : ∃ wx, wx = ((w.alloc (.cells #[.int .i64 gp, .int .i64 gs, .int .i64 gr] 23)).alloc (.cells #[.int .u32 (vl sq), .int .u32 (vl pv), .int .u32 (vl fr), .slice a n cap] 27)) := ⟨_, rfl⟩; have bw1 := Lib.hid (show Below w.heap.size w w1 by rw [hw1]; exact (bel2 (Geom.bel_alloc _ _) (Geom.bel_alloc _ _))); have zw1 := Lib.hid (show w.heap.size + 2 ≤ w1.heap.size by rw [hw1]; simp); have vw1g := Lib.hid (show Var w1 (w.heap.size) 23 [.int .i64 gp, .int .i64 gs, .int .i64 gr] by rw [hw1]; exact ((Var.new w 23 [.int .i64 gp, .int .i64 gs, .int .i64 gr]).alloc _)); have vw1x := Lib.hid (show Var w1 (w.heap.size + 1) 27 [.int .u32 (vl sq), .int .u32 (vl pv), .int .u32 (vl fr), .slice a n cap] by rw [hw1]; exact (show Var ((w.alloc (.cells #[.int .i64 gp, .int .i64 gs, .int .i64 gr] 23)).alloc (.cells #[.int .u32 (vl sq), .int .u32 (vl pv), .int .u32 (vl fr), .slice a n cap] 27)) (w.heap.size + 1) 27 [.int .u32 (vl sq), .int .u32 (vl pv), .int .u32 (vl fr), .slice a n cap] from by have h := Var.new (w.alloc (.cells #[.int .i64 gp, .int .i64 gs, .int .i64 gr] 23)) 27 [.int .u32 (vl sq), .int .u32 (vl pv), .int .u32 (vl fr), .slice a n cap]; rw [show (w.alloc (.cells #[.int .i64 gp, .int .i64 gs, .int .i64 gr] 23)).heap.size = w.heap.size + 1 by simp] at h; exact h)); have hbel : Below w1.heap.size w1 w2 := (by rw [hw1]; exact bz); clear bz; have bw2 := Lib.hid (bel2 bw1.out hbel); have zw2 := Lib.hid hbel.size; have vw2g := Lib.hid (vw1g.out.below hbel vw1g.out.lt); have vw2x := Lib.hid (vw1x.out.below hbel vw1x.out.lt); clear hbel; have vf1 := (show Var w2 (w.heap.size) 23 [.int .i64 gp, .int .i64 gs, .int .i64 gr] from vw2g.out); have c2 := vf1.cell (j := 0) rfl; have c3 := vf1.cell (j := 1) rfl; have c4 := vf1.cell (j := 2) rfl; clear vf1; have vf5 := (show Var w2 (w.heap.size + 1) 27 [.int .u32 (vl sq), .int .u32 (vl pv), .int .u32 (vl fr), .slice a n cap] from vw2x.out); have c6 := vf5.cell (j := 0) rfl; have c7 := vf5.cell (j := 1) rfl; have c8 := vf5.cell (j := 2) rfl; have c9 := vf5.cell (j := 3) rfl; clear vf5))
    | (go_at_call 19; ((with_reducible refine (HBY.out _ (Batch.WAt.below HRW.out bw2.out)).mono ?_); rintro e w3 ⟨rfl, bz⟩; have hbel : Below w2.heap.size w2 w3 := (by exact bz); clear bz; have bw3 := Lib.hid (bel2 bw2.out hbel); have zw3 := Lib.hid hbel.size; have vw3g := Lib.hid (vw2g.out.below hbel vw2g.out.lt); have vw3x := Lib.hid (vw2x.out.below hbel vw2x.out.lt); clear hbel; clear c2 c3 c4 c6 c7 c8 c9; have vf10 := (show Var w3 (w.heap.size) 23 [.int .i64 gp, .int .i64 gs, .int .i64 gr] from vw3g.out); have c11 := vf10.cell (j := 0) rfl; have c12 := vf10.cell (j := 1) rfl; have c13 := vf10.cell (j := 2) rfl; clear vf10; have vf14 := (show Var w3 (w.heap.size + 1) 27 [.int .u32 (vl sq), .int .u32 (vl pv), .int .u32 (vl fr), .slice a n cap] from vw3x.out); have c15 := vf14.cell (j := 0) rfl; have c16 := vf14.cell (j := 1) rfl; have c17 := vf14.cell (j := 2) rfl; have c18 := vf14.cell (j := 3) rfl; clear vf14)))
  go_ret2
  exact ⟨_, rfl, FMine.nil _ _, bw3.out⟩
set_option maxRecDepth 100000 in
set_option maxHeartbeats 8000000 in
theorem rcut_4 (gp gs gr : Int) (sq pv fr : W) (a : Option Addr) (n cap : Nat) (L : List Wr) (B : ByteArray) (t0 : decide (vl sq ≤ vl pv) = false) (t1 : decide (vl fr < 1) = false) (t2 : decide (vl sq < vl fr) = false) (t3 : decide (2147483647 < vl sq) = false) (nd mo : Int) (hBm : B.size ≤ 1000000) (qm : decide (mo < nd) = true)
    (HR : Hid (∀ w, Calls Tryd.prog 31 #[.agg #[.int .i64 gp, .int .i64 gs, .int .i64 gr]] w fun e w' => e = .returned (.bool true) ∧ Below w.heap.size w w'))
    (HBY : Hid (∀ w, WAt w a L → Calls Tryd.prog 19 #[.slice a n cap] w fun e w' => e = .returned (.tuple #[.string B, .int .i64 0]) ∧ Below w.heap.size w w'))
    (HN : Hid (∀ w, Calls Tryd.prog 32 #[.agg #[.int .i64 gp, .int .i64 gs, .int .i64 gr], .int .i64 (B.size : Int)] w fun e w' => e = .returned (.int .i64 nd) ∧ Below w.heap.size w w'))
    (HM : Hid (∀ w, Calls Tryd.prog 33 #[.agg #[.int .i64 gp, .int .i64 gs, .int .i64 gr]] w fun e w' => e = .returned (.int .i64 mo) ∧ Below w.heap.size w w')) (w : World) (HRW : Hid (WAt w a L)) :
    Calls Tryd.prog 13 #[.agg #[.int .i64 gp, .int .i64 gs, .int .i64 gr], .agg #[.int .u32 (vl sq), .int .u32 (vl pv), .int .u32 (vl fr), .slice a n cap]] w (CutSays ([], 14) w) := by
  go_enter Tryd.func13, Tryd.ntmps13
  go_wp2_with (first
    | (go_at_call 31; ((with_reducible refine (HR.out _).mono ?_); rintro e w2 ⟨rfl, bz⟩; obtain ⟨w1, hw1⟩ : ∃ wx, wx = ((w.alloc (.cells #[.int .i64 gp, .int .i64 gs, .int .i64 gr] 23)).alloc (.cells #[.int .u32 (vl sq), .int .u32 (vl pv), .int .u32 (vl fr), .slice a n cap] 27)) := ⟨_, rfl⟩; have bw1 := Lib.hid (show Below w.heap.size w w1 by rw [hw1]; exact (bel2 (Geom.bel_alloc _ _) (Geom.bel_alloc _ _))); have zw1 := Lib.hid (show w.heap.size + 2 ≤ w1.heap.size by rw [hw1]; simp); have vw1g := Lib.hid (show Var w1 (w.heap.size) 23 [.int .i64 gp, .int .i64 gs, .int .i64 gr] by rw [hw1]; exact ((Var.new w 23 [.int .i64 gp, .int .i64 gs, .int .i64 gr]).alloc _)); have vw1x := Lib.hid (show Var w1 (w.heap.size + 1) 27 [.int .u32 (vl sq), .int .u32 (vl pv), .int .u32 (vl fr), .slice a n cap] by rw [hw1]; exact (show Var ((w.alloc (.cells #[.int .i64 gp, .int .i64 gs, .int .i64 gr] 23)).alloc (.cells #[.int .u32 (vl sq), .int .u32 (vl pv), .int .u32 (vl fr), .slice a n cap] 27)) (w.heap.size + 1) 27 [.int .u32 (vl sq), .int .u32 (vl pv), .int .u32 (vl fr), .slice a n cap] from by have h := Var.new (w.alloc (.cells #[.int .i64 gp, .int .i64 gs, .int .i64 gr] 23)) 27 [.int .u32 (vl sq), .int .u32 (vl pv), .int .u32 (vl fr), .slice a n cap]; rw [show (w.alloc (.cells #[.int .i64 gp, .int .i64 gs, .int .i64 gr] 23)).heap.size = w.heap.size + 1 by simp] at h; exact h)); have hbel : Below w1.heap.size w1 w2 := (by rw [hw1]; exact bz); clear bz; have bw2 := Lib.hid (bel2 bw1.out hbel); have zw2 := Lib.hid hbel.size; have vw2g := Lib.hid (vw1g.out.below hbel vw1g.out.lt); have vw2x := Lib.hid (vw1x.out.below hbel vw1x.out.lt); clear hbel; have vf1 := (show Var w2 (w.heap.size) 23 [.int .i64 gp, .int .i64 gs, .int .i64 gr] from vw2g.out); have c2 := vf1.cell (j := 0) rfl; have c3 := vf1.cell (j := 1) rfl; have c4 := vf1.cell (j := 2) rfl; clear vf1; have vf5 := (show Var w2 (w.heap.size + 1) 27 [.int .u32 (vl sq), .int .u32 (vl pv), .int .u32 (vl fr), .slice a n cap] from vw2x.out); have c6 := vf5.cell (j := 0) rfl; have c7 := vf5.cell (j := 1) rfl; have c8 := vf5.cell (j := 2) rfl; have c9 := vf5.cell (j := 3) rfl; clear vf5))
    | (go_at_call 19; ((with_reducible refine (HBY.out _ (Batch.WAt.below HRW.out bw2.out)).mono ?_); rintro e w3 ⟨rfl, bz⟩; have hbel : Below w2.heap.size w2 w3 := (by exact bz); clear bz; have bw3 := Lib.hid (bel2 bw2.out hbel); have zw3 := Lib.hid hbel.size; have vw3g := Lib.hid (vw2g.out.below hbel vw2g.out.lt); have vw3x := Lib.hid (vw2x.out.below hbel vw2x.out.lt); clear hbel; clear c2 c3 c4 c6 c7 c8 c9; have vf10 := (show Var w3 (w.heap.size) 23 [.int .i64 gp, .int .i64 gs, .int .i64 gr] from vw3g.out); have c11 := vf10.cell (j := 0) rfl; have c12 := vf10.cell (j := 1) rfl; have c13 := vf10.cell (j := 2) rfl; clear vf10; have vf14 := (show Var w3 (w.heap.size + 1) 27 [.int .u32 (vl sq), .int .u32 (vl pv), .int .u32 (vl fr), .slice a n cap] from vw3x.out); have c15 := vf14.cell (j := 0) rfl; have c16 := vf14.cell (j := 1) rfl; have c17 := vf14.cell (j := 2) rfl; have c18 := vf14.cell (j := 3) rfl; clear vf14)))
  clear c11 c12 c13 c15 c16 c17 c18
  refine wp_region_is [45, 46, 47, 48, 49, 50, 51] (fun w' => Below w3.heap.size w3 w')
    [.agg #[.int .i64 gp, .int .i64 gs, .int .i64 gr], .string B, .int .i64 (B.size : Int), .int .i64 nd, .agg #[.int .i64 gp, .int .i64 gs, .int .i64 gr], .int .i64 mo, .bool true] (by kernel_rfl) (by kernel_rfl) rfl (by decide) (by simp) (Below.refl _ _).drew ?each ?done
  case each =>
    simp only [Each]
    repeat' (first | exact trivial | refine And.intro ?_ ?_)
    all_goals
      intro ys wx hBx hdeps
      simp only [Deps, Region.binds, List.getD_cons_zero, List.getD_cons_succ, forall_const, and_true] at hdeps
      have q19 := (vw3g.out.below hBx vw3g.out.lt).cell (j := 0) rfl
      have q20 := (vw3g.out.below hBx vw3g.out.lt).cell (j := 1) rfl
      have q21 := (vw3g.out.below hBx vw3g.out.lt).cell (j := 2) rfl
      simp only [hdeps, fill, List.foldl_cons, List.foldl_nil, Act.put, List.setIfInBounds_toArray, List.set_cons_succ, List.set_cons_zero]
      first
        | (go_wp2_with fail; exact ⟨_, rfl, rfl, hBx, Below.refl _ _⟩)
        | (go_wp2_with (go_at_call 32; (with_reducible refine (HN.out _).mono ?_); rintro e w3 ⟨rfl, hbm⟩); exact ⟨_, rfl, rfl, hBx.trans (hbm.mono hBx.size), hbm⟩)
        | (go_wp2_with (go_at_call 33; (with_reducible refine (HM.out _).mono ?_); rintro e w3 ⟨rfl, hbm⟩); exact ⟨_, rfl, rfl, hBx.trans (hbm.mono hBx.size), hbm⟩)
  case done =>
    intro ys wx hBx hV
    obtain ⟨w4, hw4⟩ : ∃ wy, wy = wx := ⟨_, rfl⟩
    rw [← hw4] at hBx ⊢
    have bw4 := Lib.hid (bel2 bw3.out hBx)
    have zw4 := Lib.hid hBx.size
    have vw4g := Lib.hid (vw3g.out.below hBx vw3g.out.lt)
    have vw4x := Lib.hid (vw3x.out.below hBx vw3x.out.lt)
    have h51 : ys 51 = .bool true := hV 6 (by decide)
    clear hBx hV hw4
    simp only [h51, fill, List.drop_succ_cons, List.drop_zero, List.foldl_cons, List.foldl_nil, Act.put, List.setIfInBounds_toArray, List.set_cons_succ, List.set_cons_zero]
    go_wp2
    go_ret2
    exact ⟨_, rfl, FMine.nil _ _, bw4.out⟩
end Go.Proofs.YtligapgjdpdihaaDoor.Group
