/-
  Joined texts: Build, BuildW.
-/
import Derived.Test.YtcmjambbdfangaaGreatShelf3
import Derived.Test.YtcmjambbdfangaaGreatOwn
import Derived.Lib.FrozenHead2
import Derived.Lib.OthersKept
import Derived.Handy
/-
  What strings.Builder does at this program: its check, its writers. (The library's own text in this translation is not the one that the shelf has been proved over: its copy check differs.)
-/
set_option linter.unusedVariables false
set_option linter.unusedSimpArgs false
namespace Go.Proofs.YtcmjambbdfangaaGreat.Build
open Go.RowKit
open Own

abbrev TB : TypeId := 116
abbrev TY : TypeId := 5
/-- a builder in block b that holds the bytes l -/
def Bld (B b : Nat) (l : List UInt8) (w : World) : Prop := Lib.IsBuilderF TB TY B b (Lib.byteCells l) w
theorem Bld.new (w : World) : Bld w.heap.size w.heap.size [] (w.alloc (.cells #[.pointer none, .slice none 0 0] TB)) := by
  refine .inl ⟨Nat.le_refl _, .slice none 0 0, ?_, World.ownsRowF_nil _ _ _ _, by simp [Value.ownBlock]⟩
  show (w.heap.push _)[w.heap.size]? = some _
  simp
theorem Bld.lt {B b : Nat} {l : List UInt8} {w : World} (h : Bld B b l w) : b < w.heap.size ∧ B ≤ b := by
  rcases h with ⟨hB, v, hb, _⟩ | ⟨hB, v, hb, _⟩
  · exact ⟨(Array.getElem?_eq_some_iff.1 hb).1, hB⟩
  · exact ⟨(Array.getElem?_eq_some_iff.1 hb).1, hB⟩
theorem Bld.alloc {B b : Nat} {l : List UInt8} {w : World} (h : Bld B b l w) (o : Obj) : Bld B b l (w.alloc o) := Lib.IsBuilderF.alloc h o
theorem Bld.iterAt {B b : Nat} {l : List UInt8} {w : World} (h : Bld B b l w) {k : Nat} {s : ByteArray} {pos : Nat} (hk : w.heap[k]? = some (.stringIter s pos)) (pos' : Nat) : Bld B b l (w.iterAt k s pos') := Lib.IsBuilderF.iterAt h hk pos'
theorem sizeB : (Tryz.prog.info? TB).map (fun i => i.size) = some 2 := by kernel_rfl
theorem infoY : (Tryz.prog.info? TY).map (fun i => (i.zero, i.size, i.bytes)) = some (some (.int .u8 0), 1, 1) := by kernel_rfl
set_option maxHeartbeats 1000000 in
set_option maxRecDepth 100000 in
theorem check_used (b : Nat) (w : World) (h0 : w.cell? ⟨b, 0, none⟩ = some (.pointer (some ⟨b, 0, none⟩))) :
    Calls Tryz.prog 99 #[.pointer (some ⟨b, 0, none⟩)] w fun e w' => e = .returned (.tuple #[]) ∧ w' = w := by
  obtain ⟨j, hj, _⟩ := Option.map_eq_some_iff.1 sizeB
  go_enter Tryz.func99, Tryz.ntmps99
  go_wp2
  rw [Lib.run_neq_ptr_same w _ Tryz.underlying114 hj]
  go_wp2
  go_end0
  exact ⟨rfl, rfl⟩
theorem liesB : liesAt Tryz.prog Tryz.prog.depth TB (2 / Tryz.prog.cellsOf TB) 0 TB 1 = true := by kernel_rfl
set_option maxHeartbeats 1000000 in
set_option maxRecDepth 100000 in
theorem check_fresh (b : Nat) (w : World) (h0 : w.cell? ⟨b, 0, none⟩ = some (.pointer none)) (hsh : w.shape? b = some (TB, 2)) (hfz : w.frozen? ⟨b, 0, none⟩ = false) :
    Calls Tryz.prog 99 #[.pointer (some ⟨b, 0, none⟩)] w fun e w' => e = .returned (.tuple #[]) ∧ w' = w.setCell ⟨b, 0, none⟩ (.pointer (some ⟨b, 0, none⟩)) := by
  obtain ⟨j, hj, hjs⟩ := Option.map_eq_some_iff.1 sizeB
  go_enter Tryz.func99, Tryz.ntmps99
  go_wp2
  rw [Lib.run_to_unsafe w ⟨b, 0, none⟩ Tryz.underlying114 Tryz.underlying150 hj (by rw [hjs]; decide) hsh (Nat.zero_lt_succ 1)]
  simp only [Result.andThen]
  rw [Oper.upon_value]
  go_wp2
  rw [run_callFunc_extern Tryz.func114 (by kernel_rfl) (by kernel_rfl) (by kernel_rfl) (e := Extern.AbiNoEscape.same) (by kernel_rfl), Lib.run_noEscape]
  simp only [Result.andThen]
  rw [Oper.upon_value]
  go_wp2
  rw [Lib.run_from_unsafe w ⟨b, 0, none⟩ Tryz.underlying150 Tryz.underlying114 hj hsh liesB]
  simp only [Result.andThen]
  rw [Oper.upon_value]
  go_wp2
  go_end0
  exact ⟨rfl, rfl⟩
/-- what stays beside a builder -/
def Stays (B b : Nat) (w w' : World) : Prop := Below B w w' ∧ Lib.OthersKept TY (some b) w w'
theorem Stays.refl (B b : Nat) (w : World) : Stays B b w w := ⟨Below.refl _ _, Lib.OthersKept.refl _ _ _⟩
theorem Stays.trans {B b : Nat} {w w1 w2 : World} (h : Stays B b w w1) (k : Stays B b w1 w2) : Stays B b w w2 := ⟨h.1.trans k.1, h.2.trans k.2⟩
theorem check_any (B b : Nat) (bs : List Value) (w : World) (h : Lib.IsBuilderF TB TY B b bs w) :
    Calls Tryz.prog 99 #[.pointer (some ⟨b, 0, none⟩)] w fun e w' => e = .returned (.tuple #[]) ∧ Lib.BuilderAtF TB TY B b (.pointer (some ⟨b, 0, none⟩)) bs w' ∧ Stays B b w w' := by
  rcases h with h | h
  · refine (check_fresh b w h.cell0 h.shape h.frozen0).mono ?_
    rintro e w' ⟨rfl, rfl⟩
    exact ⟨rfl, h.used _, (Below.refl B w).setCell (p := ⟨b, 0, none⟩) h.1 _, (Lib.OthersKept.refl _ _ w).setCell ⟨b, 0, none⟩ rfl _⟩
  · refine (check_used b w h.cell0).mono ?_
    rintro e w' ⟨rfl, rfl⟩
    exact ⟨rfl, h, Stays.refl _ _ _⟩
theorem str_cells (s : ByteArray) : Lib.strCells s = Lib.byteCells s.data.toList := rfl
theorem cells_app (l m : List UInt8) : Lib.byteCells l ++ Lib.byteCells m = Lib.byteCells (l ++ m) := by simp [Lib.byteCells]
set_option maxHeartbeats 2000000 in
set_option maxRecDepth 100000 in
theorem write_any (B b : Nat) (l : List UInt8) (s : ByteArray) (w : World) (h : Bld B b l w) (hlen : l.length + s.size ≤ 140737488355328) (hBw : B ≤ w.heap.size) :
    Calls Tryz.prog 81 #[.pointer (some ⟨b, 0, none⟩), .string s] w fun e w' => e = .returned (.tuple #[.int .i64 s.size, .nilIface]) ∧ Bld B b (l ++ s.data.toList) w' ∧ Stays B b w w' := by
  obtain ⟨i0, hi, hz0, hz1, hz2⟩ := info_parts infoY
  have hl : (Lib.byteCells l).length = l.length := by simp [Lib.byteCells]
  have HC := Lib.hid (fun w h => check_any B b (Lib.byteCells l) w h)
  have HS := Lib.hid (show Lib.byteCells l ++ Lib.strCells s = Lib.byteCells (l ++ s.data.toList) by rw [str_cells, cells_app])
  have HL := Lib.hid hl
  have HH : Hid (Lib.IsBuilderF TB TY B b (Lib.byteCells l) w) := h
  clear h hl
  go_enter Tryz.func81, Tryz.ntmps81
  go_wp2_with fail
  go_at_call 99
  with_reducible refine (HC.out _ HH.out).mono ?_
  rintro e w1 ⟨rfl, h1, hst1⟩
  obtain ⟨hB, v, hbk, hown, hne⟩ := h1
  have c0 : w1.cell? ⟨b, 0, none⟩ = some (.pointer (some ⟨b, 0, none⟩)) := by rw [Lib.cell_of_heap hbk]; rfl
  have c1 : w1.cell? ⟨b, 1, none⟩ = some v := by rw [Lib.cell_of_heap hbk]; rfl
  have hlt : b < w1.heap.size := (Array.getElem?_eq_some_iff.1 hbk).1
  have hz := hst1.1.size
  have HOWN := Lib.hid hown
  have HBK := Lib.hid hbk
  have HNE := Lib.hid hne
  have HST := Lib.hid hst1
  clear hown hbk hne hst1 HC HH
  go_wp2_with (at_builtin; refine Lib.wpList_append_own_stringF _ rfl _ _ 55 9 rfl B TY i0 Tryz.underlying55 Tryz.underlying9 hi hz0 hz1 hz2 _ _ _ rfl HOWN.out s rfl (by rw [HL.out]; unfold maxLen; omega) (by rw [HL.out]; omega) (by omega) ?_)
  intro v2 w2 hown2 hgrow hnil2
  have hb2 : w2.heap[b]? = some (.cells #[.pointer (some ⟨b, 0, none⟩), v] TB (0, 0)) := by
    rw [hgrow.block b hlt (fun e => HNE.out e.symm)]
    exact HBK.out
  have d0 : w2.cell? ⟨b, 0, none⟩ = some (.pointer (some ⟨b, 0, none⟩)) := by rw [Lib.cell_of_heap hb2]; rfl
  have d1 : w2.cell? ⟨b, 1, none⟩ = some v := by rw [Lib.cell_of_heap hb2]; rfl
  have f1 : w2.frozen? ⟨b, 1, none⟩ = false := Lib.frozen_of_heap hb2 1
  have HR := Lib.hid (Lib.BuilderAtF.put (T := TB) (e := TY) hB hb2 (bs' := Lib.byteCells l ++ Lib.strCells s) (by simpa [Lib.strCells_length] using hown2) (by decide))
  have HST2 := Lib.hid (Stays.trans HST.out ⟨((Below.refl B w1).grown hgrow (by omega) (fun k hk => (HOWN.out.lt k hk).1)).setCell (p := ⟨b, 1, none⟩) hB v2, ((Lib.OthersKept.refl TY (some b) w1).grown hgrow (Lib.ownsRowF_kind HOWN.out)).setCell ⟨b, 1, none⟩ rfl v2⟩)
  obtain ⟨ao, n', cap, rfl⟩ : ∃ ao n' cap, v2 = .slice ao n' cap := by
    rcases hown2.2 with ⟨hv, _⟩ | ⟨g, cap, cur, fz, hv, _⟩
    · exact ⟨_, _, _, hv⟩
    · exact ⟨_, _, _, hv⟩
  clear hown2 hgrow hnil2 hb2 c0 c1
  go_wp2
  go_ret2
  refine ⟨rfl, .inr ?_, HST2.out⟩
  rw [← HS.out]
  exact HR.out
set_option maxHeartbeats 2000000 in
set_option maxRecDepth 100000 in
theorem byte_any (B b : Nat) (l : List UInt8) (c : UInt8) (ci : Int) (hci : ci = (c.toNat : Int)) (w : World) (h : Bld B b l w) (hlen : l.length + 1 ≤ 140737488355328) (hBw : B ≤ w.heap.size) :
    Calls Tryz.prog 80 #[.pointer (some ⟨b, 0, none⟩), .int .u8 ci] w fun e w' => e = .returned .nilIface ∧ Bld B b (l ++ [c]) w' ∧ Stays B b w w' := by
  obtain ⟨i0, hi, hz0, hz1, hz2⟩ := info_parts infoY
  have hl : (Lib.byteCells l).length = l.length := by simp [Lib.byteCells]
  have HC := Lib.hid (fun w h => check_any B b (Lib.byteCells l) w h)
  have HS := Lib.hid (show Lib.byteCells l ++ [.int .u8 ci] = Lib.byteCells (l ++ [c]) by rw [hci, ← cells_app]; rfl)
  have HL := Lib.hid hl
  have HH : Hid (Lib.IsBuilderF TB TY B b (Lib.byteCells l) w) := h
  clear h hl hci
  go_enter Tryz.func80, Tryz.ntmps80
  go_wp2_with fail
  go_at_call 99
  with_reducible refine (HC.out _ HH.out).mono ?_
  rintro e w1 ⟨rfl, h1, hst1⟩
  obtain ⟨hB, v, hbk, hown, hne⟩ := h1
  have c0 : w1.cell? ⟨b, 0, none⟩ = some (.pointer (some ⟨b, 0, none⟩)) := by rw [Lib.cell_of_heap hbk]; rfl
  have c1 : w1.cell? ⟨b, 1, none⟩ = some v := by rw [Lib.cell_of_heap hbk]; rfl
  have hlt : b < w1.heap.size := (Array.getElem?_eq_some_iff.1 hbk).1
  have hz := hst1.1.size
  have HOWN := Lib.hid (hown.alloc (.cells #[.int .u8 ci] TY))
  have HBK := Lib.hid hbk
  have HNE := Lib.hid hne
  have HST := Lib.hid hst1
  clear hown hbk hne hst1 HC HH
  go_wp2_with (at_builtin; refine wpList_append_ownF _ rfl _ _ 55 rfl B TY i0 (.int .u8 0) 1 1 Tryz.underlying55 hi hz0 hz1 hz2 rfl (by decide) _ _ _ rfl HOWN.out ⟨w1.heap.size, 0, none⟩ 1 1 [.int .u8 ci] rfl rfl ?c1 ?c2 (by rw [HL.out]; unfold maxLen; omega) (by rw [HL.out]; omega) (by simp; omega) ?_)
  case c1 =>
    intro j u hj
    match j, hj with
    | 0, hj => simp at hj; subst hj; simp [Addr.add]
  case c2 => intro u hu; simp at hu; subst hu; rfl
  intro v2 w2 hown2 hgrow hnil2
  have hb2 : w2.heap[b]? = some (.cells #[.pointer (some ⟨b, 0, none⟩), v] TB (0, 0)) := by
    rw [hgrow.block b (by simp; omega) (fun e => HNE.out e.symm), Lib.alloc_old w1 _ b hlt]
    exact HBK.out
  have d0 : w2.cell? ⟨b, 0, none⟩ = some (.pointer (some ⟨b, 0, none⟩)) := by rw [Lib.cell_of_heap hb2]; rfl
  have d1 : w2.cell? ⟨b, 1, none⟩ = some v := by rw [Lib.cell_of_heap hb2]; rfl
  have f1 : w2.frozen? ⟨b, 1, none⟩ = false := Lib.frozen_of_heap hb2 1
  have HR := Lib.hid (Lib.BuilderAtF.put (T := TB) (e := TY) hB hb2 (bs' := Lib.byteCells l ++ [.int .u8 ci]) (by simpa using hown2) (by decide))
  have HST2 := Lib.hid (Stays.trans HST.out ⟨(((Below.refl B w1).alloc (by omega) _).grown hgrow (by simp; omega) (fun k hk => (HOWN.out.lt k hk).1)).setCell (p := ⟨b, 1, none⟩) hB v2, (((Lib.OthersKept.refl TY (some b) w1).alloc _).grown hgrow (Lib.ownsRowF_kind HOWN.out)).setCell ⟨b, 1, none⟩ rfl v2⟩)
  obtain ⟨ao, n', cap, rfl⟩ : ∃ ao n' cap, v2 = .slice ao n' cap := by
    rcases hown2.2 with ⟨hv, _⟩ | ⟨g, cap, cur, fz, hv, _⟩
    · exact ⟨_, _, _, hv⟩
    · exact ⟨_, _, _, hv⟩
  clear hown2 hgrow hnil2 hb2 c0 c1
  go_wp2
  go_ret
  refine ⟨rfl, .inr ?_, HST2.out⟩
  rw [← HS.out]
  exact HR.out
theorem string_any (B b : Nat) (l : List UInt8) (w : World) (h : Bld B b l w) (hBw : B ≤ w.heap.size) :
    Calls Tryz.prog 83 #[.pointer (some ⟨b, 0, none⟩)] w fun e w' => e = .returned (.string ⟨l.toArray⟩) ∧ Bld B b l w' ∧ Stays B b w w' :=
  (Tryz.Builder_String_any_k B b l w h hBw).mono fun _ _ h => ⟨h.1, h.2.1, h.2.2.1, h.2.2.2⟩
end Go.Proofs.YtcmjambbdfangaaGreat.Build
/-
  A strings.Builder that a call makes for itself, from one write to the next.
-/
set_option linter.unusedVariables false
set_option linter.unusedSimpArgs false
namespace Go.Proofs.YtcmjambbdfangaaGreat.Build
open Go.RowKit
open Own

theorem Bld.belowW {B b : Nat} {l : List UInt8} {w w' : World} (h : Bld B b l w) (hb : Below w.heap.size w w') : Bld B b l w' := by
  have hg : w.grownBy w' none := ⟨hb.os, hb.tape, hb.output, hb.size, fun k hk _ => hb.block k hk⟩
  have key : ∀ p, Lib.BuilderAtF TB TY B b p (Lib.byteCells l) w → Lib.BuilderAtF TB TY B b p (Lib.byteCells l) w' := by
    rintro p ⟨hB, v, h1, h2, h3⟩
    refine ⟨hB, v, ?_, h2.kept hg ?_, h3⟩
    · rw [hb.block b (Array.getElem?_eq_some_iff.1 h1).1]; exact h1
    · cases v.ownBlock with
      | none => exact .inl rfl
      | some k => right; simp
  rcases h with h | h
  · exact .inl (key _ h)
  · exact .inr (key _ h)
/-- behind world v there is a builder, made as its first block, that holds these bytes; all that was there ahead is as it was -/
structure Wr (v : World) (l : List UInt8) (w : World) : Prop where
  bld : Bld v.heap.size v.heap.size l w
  below : Below v.heap.size v w
theorem Wr.new (v : World) : Wr v [] (v.alloc (.cells #[.pointer none, .slice none 0 0] TB)) := ⟨Bld.new v, (Below.refl _ _).alloc (Nat.le_refl _) _⟩
theorem Wr.grow {v w w' : World} {l : List UInt8} (h : Wr v l w) (hb : Below w.heap.size w w') : Wr v l w' := ⟨h.bld.belowW hb, h.below.trans (hb.mono h.below.size)⟩
theorem Wr.byte {v w : World} {l : List UInt8} (h : Wr v l w) (c : UInt8) (ci : Int) (hci : ci = (c.toNat : Int)) (hlen : l.length + 1 ≤ 140737488355328) :
    Calls Tryz.prog 80 #[.pointer (some ⟨v.heap.size, 0, none⟩), .int .u8 ci] w fun e w' => e = .returned .nilIface ∧ Wr v (l ++ [c]) w' :=
  (byte_any v.heap.size v.heap.size l c ci hci w h.bld hlen h.below.size).mono fun _ _ x => ⟨x.1, x.2.1, h.below.trans x.2.2.1⟩
theorem Wr.text {v w : World} {l : List UInt8} (h : Wr v l w) (s : ByteArray) (hlen : l.length + s.size ≤ 140737488355328) :
    Calls Tryz.prog 81 #[.pointer (some ⟨v.heap.size, 0, none⟩), .string s] w fun e w' => e = .returned (.tuple #[.int .i64 s.size, .nilIface]) ∧ Wr v (l ++ s.data.toList) w' :=
  (write_any v.heap.size v.heap.size l s w h.bld hlen h.below.size).mono fun _ _ x => ⟨x.1, x.2.1, h.below.trans x.2.2.1⟩
theorem Wr.str {v w : World} {l : List UInt8} (h : Wr v l w) :
    Calls Tryz.prog 83 #[.pointer (some ⟨v.heap.size, 0, none⟩)] w fun e w' => e = .returned (.string ⟨l.toArray⟩) ∧ Wr v l w' :=
  (string_any v.heap.size v.heap.size l w h.bld h.below.size).mono fun _ _ x => ⟨x.1, x.2.1, h.below.trans x.2.2.1⟩
theorem Wr.len {v w : World} {l : List UInt8} (h : Wr v l w) :
    Calls Tryz.prog 82 #[.pointer (some ⟨v.heap.size, 0, none⟩)] w fun e w' => e = .returned (.int .i64 l.length) ∧ w = w' :=
  (Tryz.Builder_Len_f v.heap.size v.heap.size (Lib.byteCells l) w h.bld).mono fun _ _ x => ⟨by rw [x.1]; simp [Lib.byteCells], x.2.symm⟩
/-- how many bytes the builder in block b holds -/
def sliceLen : Option Value → Nat
  | some (.slice _ n _) => n
  | _ => 0
def bldLen (b : Nat) (w : World) : Nat := match w.heap[b]? with | some (.cells cs _ _) => sliceLen cs[1]? | _ => 0
theorem Bld.len {B b : Nat} {l : List UInt8} {w : World} (h : Bld B b l w) : bldLen b w = l.length := by
  have hl : (Lib.byteCells l).length = l.length := by simp [Lib.byteCells]
  have key : ∀ p, Lib.BuilderAtF TB TY B b p (Lib.byteCells l) w → bldLen b w = l.length := by
    rintro p ⟨hB, v, h1, h2, h3⟩
    unfold bldLen
    rw [h1]
    rcases h2.2 with ⟨hv, h0⟩ | ⟨g, cap, cur, fz, hv, _⟩
    · subst hv; rw [← hl, h0]; rfl
    · subst hv; rw [← hl]; rfl
  rcases h with h | h
  · exact key _ h
  · exact key _ h
end Go.Proofs.YtcmjambbdfangaaGreat.Build
