/-
  What package batch answers of any writes: Find.
-/
import Derived.RangeFuncNested
import Derived.RangeFuncBound
import Derived.RangeFuncCalls
import Derived.RangeFuncLeaves
import Derived.Shelf.Abstract
import Derived.Shelf.RegionOpen
import Derived.WalkKit
import Derived.OwnWalkIn
import Derived.TacticsInMore
import Derived.LoopNIn
import Derived.LoopIn
import Derived.Test.YtjbgiolcfammkaaDoorBatchXa
namespace Go.Proofs.YtjbgiolcfammkaaDoor.Batch
open Go.RowKit Go.Shelf
open Go.Proofs.YtjbgiolcfammkaaDoor.Own
open Tup RefKeys RefSort
attribute [local go_sem] Oper.semAt_some

/-- what has come of a row of writes, from its end on -/
def backs (l : List Wr) (k : Nat) : List (Nat × Wr) := (List.range k).map fun j => (l.length - (j + 1), l.getD (l.length - (j + 1)) zeroW)
theorem backs_succ (l : List Wr) (k : Nat) : backs l (k + 1) = backs l k ++ [(l.length - (k + 1), l.getD (l.length - (k + 1)) zeroW)] := by simp [backs, List.range_succ]
theorem backs_length (l : List Wr) (k : Nat) : (backs l k).length = k := by simp [backs]
theorem backs_mem {l : List Wr} {k i : Nat} (hi : i < l.length) (hk : l.length - k ≤ i) : (i, l[i]) ∈ backs l k := by
  simp only [backs, List.mem_map, List.mem_range]
  refine ⟨l.length - 1 - i, by omega, ?_⟩
  have e : l.length - (l.length - 1 - i + 1) = i := by omega
  rw [e, List.getD_eq_getElem?_getD, List.getElem?_eq_getElem hi]; rfl
theorem var_kept {A B : World} {row : Option Nat} {k : Nat} {t : TypeId} {cs : List Value} (h : Var A k t cs) (hg : A.grownBy B row) (hr : ∀ r, row = some r → ∃ o : Obj, A.heap[r]? = some o ∧ o.isCells = false) : Var B k t cs :=
  h.kept hg (fun e => by
    obtain ⟨o, ho, hc⟩ := hr k e
    unfold Var at h
    rw [h] at ho; cases ho
    simp [Obj.isCells] at hc)
/-- a write as a value, plainly -/
def encW (x : Nat × Wr) : Array Value := #[.int .i64 (x.1 : Int), .agg #[.string x.2.key, .bool x.2.del, .string x.2.val]]
set_option maxRecDepth 100000 in
set_option maxHeartbeats 4000000 in
theorem back1_in (F : Fence) (n : Nat) (h55 : F.fn 55) (hro : F.round = none) (hn : 1 ≤ n) (l Bs n₀ : Nat) (a : Option Addr) (ws : List Wr) (cap : Nat) (hlen : ws.length ≤ 1000000) (J Jx : List (Nat × Wr) → World → Prop)
    (hY : ∀ pre x W, J pre W → pre.length < ws.length → YieldAt F (n - 1) Tryd.prog l (encW x) W fun e W' =>
      (e = .returned (.bool true) ∧ J (pre ++ [x]) W' ∧ Below n₀ W W') ∨ (e = .returned (.bool false) ∧ Jx (pre ++ [x]) W'))
    (W : World) (hBs : W.cell? ⟨Bs, 0, none⟩ = some (.slice a ws.length cap)) (hBn : Bs < n₀) (hat : ∀ W', Below n₀ W W' → WAt W' a ws) (h0 : J [] W) :
    CallsIn F n Tryd.prog 55 #[.func (.yield l) #[] #[], .pointer (some ⟨Bs, 0, none⟩)] W fun e W' => (∃ v, e = .returned v) ∧
      ((∃ ys, ys = backs ws ws.length ∧ J ys W') ∨ (∃ pre, (∃ k, k ≤ ws.length ∧ pre = backs ws k) ∧ Jx pre W')) := by
  refine callsIn_of_wp Tryd.func55 rfl h55 ?_ hro
  simp only [Tryd.ntmps55, List.size_toArray, List.length_cons, List.length_nil, Nat.reduceAdd, Nat.reduceSub, Array.replicate_succ, Array.replicate_zero, List.push_toArray, List.append_toArray, List.nil_append, List.cons_append]
  gi_wp2
  gi_loopw [3] (fun i wr => ∃ k : Nat, k ≤ ws.length ∧ i = .int .i64 (((ws.length - k : Nat) : Int) - 1) ∧ J (backs ws k) wr ∧ Below n₀ W wr) (fun i _ => (intOf i + 1).toNat)
  case atStart => exact ⟨0, Nat.zero_le _, by simp, h0, Below.refl _ _⟩
  case round =>
    obtain ⟨k, hk, rfl, hJs, hnx⟩ := hrel
    have hcb : wr.cell? ⟨Bs, 0, none⟩ = some (.slice a ws.length cap) := (hnx.cell (p := ⟨Bs, 0, none⟩) hBn).trans hBs
    by_cases hlt : k < ws.length
    · obtain ⟨j, hj⟩ : ∃ j, j = ws.length - (k + 1) := ⟨_, rfl⟩
      have e1 : ((ws.length - k : Nat) : Int) - 1 = (j : Int) := by omega
      have hjl : j < ws.length := by omega
      have hbk := backs_succ ws k
      rw [← hj] at hbk
      have hgd : ws.getD j zeroW = ws[j] := by rw [List.getD_eq_getElem?_getD, List.getElem?_eq_getElem hjl]; rfl
      rw [hgd] at hbk
      obtain ⟨b, off, ha, c0, c1, c2⟩ := WAt.get (hat wr hnx) (List.getElem?_eq_getElem hjl)
      subst ha
      obtain ⟨fn, tmps, assign, body, hy, hR⟩ := hY _ (j, ws[j]) wr hJs (by rw [backs_length]; exact hlt)
      generalize ws[j] = x at *
      unfold encW at hy
      dsimp only at hy
      rw [e1]
      have HJ := Lib.hid hj
      clear e1 hj hgd
      gi_wp2
      refine hR.mono ?_
      rintro e W3 (⟨rfl, hJ3, hk3⟩ | ⟨rfl, hJx3⟩)
      · gi_wp2
        go_roundw
        case rel => exact ⟨k + 1, by omega, by (have := HJ.out; congr 1; omega), by rw [hbk]; exact hJ3, hnx.trans hk3⟩
        case measure => (simp [intOf]; try omega)
      · gi_wp2
        refine bodyPost_ret (results_none rfl _ _ _) rfl ?_
        exact ⟨⟨_, rfl⟩, .inr ⟨_, ⟨k + 1, by omega, hbk.symm⟩, hJx3⟩⟩
    · obtain rfl : k = ws.length := by omega
      rw [show (((ws.length - ws.length : Nat) : Int)) - 1 = -1 by simp]
      gi_wp2
      go_end0
      exact ⟨⟨_, rfl⟩, .inl ⟨_, rfl, hJs⟩⟩
set_option maxRecDepth 100000 in
set_option maxHeartbeats 1000000 in
theorem back_in (F : Fence) (n : Nat) (h33 : F.fn 33) (hro : F.round = none) (a : Option Addr) (len cap : Nat) (w : World) :
    CallsIn F n Tryd.prog 33 #[.slice a len cap] w fun e w' => e = .returned (.func (.func 55) #[] #[.pointer (some ⟨w.heap.size, 0, none⟩)]) ∧ w' = w.alloc (.cells #[.slice a len cap] 22) := by
  refine callsIn_of_wp Tryd.func33 rfl h33 ?_ hro
  simp only [Tryd.ntmps33, List.size_toArray, List.length_cons, List.length_nil, Nat.reduceAdd, Nat.reduceSub, Array.replicate_succ, Array.replicate_zero, List.push_toArray, List.append_toArray, List.nil_append, List.cons_append]
  gi_wp2
  go_ret
  exact ⟨rfl, rfl⟩
theorem back_stops (F : Fence) (n : Nat) (h55 : F.fn 55) (hro : F.round = none) (hn : 1 ≤ n) (Bs : Nat) (a : Option Addr) (ws : List Wr) (cap : Nat) (hlen : ws.length ≤ 1000000) (w : World) (hBs : Bs < w.heap.size)
    (hc : w.cell? ⟨Bs, 0, none⟩ = some (.slice a ws.length cap)) (hI : WAt w a ws) :
    SeqStopsK F n Tryd.prog 55 #[.pointer (some ⟨Bs, 0, none⟩)] encW (Below w.heap.size) (fun ys => ys = backs ws ws.length) (fun pre => ∃ k, k ≤ ws.length ∧ pre = backs ws k) ws.length w := fun l J Jx W hW _ _ hY h0 => by
  have hc' := (hW.cell (p := ⟨Bs, 0, none⟩) hBs).trans hc
  exact back1_in F n h55 hro hn l Bs w.heap.size a ws cap hlen J Jx hY W hc' hBs (fun W' hb => Tup.At.below hI (hW.trans hb)) h0
theorem find_backs_none {l : List Wr} {key : ByteArray} (h : ∀ p ∈ backs l l.length, p.2.key ≠ key) : findW l key = none := by
  refine find_none fun x hx => ?_
  obtain ⟨i, hi, rfl⟩ := List.mem_iff_getElem.1 hx
  exact h _ (backs_mem hi (by omega))
theorem find_backs_hit {l : List Wr} {key : ByteArray} {k : Nat} (hk : k ≤ l.length) {ini : List (Nat × Wr)} {last : Nat × Wr} (he : backs l k = ini ++ [last]) (hi : ∀ p ∈ ini, p.2.key ≠ key) (hl : last.2.key = key) : findW l key = some last.2 := by
  cases k with
  | zero => simp [backs] at he
  | succ k =>
    rw [backs_succ] at he
    obtain ⟨rfl, e5⟩ := List.append_inj' he rfl
    have hj : l.length - (k + 1) < l.length := by omega
    have e6 : last = (l.length - (k + 1), l[l.length - (k + 1)]) := by
      have : last = (l.length - (k + 1), l.getD (l.length - (k + 1)) zeroW) := by simpa using e5.symm
      rw [this, List.getD_eq_getElem?_getD, List.getElem?_eq_getElem hj]; rfl
    rw [e6] at hl ⊢
    refine find_hit hj hl fun x hx => ?_
    obtain ⟨i, hi', rfl⟩ := List.mem_iff_getElem.1 hx
    rw [List.getElem_drop]
    rw [List.length_drop] at hi'
    exact hi _ (backs_mem (i := l.length - (k + 1) + 1 + i) (by omega) (by omega))
/-- what the results' two variables hold -/
def Res (B : Nat) (W : World) (x : Wr) (ok : Bool) : Prop := Var W (B + 1) 31 (wrC x) ∧ Var W (B + 1 + 1) 4 [.bool ok]
theorem Res.kept {A B : World} {row : Option Nat} {b : Nat} {x : Wr} {ok : Bool} (h : Res b A x ok) (hg : A.grownBy B row) (hr : ∀ r, row = some r → ∃ o : Obj, A.heap[r]? = some o ∧ o.isCells = false) : Res b B x ok := ⟨var_kept h.1 hg hr, var_kept h.2 hg hr⟩
/-- a write and a word are stored into the results' variables -/
def putRes (W : World) (b : Nat) (x : Wr) (ok : Bool) : World := (((W.setCell ⟨b + 1, 0, none⟩ (.string x.key)).setCell ⟨b + 1, 1, none⟩ (.bool x.del)).setCell ⟨b + 1, 2, none⟩ (.string x.val)).setCell ⟨b + 1 + 1, 0, none⟩ (.bool ok)
theorem Res.put {W : World} {b : Nat} {x0 : Wr} {ok0 : Bool} (h : Res b W x0 ok0) (x : Wr) (ok : Bool) : Res b (putRes W b x ok) x ok := by
  have v1 := ((h.1.set 0 (.string x.key)).set 1 (.bool x.del)).set 2 (.string x.val)
  have v2 := ((h.2.kept (grown_set W ⟨b + 1, 0, none⟩ (.string x.key)) (by simp)).kept (grown_set _ ⟨b + 1, 1, none⟩ (.bool x.del)) (by simp)).kept (grown_set _ ⟨b + 1, 2, none⟩ (.string x.val)) (by simp)
  exact ⟨v1.kept (grown_set _ ⟨b + 1 + 1, 0, none⟩ (.bool ok)) (by simp), v2.set 0 (.bool ok)⟩
/-- .. what the walk asks for that -/
theorem Res.facts {W : World} {b : Nat} {x0 : Wr} {ok0 : Bool} (h : Res b W x0 ok0) (x0' : ByteArray) (x1' : Bool) (x2' : ByteArray) :
    (∃ o, W.cell? ⟨b + 1, 0, none⟩ = some o) ∧ W.frozen? ⟨b + 1, 0, none⟩ = false ∧
    (∃ o, (W.setCell ⟨b + 1, 0, none⟩ (.string x0')).cell? ⟨b + 1, 1, none⟩ = some o) ∧ (W.setCell ⟨b + 1, 0, none⟩ (.string x0')).frozen? ⟨b + 1, 1, none⟩ = false ∧
    (∃ o, ((W.setCell ⟨b + 1, 0, none⟩ (.string x0')).setCell ⟨b + 1, 1, none⟩ (.bool x1')).cell? ⟨b + 1, 2, none⟩ = some o) ∧ ((W.setCell ⟨b + 1, 0, none⟩ (.string x0')).setCell ⟨b + 1, 1, none⟩ (.bool x1')).frozen? ⟨b + 1, 2, none⟩ = false ∧
    (∃ o, (((W.setCell ⟨b + 1, 0, none⟩ (.string x0')).setCell ⟨b + 1, 1, none⟩ (.bool x1')).setCell ⟨b + 1, 2, none⟩ (.string x2')).cell? ⟨b + 1 + 1, 0, none⟩ = some o) ∧ (((W.setCell ⟨b + 1, 0, none⟩ (.string x0')).setCell ⟨b + 1, 1, none⟩ (.bool x1')).setCell ⟨b + 1, 2, none⟩ (.string x2')).frozen? ⟨b + 1 + 1, 0, none⟩ = false := by
  have a0 := h.1
  have a1 := a0.set 0 (.string x0')
  have a2 := a1.set 1 (.bool x1')
  have b3 := ((h.2.kept (grown_set W ⟨b + 1, 0, none⟩ (.string x0')) (by simp)).kept (grown_set _ ⟨b + 1, 1, none⟩ (.bool x1')) (by simp)).kept (grown_set _ ⟨b + 1, 2, none⟩ (.string x2')) (by simp)
  exact ⟨⟨_, a0.cell (j := 0) rfl⟩, a0.frozen 0, ⟨_, a1.cell (j := 1) rfl⟩, a1.frozen 1, ⟨_, a2.cell (j := 2) rfl⟩, a2.frozen 2, ⟨_, b3.cell (j := 0) rfl⟩, b3.frozen 0⟩
theorem putRes_below {w W : World} {b : Nat} (h : Below b w W) (x : Wr) (ok : Bool) : Below b w (putRes W b x ok) :=
  (((h.setCell (p := ⟨b + 1, 0, none⟩) (by simp) _).setCell (p := ⟨b + 1, 1, none⟩) (by simp) _).setCell (p := ⟨b + 1, 2, none⟩) (by simp) _).setCell (p := ⟨b + 1 + 1, 0, none⟩) (by simp; omega) _
theorem putRes_keeps (W : World) (b : Nat) (x : Wr) (ok : Bool) : KeepsOthers W (putRes W b x ok) :=
  (((KeepsOthers.setCell _ _ _).trans (KeepsOthers.setCell _ _ _)).trans (KeepsOthers.setCell _ _ _)).trans (KeepsOthers.setCell _ _ _)
set_option maxRecDepth 100000 in
set_option maxHeartbeats 8000000 in
theorem find_in (F : Fence) (n : Nat) (h17 : F.fn 17) (h33 : F.fn 33) (h55 : F.fn 55) (hro : F.round = none) (hn : 4 ≤ n) (a : Option Addr) (ws : List Wr) (cap : Nat) (key : ByteArray) (hl : ws.length ≤ 1000000) (w : World) (hr : WAt w a ws) :
    CallsIn F n Tryd.prog 17 #[.slice a ws.length cap, .string key] w fun e w' => e = .returned (foundV (findW ws key)) ∧ Below w.heap.size w w' := by
  have h1 : 1 ≤ n := by omega
  refine callsIn_of_wp_marks Tryd.func17 rfl h17 ?_ hro
  simp only [Tryd.ntmps17, List.size_toArray, List.length_cons, List.length_nil, Nat.reduceAdd, Nat.reduceSub, Array.replicate_succ, Array.replicate_zero, List.push_toArray, List.append_toArray, List.nil_append, List.cons_append]
  gi_wp2_with (gi_at_call 33; refine (back_in F (n - 1) h33 hro _ _ _ _).mono ?_; rintro e w' ⟨rfl, rfl⟩)
  have bK := (((Var.new w 9 [.string key]).alloc (.cells (wrC zeroW).toArray 31)).alloc (.cells #[.bool false] 4)).alloc (.cells #[.slice a ws.length cap] 22)
  have bR := ((Var.new (w.alloc (.cells #[.string key] 9)) 31 (wrC zeroW)).alloc (.cells #[.bool false] 4)).alloc (.cells #[.slice a ws.length cap] 22)
  have bO := (Var.new ((w.alloc (.cells #[.string key] 9)).alloc (.cells (wrC zeroW).toArray 31)) 4 [.bool false]).alloc (.cells #[.slice a ws.length cap] 22)
  have bS := Var.new (((w.alloc (.cells #[.string key] 9)).alloc (.cells (wrC zeroW).toArray 31)).alloc (.cells #[.bool false] 4)) 22 [.slice a ws.length cap]
  simp only [World.size_alloc] at bR bO bS
  have hB0 : Below w.heap.size w ((((w.alloc (.cells #[.string key] 9)).alloc (.cells (wrC zeroW).toArray 31)).alloc (.cells #[.bool false] 4)).alloc (.cells #[.slice a ws.length cap] 22)) := ((((Below.refl _ w).alloc (Nat.le_refl _) _).alloc (by simp) _).alloc (by simp; omega) _).alloc (by simp; omega) _
  have hsz : ((((w.alloc (.cells #[.string key] 9)).alloc (.cells (wrC zeroW).toArray 31)).alloc (.cells #[.bool false] 4)).alloc (.cells #[.slice a ws.length cap] 22)).heap.size = w.heap.size + 4 := by simp
  obtain ⟨W0, hW0⟩ : ∃ W0, (((w.alloc (.cells #[.string key] 9)).alloc (.cells (wrC zeroW).toArray 31)).alloc (.cells #[.bool false] 4)).alloc (.cells #[.slice a ws.length cap] 22) = W0 := ⟨_, rfl⟩
  rw [hW0] at bK bR bO bS hB0 hsz
  have hW1 : ((((w.alloc (.cells #[.string key] 9)).alloc (.cells #[.string ⟨#[]⟩, .bool false, .string ⟨#[]⟩] 31)).alloc (.cells #[.bool false] 4)).alloc (.cells #[.slice a ws.length cap] 22)) = W0 := hW0
  rw [hW1]
  clear hW0 hW1
  have hat : WAt W0 a ws := Tup.At.below hr hB0
  refine wpIn_rangeFunc_ownH hro h1 (gf := 55) (lb := #[.pointer (some ⟨w.heap.size + 1 + 1 + 1, 0, none⟩)]) rfl h55 (enters_of Tryd.func55 (by kernel_rfl) rfl)
    (back_stops F (n - 1) h55 hro (by omega) (w.heap.size + 1 + 1 + 1) a ws cap hl W0 (by omega) (bS.cell (j := 0) rfl) hat) belowK_t (belowK_b (Nat.le_refl _)) (Below.refl _ _) (fun _ => rfl)
    (fun pre W => ((∀ p ∈ pre, p.2.key ≠ key) ∧ Var W w.heap.size 9 [.string key] ∧ Res w.heap.size W zeroW false ∧ Var W (w.heap.size + 1 + 1 + 1) 22 [.slice a ws.length cap]) ∧ Below w.heap.size w W)
    (fun c pre W => (c = .ret ∧ ∃ ini last, pre = ini ++ [last] ∧ (∀ p ∈ ini, p.2.key ≠ key) ∧ last.2.key = key ∧ Res w.heap.size W last.2 true) ∧ Below w.heap.size w W)
    (OwnFrom.and (Own.from (fun s A B row hs hg hr => ⟨hs.1, var_kept hs.2.1 hg hr, hs.2.2.1.kept hg hr, var_kept hs.2.2.2 hg hr⟩) _) (ownFrom_below (Nat.le_refl _) (by omega)))
    (fun c => OwnFrom.and (Own.from (fun s A B row hs hg hr => by obtain ⟨hc, ini, last, e1, e2, e3, e4⟩ := hs; exact ⟨hc, ini, last, e1, e2, e3, e4.kept hg hr⟩) _) (ownFrom_below (Nat.le_refl _) (by omega)))
    ⟨⟨by simp, bK, ⟨bR, bO⟩, bS⟩, hB0⟩
    (fun x a' W => ∃ Bx, w.heap.size + 3 < Bx ∧ Var W Bx 31 (wrC x.2) ∧ a' = { tmps := #[.slice a ws.length cap, .string key, undef, .pointer (some ⟨w.heap.size, 0, none⟩), .pointer (some ⟨w.heap.size + 1, 0, none⟩), .pointer (some ⟨w.heap.size + 1 + 1, 0, none⟩), undef, .pointer (some ⟨Bx, 0, none⟩), .slice a ws.length cap, .func (.func 55) #[] #[.pointer (some ⟨w.heap.size + 1 + 1 + 1, 0, none⟩)], .int .i64 (x.1 : Int), .agg #[.string x.2.key, .bool x.2.del, .string x.2.val], undef, undef, undef, undef, undef, undef], defers := [] })
    (fun x a' _ X Y row hs hg hr => by obtain ⟨Bx, h1, h2, h3⟩ := hs; exact ⟨Bx, h1, var_kept h2 hg (fun r e => (hr r e).2), h3⟩)
    ?assign ?body ?done ?stop
  case assign =>
    rintro l pre x W K ⟨⟨hp, vK, vR, vS⟩, hB1⟩ hK
    have hsW := hB1.size
    have hlo : w.heap.size + 3 < W.heap.size := vS.lt
    unfold encW
    gi_wp2
    exact hK _ _ ((KeepsOthers.alloc _ _).from _) ((Below.refl _ W).alloc (by omega) _) ⟨⟨hp, vK.alloc _, ⟨vR.1.alloc _, vR.2.alloc _⟩, vS.alloc _⟩, hB1.alloc hsW _⟩ ⟨W.heap.size, hlo, Var.new W 31 (wrC x.2), rfl⟩
  case body =>
    rintro l pre x a' W hl2 ⟨r, hr2⟩ ⟨⟨hp, vK, vR, vS⟩, hB1⟩ ⟨Bx, hBx, bX, rfl⟩ hlt
    obtain ⟨i, x⟩ := x
    dsimp only at bX ⊢
    have cK := vK.cell (j := 0) rfl
    have x0 := bX.cell (j := 0) rfl
    have x1 := bX.cell (j := 1) rfl
    have x2 := bX.cell (j := 2) rfl
    by_cases hkey : x.key = key
    · have q : (x.key.toList == key.toList) = true := by rw [str_neq]; simpa using hkey
      obtain ⟨⟨o0, f0⟩, g0, ⟨o1, f1⟩, g1, ⟨o2, f2⟩, g2, ⟨o3, f3⟩, g3⟩ := vR.facts x.key x.del x.val
      have HX := Lib.hid (show _ ∧ _ from ⟨hp, hkey⟩)
      have HR2 := Lib.hid (vR.put x true)
      have HB2 := Lib.hid (putRes_below hB1 x true)
      clear hkey hp
      gi_wp2
      exact ⟨(putRes_keeps W w.heap.size x true).from _, ⟨rfl, pre, (i, x), rfl, HX.out.1, HX.out.2, HR2.out⟩, HB2.out⟩
    · have q : (x.key.toList == key.toList) = false := by rw [str_neq]; simpa using hkey
      have HX := Lib.hid (show _ ∧ _ from ⟨hp, hkey⟩)
      clear hkey hp
      gi_wp2
      refine ⟨KeepsFrom.refl _ _, Below.refl _ _, ⟨fun p hp' => ?_, vK, vR, vS⟩, hB1⟩
      rcases List.mem_append.1 hp' with h | h
      · exact HX.out.1 p h
      · rw [List.mem_singleton.1 h]; exact HX.out.2
  case done =>
    rintro D ys W hD rfl ⟨⟨hne, vK, vR, vS⟩, hB1⟩ hK
    obtain ⟨⟨o0, f0⟩, g0, ⟨o1, f1⟩, g1, ⟨o2, f2⟩, g2, ⟨o3, f3⟩, g3⟩ := vR.facts ⟨#[]⟩ false ⟨#[]⟩
    have HE := Lib.hid (find_backs_none hne)
    have HB2 := Lib.hid (putRes_below hB1 zeroW false)
    have HR2 := Lib.hid (vR.put zeroW false)
    clear hne
    have hK' := (putRes_keeps W w.heap.size zeroW false).same D _ hK rfl
    have HR3 := HR2.out.kept (grownBy_putObj' _ D (.deferred none)) (fun r e => by cases e; exact ⟨_, hK', rfl⟩)
    obtain ⟨W2, hW2⟩ : ∃ W2, putRes W w.heap.size zeroW false = W2 := ⟨_, rfl⟩
    rw [hW2] at hK' HR3 HB2
    have e2 : ((((W.setCell ⟨w.heap.size + 1, 0, none⟩ (.string ⟨#[]⟩)).setCell ⟨w.heap.size + 1, 1, none⟩ (.bool false)).setCell ⟨w.heap.size + 1, 2, none⟩ (.string ⟨#[]⟩)).setCell ⟨w.heap.size + 1 + 1, 0, none⟩ (.bool false)) = W2 := hW2
    have E2 := Lib.hid e2
    clear e2 hW2 HR2
    have r0 := HR3.1.cell (j := 0) rfl
    have r1 := HR3.1.cell (j := 1) rfl
    have r2 := HR3.1.cell (j := 2) rfl
    have s0 := HR3.2.cell (j := 0) rfl
    gi_wp2
    rw [E2.out]
    refine ⟨by simp, .inl ⟨_, _, rfl, run_takeDeferred hK', ?_⟩⟩
    refine ⟨foundV none, ?_, by rw [HE.out], HB2.out.trans (belowK_b (w := w) (Nat.le_refl _) _ D _ _ (by omega) hK' rfl rfl)⟩
    simp [results, Tryd.results17, go_sem, r0, r1, r2, s0, foundV]
    rfl
  case stop =>
    rintro D c pre W hD ⟨k, hk, rfl⟩ ⟨⟨rfl, ini, last, e1, e2, e3, vR⟩, hB1⟩ hK
    have HE := Lib.hid (find_backs_hit hk e1 e2 e3)
    clear e1 e2 e3
    have HR3 := vR.kept (grownBy_putObj' _ D (.deferred none)) (fun r e => by cases e; exact ⟨_, hK, rfl⟩)
    have r0 := HR3.1.cell (j := 0) rfl
    have r1 := HR3.1.cell (j := 1) rfl
    have r2 := HR3.1.cell (j := 2) rfl
    have s0 := HR3.2.cell (j := 0) rfl
    gi_wp2
    refine ⟨by simp, .inl ⟨_, _, rfl, run_takeDeferred hK, ?_⟩⟩
    refine ⟨foundV (some last.2), ?_, by rw [HE.out], hB1.trans (belowK_b (w := w) (Nat.le_refl _) _ D _ _ (by omega) hK rfl rfl)⟩
    simp [results, Tryd.results17, go_sem, r0, r1, r2, s0, foundV]
    rfl
theorem findB_any (a : Option Addr) (l : List Wr) (cap : Nat) (key : ByteArray) (hl : l.length ≤ 1000000) (w : World) (_hT : Tb w) (hr : WAt w a l) :
    Calls Tryd.prog 17 #[.slice a l.length cap, .string key] w fun e w' => e = .returned (foundV (findW l key)) ∧ Below w.heap.size w w' :=
  (callsIn_wide (n := 4)).1 (find_in Fence.wide 4 trivial trivial trivial rfl (by omega) a l cap key hl w hr)
end Go.Proofs.YtjbgiolcfammkaaDoor.Batch
