/-
  Joined texts: BatchE, BatchF.
-/
import Derived.Test.YtligapgjdpdihaaDoorBatchD
import Derived.Test.YtligapgjdpdihaaDoorRunLayA
import Derived.Test.YtligapgjdpdihaaDoorKeyMathC
/-
  What the document's own Bytes answers of any writes.
-/
set_option linter.unusedVariables false
set_option linter.unusedSimpArgs false
namespace Go.Proofs.YtligapgjdpdihaaDoor.Batch
open Go.RowKit
open Own Tup RefKeys RefSort Lay LayM
open Go.Proofs.YtligapgjdpdihaaDoor.Region (fill Then Deps Each wp_region_is_tail)

/-- a write's bytes -/
def itemB (x : Wr) : ByteArray := if x.del then ⟨#[1]⟩ ++ textS x.key else ⟨#[0]⟩ ++ textS x.key ++ textS x.val
def layTo (l : List Wr) (k : Nat) : ByteArray := (l.take k).foldl (fun b x => b ++ itemB x) (numS l.length)
def layB (l : List Wr) : ByteArray := layTo l l.length
def bytesW (l : List Wr) : ByteArray × Nat := if rightW l ≠ 0 then (ByteArray.empty, rightW l) else (layB l, 0)
theorem layTo_succ (l : List Wr) (k : Nat) (h : k < l.length) : layTo l (k + 1) = layTo l k ++ itemB l[k] := by
  unfold layTo; rw [List.take_succ_eq_append_getElem h, List.foldl_append]; rfl
theorem rightGo_ok : ∀ (l : List Wr) (p : Option ByteArray), rightGo p l = 0 → ∀ x ∈ l, keyRight x.key = true ∧ x.val.size ≤ 48
  | [], _, _, x, hx => by simp at hx
  | y :: r, p, h, x, hx => by
    rw [rightGo] at h
    split at h
    · simp at h
    split at h
    · simp at h
    split at h
    · simp at h
    rename_i h1 h2 h3
    rcases List.mem_cons.1 hx with rfl | hx
    · exact ⟨by simpa using h1, by omega⟩
    · exact rightGo_ok r _ h x hx
theorem rightW_ok {l : List Wr} (h : rightW l = 0) : 1 ≤ l.length ∧ l.length ≤ 8 ∧ rightGo none l = 0 := by
  unfold rightW at h
  split at h
  · simp at h
  · exact ⟨by omega, by omega, h⟩
theorem key_short {s : ByteArray} (h : keyRight s = true) : s.size ≤ 48 := by
  have := RuneM.runes_size_le s
  unfold keyRight at h
  simp only [Bool.and_eq_true, decide_eq_true_eq] at h
  omega
theorem item_size {x : Wr} (hk : x.key.size ≤ 48) (hv : x.val.size ≤ 48) : (itemB x).size ≤ 120 := by
  have l1 := (numS_len (x.key.size % 4294967296)).2
  have l2 := (numS_len (x.val.size % 4294967296)).2
  have e1 : (⟨#[1]⟩ : ByteArray).size = 1 := rfl
  have e0 : (⟨#[0]⟩ : ByteArray).size = 1 := rfl
  unfold itemB
  split <;> simp only [ByteArray.size_append, textS, e1, e0] <;> omega
theorem layTo_size (l : List Wr) (h : ∀ x ∈ l, x.key.size ≤ 48 ∧ x.val.size ≤ 48) : ∀ k, k ≤ l.length → (layTo l k).size ≤ 5 + k * 120
  | 0, _ => by have := (numS_len l.length).2; simpa [layTo] using this
  | k + 1, hk => by
    have h1 := layTo_size l h k (by omega)
    rw [layTo_succ l k (by omega), ByteArray.size_append]
    have h2 := h l[k] (List.getElem_mem _)
    have := item_size h2.1 h2.2
    omega
set_option maxRecDepth 100000 in
set_option maxHeartbeats 8000000 in
theorem refBytes_any (a : Option Addr) (l : List Wr) (cap : Nat) (hl : l.length ≤ maxLen) (hz : ∀ x ∈ l, x.key.size ≤ 8796093022208) (w : World) (hr : WAt w a l) :
    Calls Tryd.prog 19 #[.slice a l.length cap] w fun e w' => e = .returned (.tuple #[.string (bytesW l).1, .int .i64 (((bytesW l).2 : Nat) : Int)]) ∧ Below w.heap.size w w' := by
  have HRT := Lib.hid (refRight_any a l cap hl hz w hr)
  unfold maxLen at hl
  have HR := Lib.hid hr
  clear hr hz
  by_cases hc : rightW l = 0
  · have HE := Lib.hid (show bytesW l = (layB l, 0) by unfold bytesW; rw [if_neg (by simp [hc])])
    obtain ⟨hl1, hl8, hok⟩ := rightW_ok hc
    have HOK : Hid (∀ x ∈ l, x.key.size ≤ 48 ∧ x.val.size ≤ 48) := fun x hx => ⟨key_short (rightGo_ok l none hok x hx).1, (rightGo_ok l none hok x hx).2⟩
    have HNM := Lib.hid (fun w => refNum_any l.length (by omega) w)
    rw [hc] at HRT
    clear hok hc
    obtain ⟨n, hnn⟩ : ∃ n, n = l.length := ⟨_, rfl⟩
    rw [← hnn] at HRT HNM hl8 hl1 ⊢
    have HNL := Lib.hid hnn
    clear hl hnn
    have hm : (n : Int) % 4294967296 = (n : Int) := by omega
    go_enter Tryd.func19, Tryd.ntmps19
    go_wp2_with fail
    go_at_call 46
    with_reducible refine HRT.out.mono ?_
    rintro e w1 ⟨rfl, hb1⟩
    have HB1 := Lib.hid hb1
    clear hb1
    go_wp2_with fail
    go_at_call 47
    with_reducible refine (HNM.out _).mono ?_
    rintro e w2 ⟨rfl, hb2⟩
    have HB2 := Lib.hid (HB1.out.trans (hb2.mono HB1.out.size))
    clear hb2
    go_wp2
    go_loopw [5, 6] (fun s i wr => ∃ k : Nat, i = .int .i64 (k : Int) ∧ k ≤ n ∧ s = .string (layTo l k) ∧ Below w.heap.size w wr) (fun _ i _ => n - (intOf i).toNat)
    case atStart => exact ⟨0, rfl, Nat.zero_le _, by rw [layTo, ← HNL.out]; rfl, HB2.out⟩
    case round =>
      obtain ⟨k, rfl, hk, rfl, hbel⟩ := hrel
      have HB := Lib.hid hbel
      clear hbel
      by_cases hlt : k < n
      · have h1 : k < l.length := by rw [← HNL.out]; exact hlt
        have d3 : decide ((k : Int) < (n : Int)) = true := by simp; omega
        have d4 : decide (k < n) = true := by simp; omega
        have hsz := layTo_size l HOK.out k (by omega)
        obtain ⟨hx1, hx2⟩ := HOK.out _ (List.getElem_mem h1)
        have HS := Lib.hid (layTo_succ l k h1)
        obtain ⟨b, off, ha, c0, c1, c2⟩ := WAt.get (Tup.At.below HR.out HB.out) (List.getElem?_eq_getElem h1)
        generalize l[k] = x at *
        subst ha
        clear h1
        have HC := Lib.hid (And.intro c0 (And.intro c1 c2))
        have HT1 := Lib.hid (fun w => refText_any x.key (by omega) w)
        have HT2 := Lib.hid (fun w => refText_any x.val (by omega) w)
        have z1 : (textS x.key).size ≤ 53 := by have := (numS_len (x.key.size % 4294967296)).2; rw [textS, ByteArray.size_append]; omega
        have z2 : (textS x.val).size ≤ 53 := by have := (numS_len (x.val.size % 4294967296)).2; rw [textS, ByteArray.size_append]; omega
        have e1 : (⟨#[1]⟩ : ByteArray).size = 1 := rfl
        have e0 : (⟨#[0]⟩ : ByteArray).size = 1 := rfl
        generalize layTo l k = out at *
        clear hx1 hx2
        cases hdel : x.del with
        | true =>
          have HI := Lib.hid (show itemB x = ⟨#[1]⟩ ++ textS x.key by unfold itemB; rw [hdel]; rfl)
          rw [hdel] at c1
          go_wp2_with (go_at_call 48; (with_reducible refine (HT1.out _).mono ?_); rintro e w3 ⟨rfl, hb3⟩)
          go_roundw
          case rel => exact ⟨k + 1, by go_num, by omega, by rw [HS.out, HI.out], HB.out.trans (hb3.mono HB.out.size)⟩
          case measure => simp [intOf]; omega
        | false =>
          have HI := Lib.hid (show itemB x = ⟨#[0]⟩ ++ textS x.key ++ textS x.val by unfold itemB; rw [hdel]; rfl)
          rw [hdel] at c1 HC
          go_wp2
          refine wp_region_is_tail 16 [36, 37, 38, 39, 40, 41, 42, 43, 44, 45, 46, 47, 48, 49, 50, 51] (fun w' => Below wr.heap.size wr w')
            [.string out, .slice (some ⟨b, off, none⟩) n cap, .int .i64 (k : Int), .pointer (some ⟨b, off + k * 3, none⟩), .pointer (some ⟨b, off + k * 3, none⟩), .string x.key, .string (textS x.key), .string (⟨#[0]⟩ ++ textS x.key),
             .slice (some ⟨b, off, none⟩) n cap, .int .i64 (k : Int), .pointer (some ⟨b, off + k * 3, none⟩), .pointer (some ⟨b, off + k * 3 + 2, none⟩), .string x.val, .string (textS x.val), .string (⟨#[0]⟩ ++ textS x.key ++ textS x.val), .string (out ++ (⟨#[0]⟩ ++ textS x.key ++ textS x.val))]
            (by kernel_rfl) (by kernel_rfl) (by kernel_rfl) (by decide) rfl (by decide) (by simp) (Below.refl _ _).drew ?each ?tail
          case each =>
            simp only [List.take_succ_cons, List.take_zero, Each]
            repeat' (first | exact trivial | refine And.intro ?_ ?_)
            all_goals
              intro ys wx hBx hdeps
              simp only [Deps, Region.binds, List.getD_cons_zero, List.getD_cons_succ, forall_const, and_true] at hdeps
              have c0 : wx.cell? ⟨b, off + k * 3, none⟩ = some (.string x.key) := by rw [hBx.cell (p := ⟨b, off + k * 3, none⟩) (block_lt_of_cell HC.out.1)]; exact HC.out.1
              have c2 : wx.cell? ⟨b, off + k * 3 + 2, none⟩ = some (.string x.val) := by rw [hBx.cell (p := ⟨b, off + k * 3 + 2, none⟩) (block_lt_of_cell HC.out.2.2)]; exact HC.out.2.2
              simp only [hdeps, fill, List.foldl_cons, List.foldl_nil, Act.put, List.setIfInBounds_toArray, List.set_cons_succ, List.set_cons_zero]
              first
                | (go_wp2_with fail; exact ⟨_, rfl, rfl, hBx, Below.refl _ _⟩)
                | (go_wp2_with (go_at_call 48; (with_reducible refine (HT1.out _).mono ?_); rintro e w3 ⟨rfl, hn⟩); exact ⟨_, rfl, rfl, hBx.trans (hn.mono hBx.size), hn⟩)
                | (go_wp2_with (go_at_call 48; (with_reducible refine (HT2.out _).mono ?_); rintro e w3 ⟨rfl, hn⟩); exact ⟨_, rfl, rfl, hBx.trans (hn.mono hBx.size), hn⟩)
          case tail =>
            intro ys wx hBx hV
            have h51 : ys 51 = .string (out ++ (⟨#[0]⟩ ++ textS x.key ++ textS x.val)) := hV 15 (by decide)
            simp only [h51, fill, List.drop_succ_cons, List.drop_zero, List.foldl_cons, List.foldl_nil, Act.put, List.setIfInBounds_toArray, List.set_cons_succ, List.set_cons_zero]
            go_wp2
            refine ⟨⟨k + 1, by go_num, by omega, by rw [HS.out, HI.out], HB.out.trans (hBx.mono HB.out.size)⟩, by simp [intOf]; omega⟩
      · have d3 : decide ((k : Int) < (n : Int)) = false := by simp; omega
        have d4 : decide (k < n) = false := by simp; omega
        have HX := Lib.hid (show layTo l k = layB l by unfold layB; rw [← HNL.out]; congr 1; omega)
        go_wp2
        go_ret2
        exact ⟨by rw [HE.out, ← HX.out]; rfl, HB.out⟩
  · have HE := Lib.hid (show bytesW l = (ByteArray.empty, rightW l) by unfold bytesW; rw [if_pos hc])
    have q1 : (((rightW l : Nat) : Int) == 0) = false := by simpa using hc
    generalize rightW l = c at *
    clear hc
    go_enter Tryd.func19, Tryd.ntmps19
    go_wp2_with (go_at_call 46; (with_reducible refine HRT.out.mono ?_); rintro e w1 ⟨rfl, hb1⟩)
    go_ret2
    exact ⟨by rw [HE.out]; rfl, hb1⟩
end Go.Proofs.YtligapgjdpdihaaDoor.Batch
/-
  What the document's own Read answers of any bytes.
-/
set_option linter.unusedVariables false
set_option linter.unusedSimpArgs false
namespace Go.Proofs.YtligapgjdpdihaaDoor.Batch
open Go.RowKit
open Own Tup RefKeys RefSort Lay LayM RefRune

/-- what is read of a row's writes, from a place on -/
def readGo (b : ByteArray) : Nat → Nat → List Wr → List Wr × Nat
  | 0, p, acc => if p = b.size then (if rightW acc = 0 then (acc, 0) else ([], rightW acc)) else ([], 2)
  | n + 1, p, acc => if b.size ≤ p then ([], 3) else if 1 < bAt b p then ([], 2) else
    if (getT b ((p : Int) + 1) 48).2.2 ≠ 0 then ([], (getT b ((p : Int) + 1) 48).2.2) else
    if bAt b p = 1 then readGo b n (getT b ((p : Int) + 1) 48).2.1 (acc ++ [⟨(getT b ((p : Int) + 1) 48).1, true, ByteArray.empty⟩]) else
    if (getT b ((getT b ((p : Int) + 1) 48).2.1 : Nat) 48).2.2 ≠ 0 then ([], (getT b ((getT b ((p : Int) + 1) 48).2.1 : Nat) 48).2.2) else
    readGo b n (getT b ((getT b ((p : Int) + 1) 48).2.1 : Nat) 48).2.1 (acc ++ [⟨(getT b ((p : Int) + 1) 48).1, false, (getT b ((getT b ((p : Int) + 1) 48).2.1 : Nat) 48).1⟩])
def readW (b : ByteArray) : List Wr × Nat :=
  if (getN b 0).2.2 ≠ 0 then ([], (getN b 0).2.2) else if (getN b 0).1 < 1 ∨ 8 < (getN b 0).1 then ([], 12) else readGo b (getN b 0).1 (getN b 0).2.1 []
theorem getT_ok {b : ByteArray} {a : Int} {s : ByteArray} {p : Nat} (h : getT b a 48 = (s, p, 0)) : s.size ≤ 48 ∧ p ≤ b.size := by
  unfold getT at h
  split at h
  · rename_i h0; simp only [Prod.mk.injEq] at h; exact absurd h.2.2 h0
  rename_i h0
  obtain ⟨k, v, n, -, -, -, hn, hv, hp, -, -⟩ := getN_ok (by simpa using h0)
  rw [hn] at h
  simp only at h
  split at h
  · simp at h
  split at h
  · simp at h
  · rename_i h1 h2
    simp only [Prod.mk.injEq, and_true] at h
    obtain ⟨rfl, rfl⟩ := h
    refine ⟨?_, by omega⟩
    rw [ByteArray.size_extract]; omega
structure ReadAt (b : ByteArray) (n : Nat) (w : World) (v : Value) (k p : Nat) (acc : List Wr) (wr : World) : Prop where
  le : k ≤ n
  pl : p ≤ b.size
  len : acc.length = k
  short : ∀ x ∈ acc, x.key.size ≤ 48
  told : readW b = readGo b (n - k) p acc
  own : WMine wr w.heap.size v acc
  below : Below w.heap.size w wr
/-- what Read answers -/
def ReadSays (r : List Wr × Nat) (w : World) (e : Ending) (w' : World) : Prop := ∃ v, e = .returned (.tuple #[v, .int .i64 (r.2 : Int)]) ∧ WMine w' w.heap.size v r.1 ∧ Below w.heap.size w w'
set_option maxRecDepth 100000 in
set_option maxHeartbeats 8000000 in
theorem refRead_any (b : ByteArray) (hb : b.size ≤ 9000000000000000000) (w : World) :
    Calls Tryd.prog 44 #[.string b] w (ReadSays (readW b) w) := by
  have hml : b.size ≤ maxLen := by simp only [maxLen]; omega
  have HGN := Lib.hid (fun w => refGetNum_any b hml 0 w)
  by_cases h0 : (getN b 0).2.2 = 0
  · obtain ⟨k0, n, n1, -, -, -, hgn, hn32, hp0, -, -⟩ := getN_ok h0
    have HRW : Hid (readW b = if n < 1 ∨ 8 < n then ([], 12) else readGo b n (k0 + n1) []) := by
      unfold readW; rw [hgn, if_neg (by simp)]; rfl
    rw [hgn] at HGN
    unfold tupN at HGN
    obtain ⟨p0, hpe⟩ : ∃ p0, p0 = k0 + n1 := ⟨_, rfl⟩
    rw [← hpe] at HGN HRW hp0
    clear h0 hgn hpe
    by_cases hn : n < 1 ∨ 8 < n
    · rw [if_pos hn] at HRW
      have hd : decide ((n : Int) < 1) = true ∨ (decide ((n : Int) < 1) = false ∧ decide ((8 : Int) < (n : Int)) = true) := by simp; omega
      clear hn
      rcases hd with d1 | ⟨d1, d2⟩
      all_goals
        go_enter Tryd.func44, Tryd.ntmps44
        go_wp2_with (go_at_call 77; (with_reducible refine (HGN.out _).mono ?_); rintro e w' ⟨rfl, rfl⟩)
        go_ret2
        exact ⟨_, by rw [HRW.out]; rfl, by rw [HRW.out]; exact WMine.nil _ _, Below.refl _ _⟩
    · rw [if_neg hn] at HRW
      have d1 : decide ((n : Int) < 1) = false := by simp; omega
      have d2 : decide ((8 : Int) < (n : Int)) = false := by simp; omega
      have hn8 : n ≤ 8 := by omega
      clear hn
      go_enter Tryd.func44, Tryd.ntmps44
      go_wp2_with (go_at_call 77; (with_reducible refine (HGN.out _).mono ?_); rintro e w' ⟨rfl, rfl⟩)
      go_loopw [5, 7, 8] (fun at_ v i wr => ∃ (k p : Nat) (acc : List Wr), i = .int .i64 (k : Int) ∧ at_ = .int .i64 (p : Int) ∧ ReadAt b n w v k p acc wr) (fun _ _ i _ => n - (intOf i).toNat)
      case atStart => exact ⟨0, p0, [], rfl, rfl, ⟨Nat.zero_le _, hp0, rfl, by simp, HRW.out, WMine.nil _ _, Below.refl _ _⟩⟩
      case round =>
        obtain ⟨k, p, acc, rfl, rfl, hkn, hpl, hlen, hshort, htold, hown, hbel⟩ := hrel
        have HO := Lib.hid hown
        have HB := Lib.hid hbel
        have HSH := Lib.hid hshort
        have HG := Lib.hid htold
        have hbs := hbel.size
        clear hown hbel hshort htold HRW HGN
        by_cases hlt : k < n
        · have d3 : decide ((k : Int) < (n : Int)) = true := by simp; omega
          have d4 : decide (k < n) = true := by simp; omega
          rw [show n - k = (n - (k + 1)) + 1 by omega] at HG
          have b1 : (acc.length + 1) * 40 ≤ 140737488355328 := by omega
          have b2 : acc.length + 1 ≤ maxLen := by simp only [maxLen]; omega
          by_cases hp : p < b.size
          · have d5 : decide ((b.size : Int) ≤ (p : Int)) = false := by simp; omega
            have d6 : decide (b.size ≤ p) = false := by simp; omega
            have hpi : (p : Int) < (b.size : Int) := by omega
            have hcc := bAt_eq b p hp
            have hc256 := bAt_lt b p
            have HST := Lib.hid (show readGo b (n - (k + 1) + 1) p acc = _ from by rw [readGo, if_neg (by omega)])
            rw [HST.out] at HG
            clear HST
            have HT1 := Lib.hid (fun w => refGetText_any b hml ((p : Int) + 1) 48 w)
            have HTT := Lib.hid (fun q w => refGetText_any b hml ((q : Nat) : Int) 48 w)
            have HOK := Lib.hid (fun (a : Int) s q => getT_ok (b := b) (a := a) (s := s) (p := q))
            generalize bAt b p = c at *
            unfold tupT at HT1 HTT
            by_cases hc1 : 1 < c
            · rw [if_pos hc1] at HG
              have q1 : decide ((1 : Int) < (c : Int)) = true := by simp; omega
              go_wp2
              go_ret2
              exact ⟨_, by rw [HG.out]; rfl, by rw [HG.out]; exact WMine.nil _ _, HB.out⟩
            · rw [if_neg hc1] at HG
              have q1 : decide ((1 : Int) < (c : Int)) = false := by simp; omega
              obtain ⟨⟨s1, p1, e1⟩, hr1⟩ : ∃ r, r = getT b ((p : Int) + 1) 48 := ⟨_, rfl⟩
              rw [← hr1] at HG HT1
              simp only at HG HT1
              by_cases he1 : e1 = 0
              · subst he1
                rw [if_neg (by simp)] at HG
                have hs1 := (HOK.out _ _ _ hr1.symm).1
                have hp1 := (HOK.out _ _ _ hr1.symm).2
                clear hr1
                by_cases hc : c = 1
                · have q2 : ((c : Int) == 1) = true := by rw [hc]; rfl
                  rw [if_pos hc] at HG
                  have HT2 := Lib.hid trivial
                  have HSR := Lib.hid HG.out
                  clear hc HTT
                  go_wp2_with (first
                    | (go_at_call 78; (with_reducible refine (HT1.out _).mono ?_); rintro e w' ⟨rfl, rfl⟩)
                    | (go_at_call 78; (with_reducible refine (HT2.out _).mono ?_); rintro e w' ⟨rfl, rfl⟩)
                    | (at_builtin; (refine append_tup rfl _ _ 25 rfl w.heap.size 55 (.agg #[.string ⟨#[]⟩, .bool false, .string ⟨#[]⟩]) 3 40 Tryd.underlying25 infoW rfl (by decide) u7 _ _ rfl (show World.ownsRow _ w.heap.size _ 3 u7 acc.length (flatW acc) from owns_below (owns_below HO.out (bel_alloc _ _)) (bel_alloc _ _)) (wr.heap.size + 1) (wrC ⟨s1, true, ByteArray.empty⟩) rfl rfl ?c0 ?c1 b1 b2 ?c2 ?_); (case c0 => exact lies_two wr _ (wrC ⟨s1, true, ByteArray.empty⟩) _); (case c1 => simp [wrC, Value.oneCell']); (case c2 => (simp; omega)); intro g cap2 w3 hown3 hgrow3 hat3 hlt3))
                  have HB3 := Lib.hid (below_append ((HB.out.alloc hbs (.cells (wrC ⟨s1, true, ByteArray.empty⟩).toArray 55)).alloc (by simp; omega) (.cells (wrC ⟨s1, true, ByteArray.empty⟩).toArray 55)) hgrow3 (by simp; omega) (fun t ht => (owns_lt HO.out t ht).2))
                  refine ⟨⟨k + 1, p1, acc ++ [⟨s1, true, ByteArray.empty⟩], by go_num, by go_num, ⟨by omega, hp1, by simp; omega, ?_, HSR.out, ?_, HB3.out⟩⟩, by simp [intOf]; omega⟩
                  · intro z hz
                    rcases List.mem_append.1 hz with hz | hz
                    · exact HSH.out z hz
                    · rw [List.mem_singleton.1 hz]; exact hs1
                  · unfold WMine
                    rw [flatW_snoc, List.length_append, List.length_singleton, hlen]
                    rw [hlen] at hown3
                    exact hown3
                · have q2 : ((c : Int) == 1) = false := by simp; omega
                  rw [if_neg hc] at HG
                  have HT2 := Lib.hid (HTT.out p1)
                  obtain ⟨⟨s2, p2, e2⟩, hr2⟩ : ∃ r, r = getT b ((p1 : Nat) : Int) 48 := ⟨_, rfl⟩
                  rw [← hr2] at HG HT2
                  simp only at HG HT2
                  clear hc HTT
                  by_cases he2 : e2 = 0
                  · subst he2
                    rw [if_neg (by simp)] at HG
                    have hp2 := (HOK.out _ _ _ hr2.symm).2
                    have HSR := Lib.hid HG.out
                    clear hr2
                    go_wp2_with (first
                      | (go_at_call 78; (with_reducible refine (HT1.out _).mono ?_); rintro e w' ⟨rfl, rfl⟩)
                      | (go_at_call 78; (with_reducible refine (HT2.out _).mono ?_); rintro e w' ⟨rfl, rfl⟩)
                      | (at_builtin; (refine append_tup rfl _ _ 25 rfl w.heap.size 55 (.agg #[.string ⟨#[]⟩, .bool false, .string ⟨#[]⟩]) 3 40 Tryd.underlying25 infoW rfl (by decide) u7 _ _ rfl (show World.ownsRow _ w.heap.size _ 3 u7 acc.length (flatW acc) from owns_below (owns_below HO.out (bel_alloc _ _)) (bel_alloc _ _)) (wr.heap.size + 1) (wrC ⟨s1, false, s2⟩) rfl rfl ?c0 ?c1 b1 b2 ?c2 ?_); (case c0 => exact lies_two wr _ (wrC ⟨s1, false, s2⟩) _); (case c1 => simp [wrC, Value.oneCell']); (case c2 => (simp; omega)); intro g cap2 w3 hown3 hgrow3 hat3 hlt3))
                    have HB3 := Lib.hid (below_append ((HB.out.alloc hbs (.cells (wrC ⟨s1, false, s2⟩).toArray 55)).alloc (by simp; omega) (.cells (wrC ⟨s1, false, s2⟩).toArray 55)) hgrow3 (by simp; omega) (fun t ht => (owns_lt HO.out t ht).2))
                    refine ⟨⟨k + 1, p2, acc ++ [⟨s1, false, s2⟩], by go_num, by go_num, ⟨by omega, hp2, by simp; omega, ?_, HSR.out, ?_, HB3.out⟩⟩, by simp [intOf]; omega⟩
                    · intro z hz
                      rcases List.mem_append.1 hz with hz | hz
                      · exact HSH.out z hz
                      · rw [List.mem_singleton.1 hz]; exact hs1
                    · unfold WMine
                      rw [flatW_snoc, List.length_append, List.length_singleton, hlen]
                      rw [hlen] at hown3
                      exact hown3
                  · rw [if_pos he2] at HG
                    have q3 : ((e2 : Int) == 0) = false := by simpa using he2
                    clear he2 hr2
                    go_wp2_with (first
                      | (go_at_call 78; (with_reducible refine (HT1.out _).mono ?_); rintro e w' ⟨rfl, rfl⟩)
                      | (go_at_call 78; (with_reducible refine (HT2.out _).mono ?_); rintro e w' ⟨rfl, rfl⟩))
                    go_ret2
                    exact ⟨_, by rw [HG.out]; rfl, by rw [HG.out]; exact WMine.nil _ _, HB.out.alloc hbs _⟩
              · rw [if_pos he1] at HG
                have q3 : ((e1 : Int) == 0) = false := by simpa using he1
                clear he1 hr1 HTT
                go_wp2_with (go_at_call 78; (with_reducible refine (HT1.out _).mono ?_); rintro e w' ⟨rfl, rfl⟩)
                go_ret2
                exact ⟨_, by rw [HG.out]; rfl, by rw [HG.out]; exact WMine.nil _ _, HB.out.alloc hbs _⟩
          · have d5 : decide ((b.size : Int) ≤ (p : Int)) = true := by simp; omega
            have d6 : decide (b.size ≤ p) = true := by simp; omega
            have HST := Lib.hid (show readGo b (n - (k + 1) + 1) p acc = ([], 3) by rw [readGo, if_pos (by omega)])
            go_wp2
            go_ret2
            exact ⟨_, by rw [HG.out, HST.out]; rfl, by rw [HG.out, HST.out]; exact WMine.nil _ _, HB.out⟩
        · have d3 : decide ((k : Int) < (n : Int)) = false := by simp; omega
          have d4 : decide (k < n) = false := by simp; omega
          rw [show n - k = 0 by omega, readGo] at HG
          by_cases hpe : p = b.size
          · rw [if_pos hpe] at HG
            have q1 : ((p : Int) == (b.size : Int)) = true := by simp; omega
            have q2 : ((p : Int) != (b.size : Int)) = false := by simp; omega
            obtain ⟨va, vc, hv⟩ := owns_slice HO.out
            subst hv
            have HRT := Lib.hid (refRight_any va acc vc (by simp only [maxLen]; omega) (fun x hx => Nat.le_trans (HSH.out x hx) (by decide)) wr (Tup.At.of_owns HO.out))
            clear hpe hlen
            by_cases hc : rightW acc = 0
            · rw [if_pos hc] at HG
              rw [hc] at HRT
              go_wp2_with (go_at_call 46; (with_reducible refine HRT.out.mono ?_); rintro e w3 ⟨rfl, hb3⟩)
              go_ret2
              exact ⟨_, by rw [HG.out]; rfl, by rw [HG.out]; exact owns_below HO.out hb3, HB.out.trans (hb3.mono hbs)⟩
            · rw [if_neg hc] at HG
              generalize rightW acc = cc at *
              have q3 : ((cc : Int) == 0) = false := by simpa using hc
              clear hc
              go_wp2_with (go_at_call 46; (with_reducible refine HRT.out.mono ?_); rintro e w3 ⟨rfl, hb3⟩)
              go_ret2
              exact ⟨_, by rw [HG.out]; rfl, by rw [HG.out]; exact WMine.nil _ _, HB.out.trans (hb3.mono hbs)⟩
          · rw [if_neg hpe] at HG
            have q1 : ((p : Int) == (b.size : Int)) = false := by simp; omega
            have q2 : ((p : Int) != (b.size : Int)) = true := by simp; omega
            clear hpe
            go_wp2
            go_ret2
            exact ⟨_, by rw [HG.out]; rfl, by rw [HG.out]; exact WMine.nil _ _, HB.out⟩
  · have HE := Lib.hid (show readW b = ([], (getN b 0).2.2) by unfold readW; rw [if_pos h0])
    unfold tupN at HGN
    generalize getN b 0 = r at *
    have q1 : ((r.2.2 : Int) == 0) = false := by simpa using h0
    clear h0
    go_enter Tryd.func44, Tryd.ntmps44
    go_wp2_with (go_at_call 77; (with_reducible refine (HGN.out _).mono ?_); rintro e w' ⟨rfl, rfl⟩)
    go_ret2
    exact ⟨_, by rw [HE.out]; rfl, by rw [HE.out]; exact WMine.nil _ _, Below.refl _ _⟩
end Go.Proofs.YtligapgjdpdihaaDoor.Batch
