/-
  What the document's own Bytes answers of any writes.
-/
import Derived.Test.YtjbgiolcfammkaaDoorBatchD
import Derived.Test.YtjbgiolcfammkaaDoorLayC
import Derived.Test.YtjbgiolcfammkaaDoorJoinM
namespace Go.Proofs.YtjbgiolcfammkaaDoor.Batch
open Go.RowKit
open Own Tup RefKeys RefSort Lay LayM
open Go.Proofs.YtjbgiolcfammkaaDoor.Region (fill Then Deps Each wp_region_is_tail)

/-- a write's bytes -/
def itemB (x : Wr) : ByteArray := if x.del then ⟨#[1]⟩ ++ textS x.key else ⟨#[0]⟩ ++ textS x.key ++ textS x.val
def layTo (l : List Wr) (k : Nat) : ByteArray := (l.take k).foldl (fun b x => b ++ itemB x) (numS l.length)
def layB (l : List Wr) : ByteArray := layTo l l.length
def bytesW (l : List Wr) : ByteArray × Nat := if rightW l ≠ 0 then (ByteArray.empty, rightW l) else (layB l, 0)
theorem layTo_succ (l : List Wr) (k : Nat) (h : k < l.length) : layTo l (k + 1) = layTo l k ++ itemB l[k] := by
  unfold layTo; rw [List.take_succ_eq_append_getElem h, List.foldl_append]; rfl
theorem rightGo_ok : ∀ (l : List Wr) (p : Option ByteArray), rightGo p l = 0 → ∀ x ∈ l, keyRight x.key = true ∧ x.val.size ≤ 48
  | [], _, _, x, hx => by simp at hx
  | y :: r, p, h, x, hx => by
    rw [rightGo] at h
    split at h
    · simp at h
    split at h
    · simp at h
    split at h
    · simp at h
    rename_i h1 h2 h3
    rcases List.mem_cons.1 hx with rfl | hx
    · exact ⟨by simpa using h1, by omega⟩
    · exact rightGo_ok r _ h x hx
theorem rightW_ok {l : List Wr} (h : rightW l = 0) : 1 ≤ l.length ∧ l.length ≤ 8 ∧ rightGo none l = 0 := by
  unfold rightW at h
  split at h
  · simp at h
  · exact ⟨by omega, by omega, h⟩
theorem key_short {s : ByteArray} (h : keyRight s = true) : s.size ≤ 48 := by
  have := RuneM.runes_size_le s
  unfold keyRight at h
  simp only [Bool.and_eq_true, decide_eq_true_eq] at h
  omega
theorem item_size {x : Wr} (hk : x.key.size ≤ 48) (hv : x.val.size ≤ 48) : (itemB x).size ≤ 120 := by
  have l1 := (numS_len (x.key.size % 4294967296)).2
  have l2 := (numS_len (x.val.size % 4294967296)).2
  have e1 : (⟨#[1]⟩ : ByteArray).size = 1 := rfl
  have e0 : (⟨#[0]⟩ : ByteArray).size = 1 := rfl
  unfold itemB
  split <;> simp only [ByteArray.size_append, textS, e1, e0] <;> omega
theorem layTo_size (l : List Wr) (h : ∀ x ∈ l, x.key.size ≤ 48 ∧ x.val.size ≤ 48) : ∀ k, k ≤ l.length → (layTo l k).size ≤ 5 + k * 120
  | 0, _ => by have := (numS_len l.length).2; simpa [layTo] using this
  | k + 1, hk => by
    have h1 := layTo_size l h k (by omega)
    rw [layTo_succ l k (by omega), ByteArray.size_append]
    have h2 := h l[k] (List.getElem_mem _)
    have := item_size h2.1 h2.2
    omega
set_option maxRecDepth 100000 in
set_option maxHeartbeats 8000000 in
theorem refBytes_any (a : Option Addr) (l : List Wr) (cap : Nat) (hl : l.length ≤ maxLen) (hz : ∀ x ∈ l, x.key.size ≤ 8796093022208) (w : World) (hr : WAt w a l) :
    Calls Tryd.prog 23 #[.slice a l.length cap] w fun e w' => e = .returned (.tuple #[.string (bytesW l).1, .int .i64 (((bytesW l).2 : Nat) : Int)]) ∧ Below w.heap.size w w' := by
  have HRT := Lib.hid (refRight_any a l cap hl hz w hr)
  unfold maxLen at hl
  have HR := Lib.hid hr
  clear hr hz
  by_cases hc : rightW l = 0
  · have HE := Lib.hid (show bytesW l = (layB l, 0) by unfold bytesW; rw [if_neg (by simp [hc])])
    obtain ⟨hl1, hl8, hok⟩ := rightW_ok hc
    have HOK : Hid (∀ x ∈ l, x.key.size ≤ 48 ∧ x.val.size ≤ 48) := fun x hx => ⟨key_short (rightGo_ok l none hok x hx).1, (rightGo_ok l none hok x hx).2⟩
    have HNM := Lib.hid (fun w => refNum_any l.length (by omega) w)
    rw [hc] at HRT
    clear hok hc
    obtain ⟨n, hnn⟩ : ∃ n, n = l.length := ⟨_, rfl⟩
    rw [← hnn] at HRT HNM hl8 hl1 ⊢
    have HNL := Lib.hid hnn
    clear hl hnn
    have hm : (n : Int) % 4294967296 = (n : Int) := by omega
    go_enter Tryd.func23, Tryd.ntmps23
    go_wp2_with fail
    go_at_call 12
    with_reducible refine HRT.out.mono ?_
    rintro e w1 ⟨rfl, hb1⟩
    have HB1 := Lib.hid hb1
    clear hb1
    go_wp2_with fail
    go_at_call 40
    with_reducible refine (HNM.out _).mono ?_
    rintro e w2 ⟨rfl, hb2⟩
    have HB2 := Lib.hid (HB1.out.trans (hb2.mono HB1.out.size))
    clear hb2
    go_wp2
    go_loopw [5, 6] (fun s i wr => ∃ k : Nat, i = .int .i64 (k : Int) ∧ k ≤ n ∧ s = .string (layTo l k) ∧ Below w.heap.size w wr) (fun _ i _ => n - (intOf i).toNat)
    case atStart => exact ⟨0, rfl, Nat.zero_le _, by rw [layTo, ← HNL.out]; rfl, HB2.out⟩
    case round =>
      obtain ⟨k, rfl, hk, rfl, hbel⟩ := hrel
      have HB := Lib.hid hbel
      clear hbel
      by_cases hlt : k < n
      · have h1 : k < l.length := by rw [← HNL.out]; exact hlt
        have d3 : decide ((k : Int) < (n : Int)) = true := by simp; omega
        have d4 : decide (k < n) = true := by simp; omega
        have hsz := layTo_size l HOK.out k (by omega)
        obtain ⟨hx1, hx2⟩ := HOK.out _ (List.getElem_mem h1)
        have HS := Lib.hid (layTo_succ l k h1)
        obtain ⟨b, off, ha, c0, c1, c2⟩ := WAt.get (Tup.At.below HR.out HB.out) (List.getElem?_eq_getElem h1)
        generalize l[k] = x at *
        subst ha
        clear h1
        have HC := Lib.hid (And.intro c0 (And.intro c1 c2))
        have HT1 := Lib.hid (fun w => refText_any x.key (by omega) w)
        have HT2 := Lib.hid (fun w => refText_any x.val (by omega) w)
        have z1 : (textS x.key).size ≤ 53 := by have := (numS_len (x.key.size % 4294967296)).2; rw [textS, ByteArray.size_append]; omega
        have z2 : (textS x.val).size ≤ 53 := by have := (numS_len (x.val.size % 4294967296)).2; rw [textS, ByteArray.size_append]; omega
        have e1 : (⟨#[1]⟩ : ByteArray).size = 1 := rfl
        have e0 : (⟨#[0]⟩ : ByteArray).size = 1 := rfl
        generalize layTo l k = out at *
        clear hx1 hx2
        cases hdel : x.del with
        | true =>
          have HI := Lib.hid (show itemB x = ⟨#[1]⟩ ++ textS x.key by unfold itemB; rw [hdel]; rfl)
          rw [hdel] at c1
          go_wp2_with (go_at_call 41; (with_reducible refine (HT1.out _).mono ?_); rintro e w3 ⟨rfl, hb3⟩)
          go_roundw
          case rel => exact ⟨k + 1, by go_num, by omega, by rw [HS.out, HI.out], HB.out.trans (hb3.mono HB.out.size)⟩
          case measure => simp [intOf]; omega
        | false =>
          have HI := Lib.hid (show itemB x = ⟨#[0]⟩ ++ textS x.key ++ textS x.val by unfold itemB; rw [hdel]; rfl)
          rw [hdel] at c1 HC
          go_wp2
          refine wp_region_is_tail 16 [36, 37, 38, 39, 40, 41, 42, 43, 44, 45, 46, 47, 48, 49, 50, 51] (fun w' => Below wr.heap.size wr w')
            [.string out, .slice (some ⟨b, off, none⟩) n cap, .int .i64 (k : Int), .pointer (some ⟨b, off + k * 3, none⟩), .pointer (some ⟨b, off + k * 3, none⟩), .string x.key, .string (textS x.key), .string (⟨#[0]⟩ ++ textS x.key),
             .slice (some ⟨b, off, none⟩) n cap, .int .i64 (k : Int), .pointer (some ⟨b, off + k * 3, none⟩), .pointer (some ⟨b, off + k * 3 + 2, none⟩), .string x.val, .string (textS x.val), .string (⟨#[0]⟩ ++ textS x.key ++ textS x.val), .string (out ++ (⟨#[0]⟩ ++ textS x.key ++ textS x.val))]
            (by kernel_rfl) (by kernel_rfl) (by kernel_rfl) (by decide) rfl (by decide) (by simp) (Below.refl _ _).drew ?each ?tail
          case each =>
            simp only [List.take_succ_cons, List.take_zero, Each]
            repeat' (first | exact trivial | refine And.intro ?_ ?_)
            all_goals
              intro ys wx hBx hdeps
              simp only [Deps, Region.binds, List.getD_cons_zero, List.getD_cons_succ, forall_const, and_true] at hdeps
              have c0 : wx.cell? ⟨b, off + k * 3, none⟩ = some (.string x.key) := by rw [hBx.cell (p := ⟨b, off + k * 3, none⟩) (block_lt_of_cell HC.out.1)]; exact HC.out.1
              have c2 : wx.cell? ⟨b, off + k * 3 + 2, none⟩ = some (.string x.val) := by rw [hBx.cell (p := ⟨b, off + k * 3 + 2, none⟩) (block_lt_of_cell HC.out.2.2)]; exact HC.out.2.2
              simp only [hdeps, fill, List.foldl_cons, List.foldl_nil, Act.put, List.setIfInBounds_toArray, List.set_cons_succ, List.set_cons_zero]
              first
                | (go_wp2_with fail; exact ⟨_, rfl, rfl, hBx, Below.refl _ _⟩)
                | (go_wp2_with (go_at_call 41; (with_reducible refine (HT1.out _).mono ?_); rintro e w3 ⟨rfl, hn⟩); exact ⟨_, rfl, rfl, hBx.trans (hn.mono hBx.size), hn⟩)
                | (go_wp2_with (go_at_call 41; (with_reducible refine (HT2.out _).mono ?_); rintro e w3 ⟨rfl, hn⟩); exact ⟨_, rfl, rfl, hBx.trans (hn.mono hBx.size), hn⟩)
          case tail =>
            intro ys wx hBx hV
            have h51 : ys 51 = .string (out ++ (⟨#[0]⟩ ++ textS x.key ++ textS x.val)) := hV 15 (by decide)
            simp only [h51, fill, List.drop_succ_cons, List.drop_zero, List.foldl_cons, List.foldl_nil, Act.put, List.setIfInBounds_toArray, List.set_cons_succ, List.set_cons_zero]
            go_wp2
            refine ⟨⟨k + 1, by go_num, by omega, by rw [HS.out, HI.out], HB.out.trans (hBx.mono HB.out.size)⟩, by simp [intOf]; omega⟩
      · have d3 : decide ((k : Int) < (n : Int)) = false := by simp; omega
        have d4 : decide (k < n) = false := by simp; omega
        have HX := Lib.hid (show layTo l k = layB l by unfold layB; rw [← HNL.out]; congr 1; omega)
        go_wp2
        go_ret2
        exact ⟨by rw [HE.out, ← HX.out]; rfl, HB.out⟩
  · have HE := Lib.hid (show bytesW l = (ByteArray.empty, rightW l) by unfold bytesW; rw [if_pos hc])
    have q1 : (((rightW l : Nat) : Int) == 0) = false := by simpa using hc
    generalize rightW l = c at *
    clear hc
    go_enter Tryd.func23, Tryd.ntmps23
    go_wp2_with (go_at_call 12; (with_reducible refine HRT.out.mono ?_); rintro e w1 ⟨rfl, hb1⟩)
    go_ret2
    exact ⟨by rw [HE.out]; rfl, hb1⟩
end Go.Proofs.YtjbgiolcfammkaaDoor.Batch
