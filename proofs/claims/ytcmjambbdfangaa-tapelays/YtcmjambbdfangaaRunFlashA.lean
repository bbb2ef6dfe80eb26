/-
  Joined texts: FlashA, Txt, FlashR, FlashS, FlashT, FlashU, FlashV, FlashW, FlashY, FlashZ, FlashE.
-/
import Derived.Test.YtcmjambbdfangaaBytes
import Derived.Test.YtcmjambbdfangaaRunCommon
import Derived.Test.YtcmjambbdfangaaRunTup
import Derived.Test.YtcmjambbdfangaaRunGeomA
import Derived.Test.YtcmjambbdfangaaRunRegion
import Derived.Deep.QuietTactic
import Derived.BigQuiet
/-
  What the document's own Fill and Blank answer.
-/
set_option linter.unusedVariables false
set_option linter.unusedSimpArgs false
namespace Go.Proofs.Ytcmjambbdfangaa.Flash
open Go.RowKit
open Own Tup Bytes

def bs (l : List UInt8) : ByteArray := ⟨l.toArray⟩
theorem bs_size (l : List UInt8) : (bs l).size = l.length := rfl
theorem bs_list (b : ByteArray) : bs b.data.toList = b := by cases b; simp [bs]
theorem list_bs (l : List UInt8) : (bs l).data.toList = l := by simp [bs]
theorem bs_append (a b : List UInt8) : bs a ++ bs b = bs (a ++ b) := by
  apply ByteArray.ext
  simp [bs]
theorem bs_inj {a b : List UInt8} : bs a = bs b ↔ a = b := by
  constructor
  · intro h
    have := congrArg (fun x : ByteArray => x.data.toList) h
    simpa [bs] using this
  · rintro rfl; rfl
theorem info8 : (Try.prog.info? 5).map (fun i => (i.zero, i.size, i.bytes)) = some (some (.int .u8 0), 1, 1) := by kernel_rfl
def fillAt (c : UInt8) (n k : Nat) : List UInt8 := List.replicate k c ++ List.replicate (n - k) 0
theorem fillAt_set (c : UInt8) {n k : Nat} (h : k < n) : (fillAt c n k).set k c = fillAt c n (k + 1) := by
  unfold fillAt
  rw [show n - k = (n - (k + 1)) + 1 by omega, List.replicate_succ, List.set_append_right _ _ (by simp), List.length_replicate, Nat.sub_self, List.set_cons_zero, List.replicate_succ', List.append_assoc]; rfl
theorem fillAt_length (c : UInt8) {n k : Nat} (h : k ≤ n) : (fillAt c n k).length = n := by simp [fillAt]; omega
theorem max2 {P : Program} (w : World) (ts : Array TypeId) (t : TypeId) (x k m : Int) (hm : m = max x k) : (Builtin.max_ ts t #[.int .i64 x, .int .i64 k]).run P w = .ok (.int .i64 m) w := by
  have e : (Builtin.max_ ts t #[.int .i64 x, .int .i64 k]).run P w = .ok (.int .i64 (if x < k then k else x)) w := by
    simp [Builtin.max_, Builtin.max2]
  rw [e, hm]; congr 2; split <;> omega
set_option maxRecDepth 100000 in
set_option maxHeartbeats 4000000 in
theorem fill_any (c : UInt8) (x : Int) (n : Nat) (hx : x = (n : Int) ∨ (x ≤ 0 ∧ n = 0)) (hn : n ≤ 1000000) (w : World) :
    Calls Try.prog 58 #[.int .u8 (c.toNat : Int), .int .i64 x] w fun e w' => e = .returned (.string (bs (List.replicate n c))) ∧ Below w.heap.size w w' := by
  have hmx := fun w ts t => max2 (P := Try.prog) w ts t x 0 (n : Int) (by omega)
  obtain ⟨i0, hi, hz0, hz1, hz2⟩ := info_parts info8
  obtain ⟨w1, hmk, hown, hgr⟩ := run_makeSlice_full (P := Try.prog) w w.heap.size 78 5 i0 _ 1 Try.underlying78 hi hz0 hz1 .i64 .i64 n (by omega) (by rw [hz2]; omega) (by simp only [maxLen]; omega) (Nat.le_refl _)
  have HR1 := Lib.hid (Row8.of_make hown)
  have HB1 := Lib.hid (below_make hgr)
  clear hown hgr hi hz0 hz1 hz2 hx
  go_enter Try.func58, Try.ntmps58
  go_wp2
  go_loopw [6] (fun i wr => ∃ k : Nat, k ≤ n ∧ i = .int .i64 (k : Int) ∧ Below w.heap.size w wr ∧ Row8 wr w.heap.size (fillAt c n k)) (fun i _ => n - (intOf i).toNat)
  case atStart => exact ⟨0, Nat.zero_le _, rfl, HB1.out, HR1.out⟩
  case round =>
    obtain ⟨k, hk, rfl, hB, hR⟩ := hrel
    clear hmk HR1 HB1 hmx
    by_cases hlt : k < n
    · have d1 : decide ((k : Int) < (n : Int)) = true := by simp; omega
      have d2 : decide (k < n) = true := by simp; omega
      obtain ⟨g1, g2⟩ := hR k (by rw [fillAt_length c hk]; exact hlt)
      have HS := Lib.hid (hR.set k c (by rw [fillAt_length c hk]; exact hlt))
      rw [fillAt_set c hlt] at HS
      have HB := Lib.hid (hB.setCell (p := ⟨w.heap.size, k, none⟩) (Nat.le_refl _) (.int .u8 (c.toNat : Int)))
      clear hR hB
      go_wp2
      refine ⟨⟨k + 1, by omega, by go_num, HB.out, HS.out⟩, by simp [intOf]; omega⟩
    · obtain rfl : k = n := by omega
      have d1 : decide ((k : Int) < (k : Int)) = false := by simp
      have htx := hR.text (P := Try.prog) 78 9 5 k Try.underlying78 Try.underlying5 Try.underlying9 k (fillAt_length c hk)
      have he : fillAt c k k = List.replicate k c := by simp [fillAt]
      rw [he] at htx
      have HB := Lib.hid hB
      clear hR hB he
      go_wp2
      go_ret
      exact ⟨rfl, HB.out⟩
theorem blank_snoc (b : ByteArray) (k : Nat) (h : k < b.size) : blank (b.data.toList.take (k + 1)) = (blank (b.data.toList.take k) && (b[k] == 255)) := by
  have hl : k < b.data.toList.length := by simpa using h
  rw [List.take_succ_eq_append_getElem hl]
  simp only [blank, List.all_append, List.all_cons, List.all_nil, Bool.and_true]
  rfl
theorem blank_drop (b : ByteArray) (k : Nat) (h : k < b.size) (h2 : (b[k] == 255) = false) : blank b.data.toList = false := by
  unfold blank
  rw [List.all_eq_false]
  exact ⟨b[k], by simp [ByteArray.getElem_eq_getElem_data], by simpa using h2⟩
end Go.Proofs.Ytcmjambbdfangaa.Flash
/-
  Texts that are cut; the book's Short.
-/
set_option linter.unusedVariables false
set_option linter.unusedSimpArgs false
namespace Go.Proofs.Ytcmjambbdfangaa.Txt
open Go.RowKit
open Flash (bs bs_size bs_list list_bs cut)
open Bytes
theorem min2' {P : Program} (w : World) (ts : Array TypeId) (t : TypeId) (x k m : Int) (hm : m = min x k) : (Builtin.min_ ts t #[.int .i64 x, .int .i64 k]).run P w = .ok (.int .i64 m) w := by
  have e : (Builtin.min_ ts t #[.int .i64 x, .int .i64 k]).run P w = .ok (.int .i64 (if k < x then k else x)) w := by
    simp [Builtin.min_, Builtin.min2]
  rw [e, hm]; congr 2; split <;> omega
theorem cutS (b : List UInt8) (k : Nat) (x : Int) (hx : x = (k : Int)) (hk : k ≤ b.length) (w : World) : (Instr.slice 9 (.string (bs b)) none (some (.int .i64 x)) none).run Try.prog w = .ok (.string (bs (b.take k))) w := by
  subst hx
  rw [run_slice_string_h (P := Try.prog) w 9 (bs b) Try.underlying9 .i64 (k : Int) (by omega) (by rw [bs_size]; omega)]
  congr 2
  apply ByteArray.ext
  rw [ByteArray.data_extract]
  simp [bs]
set_option maxRecDepth 100000 in
theorem shortB_any (s : ByteArray) (hs : s.size ≤ maxLen) (n : Nat) (hn : n ≤ 1000000) (x : Int) (hx : x = (n : Int)) (w : World) :
    Calls Try.prog 18 #[.string s, .int .i64 x] w fun e w' => e = .returned (.string (bs (s.data.toList.take n))) ∧ w = w' := by
  unfold maxLen at hs
  subst hx
  obtain ⟨k, hk⟩ : ∃ k : Nat, (k : Int) = min (s.size : Int) (n : Int) := ⟨min s.size n, by omega⟩
  have hmn := fun w ts t => min2' (P := Try.prog) w ts t (s.size : Int) (n : Int) (k : Int) hk
  have hsl := cutS s.data.toList k (k : Int) rfl (by simp; omega)
  rw [bs_list] at hsl
  have HE := Lib.hid (show s.data.toList.take k = s.data.toList.take n by
    by_cases h : s.size ≤ n
    · rw [List.take_of_length_le (show s.data.toList.length ≤ n by simpa using h), List.take_of_length_le (by simp; omega)]
    · rw [show k = n by omega])
  clear hk
  go_enter Try.func18, Try.ntmps18
  go_wp2
  go_ret
  rw [HE.out]
  exact ⟨rfl, rfl⟩
theorem dropS (b : List UInt8) (k : Nat) (x : Int) (hx : x = (k : Int)) (hk : k ≤ b.length) (w : World) : (Instr.slice 9 (.string (bs b)) (some (.int .i64 x)) none none).run Try.prog w = .ok (.string (bs (b.drop k))) w := by
  subst hx
  rw [run_slice_string_l (P := Try.prog) w 9 (bs b) Try.underlying9 .i64 (k : Int) (by omega) (by rw [bs_size]; omega)]
  congr 2
  apply ByteArray.ext
  rw [ByteArray.data_extract]
  simp [bs]
  exact List.take_of_length_le (by rw [List.length_drop]; exact Nat.le_refl _)
theorem cutSS (b : List UInt8) (l h : Nat) (x y : Int) (hx : x = (l : Int)) (hy : y = (h : Int)) (h1 : l ≤ h) (h2 : h ≤ b.length) (w : World) : (Instr.slice 9 (.string (bs b)) (some (.int .i64 x)) (some (.int .i64 y)) none).run Try.prog w = .ok (.string (bs (cut b l (h - l)))) w := by
  subst hx hy
  rw [run_slice_string (P := Try.prog) w 9 (bs b) .i64 .i64 (l : Int) (h : Int) Try.underlying9 (by omega) (by omega) (by rw [bs_size]; omega)]
  congr 2
  apply ByteArray.ext
  rw [ByteArray.data_extract]
  simp [bs, cut]
end Go.Proofs.Ytcmjambbdfangaa.Txt
/-
  The document's own device in memory, and what its small calls answer.
-/
set_option linter.unusedVariables false
set_option linter.unusedSimpArgs false
namespace Go.Proofs.Ytcmjambbdfangaa.Flash
open Go.RowKit
open Go.Proofs.Ytcmjambbdfangaa.Own
open Tup Bytes Foot

theorem _root_.Go.Proofs.Ytcmjambbdfangaa.Bytes.Row8.grows {S : Nat → Prop} {w w' : World} {B : Nat} {l : List UInt8} (h : Row8 w B l) (g : Grows S w w') (hn : ¬ S B) : Row8 w' B l := fun j hj => by
  have hB : B < w.heap.size := block_lt_of_cell (h j hj).1
  have e := g.block B hB hn
  obtain ⟨h1, h2⟩ := h j hj
  simp only [World.cell?, World.frozen?] at h1 h2 ⊢
  rw [e]; exact ⟨h1, h2⟩
theorem owns_grows {S : Nat → Prop} {w w' : World} {base : Nat} {e : TypeId} {size : Nat} {v : Value} {n : Nat} {xs : List Value} (h : w.ownsRow base e size v n xs) (g : Grows S w w') (hn : ∀ k, v.ownBlock = some k → ¬ S k) : w'.ownsRow base e size v n xs := by
  refine ⟨h.1, ?_⟩
  rcases h.2 with hv | ⟨b, cap, cur, hv, hg, hh, r⟩
  · exact .inl hv
  · refine .inr ⟨b, cap, cur, hv, hg, ?_, r⟩
    rw [g.block b (Array.getElem?_eq_some_iff.1 hh).1 (hn b (by rw [hv]; rfl))]; exact hh
theorem owns_lt {w : World} {base : Nat} {e : TypeId} {size : Nat} {v : Value} {n : Nat} {xs : List Value} (h : w.ownsRow base e size v n xs) {k : Nat} (hk : v.ownBlock = some k) : k < w.heap.size := by
  rcases h.2 with ⟨hv, _⟩ | ⟨b, cap, cur, hv, hg, hh, r⟩
  · rw [hv] at hk; simp [Value.ownBlock] at hk
  · rw [hv] at hk
    have : b = k := by simpa [Value.ownBlock] using hk
    subst this
    exact (Array.getElem?_eq_some_iff.1 hh).1
/-- what is pending, as cells -/
def waitC (l : List (Nat × List UInt8)) : List Value := l.flatMap fun x => [.int .i64 (x.1 : Int), .string (bs x.2)]
theorem waitC_length (l : List (Nat × List UInt8)) : (waitC l).length = l.length * 2 := by
  induction l with
  | nil => rfl
  | cons x r ih => simp only [waitC, List.flatMap_cons, List.length_append] at ih ⊢; simp only [List.length_cons, List.length_nil, ih]; omega
theorem waitC_append (a b : List (Nat × List UInt8)) : waitC (a ++ b) = waitC a ++ waitC b := by simp [waitC]
theorem waitC_get {l : List (Nat × List UInt8)} {k : Nat} (h : k < l.length) : (waitC l)[2 * k]? = some (.int .i64 (l[k].1 : Int)) ∧ (waitC l)[2 * k + 1]? = some (.string (bs l[k].2)) := by
  induction l generalizing k with
  | nil => simp at h
  | cons x r ih =>
    cases k with
    | zero => exact ⟨rfl, rfl⟩
    | succ k =>
      have := ih (k := k) (by simpa using h)
      simp only [waitC, List.flatMap_cons] at this ⊢
      rw [show 2 * (k + 1) = 2 * k + 2 by omega, show 2 * k + 2 + 1 = (2 * k + 1) + 2 by omega]
      exact this
/-- the document's device, at p: its bytes at bB, what is pending in wv -/
structure RAt (w : World) (p : Nat) (d : Dev) (bB cap : Nat) (wv : Value) (fz : Nat) : Prop where
  var : Var w p 102 [.int .i64 (d.pg : Int), .int .i64 (d.pgs : Int), .int .i64 (d.rgs : Int), .slice (some ⟨bB, 0, none⟩) d.img.length cap, wv, .bool d.fuse.isSome, .int .i64 (fz : Int), .bool d.down]
  row : Row8 w bB d.img
  lt : bB < w.heap.size
  wait : w.ownsRow 0 165 2 wv d.wait.length (waitC d.wait)
  fuz : ∀ k, d.fuse = some k → fz = k
  fuz0 : fz < 9223372036854775808
  capl : d.img.length ≤ cap
  ne1 : bB ≠ p
  ne2 : wv.ownBlock ≠ some p
  ne3 : wv.ownBlock ≠ some bB
/-- the blocks that it has -/
def foot (p bB : Nat) (wv : Value) : Nat → Prop := fun k => k = p ∨ k = bB ∨ wv.ownBlock = some k
/-- a call that only reads, and makes memory -/
theorem RAt.grows {S : Nat → Prop} {w w' : World} {p : Nat} {d : Dev} {bB cap : Nat} {wv : Value} {fz : Nat} (h : RAt w p d bB cap wv fz) (g : Grows S w w') (hn : ∀ k, foot p bB wv k → ¬ S k) : RAt w' p d bB cap wv fz :=
  ⟨g.var h.var (hn p (.inl rfl)), h.row.grows g (hn bB (.inr (.inl rfl))), Nat.lt_of_lt_of_le h.lt g.size, owns_grows h.wait g (fun k hk => hn k (.inr (.inr hk))), h.fuz, h.fuz0, h.capl, h.ne1, h.ne2, h.ne3⟩
theorem RAt.below {w w' : World} {p : Nat} {d : Dev} {bB cap : Nat} {wv : Value} {fz : Nat} (h : RAt w p d bB cap wv fz) (g : Below w.heap.size w w') : RAt w' p d bB cap wv fz := h.grows (Grows.of_below (S := fun _ => False) g) (fun _ _ x => x)
theorem RAt.foot_lt {w : World} {p : Nat} {d : Dev} {bB cap : Nat} {wv : Value} {fz : Nat} (h : RAt w p d bB cap wv fz) : ∀ k, foot p bB wv k → k < w.heap.size := by
  rintro k (rfl | rfl | hk)
  · exact h.var.lt
  · exact h.lt
  · exact owns_lt h.wait hk
/-- what stands at p is turned alone -/
theorem RAt.turn {w w' : World} {p : Nat} {d e : Dev} {bB cap : Nat} {wv : Value} {fz fy : Nat} (h : RAt w p d bB cap wv fz) (g : Grows (· = p) w w')
    (hv : Var w' p 102 [.int .i64 (e.pg : Int), .int .i64 (e.pgs : Int), .int .i64 (e.rgs : Int), .slice (some ⟨bB, 0, none⟩) e.img.length cap, wv, .bool e.fuse.isSome, .int .i64 (fy : Int), .bool e.down])
    (hi : e.img = d.img) (hw : e.wait = d.wait) (hf : ∀ k, e.fuse = some k → fy = k) (hf0 : fy < 9223372036854775808) : RAt w' p e bB cap wv fy :=
  ⟨hv, by rw [hi]; exact h.row.grows g h.ne1, Nat.lt_of_lt_of_le h.lt g.size, by rw [hw]; exact owns_grows h.wait g (fun k hk e => h.ne2 (by rw [← e]; exact hk)), hf, hf0, by rw [hi]; exact h.capl, h.ne1, h.ne2, h.ne3⟩
def ptr (p : Nat) : Value := .pointer (some ⟨p, 0, none⟩)
end Go.Proofs.Ytcmjambbdfangaa.Flash
/-
  What the document's own device says of one page: is it pending, what does it hold.
-/
set_option linter.unusedVariables false
set_option linter.unusedSimpArgs false
namespace Go.Proofs.Ytcmjambbdfangaa.Flash
open Go.RowKit
open Go.Proofs.Ytcmjambbdfangaa.Own
open Tup Bytes Foot
open Go.Proofs.Ytcmjambbdfangaa.Region (fill Then Deps Each wp_region_is wp_region_is_tail)

theorem ret_bool {a b : Bool} (h : a = b) : Ending.returned (.bool a) = .returned (.bool b) := by rw [h]
theorem ret_string {a b : ByteArray} (h : a = b) : Ending.returned (.string a) = .returned (.string b) := by rw [h]
theorem RAt.pend {w : World} {p : Nat} {d : Dev} {bB cap : Nat} {a : Option Addr} {m c fz k : Nat} (h : RAt w p d bB cap (.slice a m c) fz) (hk : k < d.wait.length) :
    ∃ g, a = some ⟨g, 0, none⟩ ∧ w.cell? ⟨g, k * 2, none⟩ = some (.int .i64 (d.wait[k].1 : Int)) ∧ w.cell? ⟨g, k * 2 + 1, none⟩ = some (.string (bs d.wait[k].2)) := by
  obtain ⟨h0, h1⟩ := waitC_get hk
  rcases At.of_owns h.wait with hn | ⟨b, off, ha, hl⟩
  · have := waitC_length d.wait
    rw [hn] at this
    simp at this; omega
  · obtain ⟨_, rfl, _, _⟩ := owns_block h.wait b off ha
    refine ⟨b, ha, ?_, ?_⟩
    · have := hl _ _ h0
      rwa [Nat.zero_add, Nat.mul_comm] at this
    · have := hl _ _ h1
      rwa [Nat.zero_add, Nat.mul_comm] at this
theorem RAt.slice {w : World} {p : Nat} {d : Dev} {bB cap : Nat} {wv : Value} {fz : Nat} (h : RAt w p d bB cap wv fz) : ∃ a c, wv = .slice a d.wait.length c := owns_slice h.wait
theorem any_take {α : Type} {l : List α} {f : α → Bool} {k : Nat} (h : k < l.length) : (l.take (k + 1)).any f = ((l.take k).any f || f l[k]) := by
  rw [List.take_succ_eq_append_getElem h, List.any_append]; simp
theorem any_hit {α : Type} {l : List α} {f : α → Bool} {k : Nat} (h : k < l.length) (hf : f l[k] = true) : l.any f = true := List.any_eq_true.2 ⟨l[k], List.getElem_mem h, hf⟩
theorem slice8 {l h cap L : Nat} (bB : Nat) (h1 : l < h) (h2 : h ≤ cap) (x y : Int) (hx : x = (l : Int)) (hy : y = (h : Int)) (w : World) :
    (Instr.slice 78 (.slice (some ⟨bB, 0, none⟩) L cap) (some (.int .i64 x)) (some (.int .i64 y)) none).run Try.prog w = .ok (.slice (some ⟨bB, l, none⟩) (h - l) (cap - l)) w := by
  subst hx hy
  have hu : Try.prog.underlying 78 = some (.slice (Try.prog.elem 78)) := by kernel_rfl
  have hz : ∀ w, (sizeOf (Try.prog.elem 78)).run Try.prog w = .ok 1 w := by
    have : Try.prog.elem 78 = 5 := by kernel_rfl
    rw [this]; intro w
    obtain ⟨i0, hi, hz0, hz1, hz2⟩ := info_parts info8
    simp [sizeOf, hi, hz1] <;> rfl
  rw [run_slice_lh (P := Try.prog) w 78 (some ⟨bB, 0, none⟩) L cap hu .i64 .i64 (l : Int) (h : Int) (by omega) (by omega) (by omega), hz]
  simp only [Result.andThen, sliced, Int.toNat_natCast, Nat.mul_one]
  rw [if_neg (by omega)]
  simp [Addr.add]
  intro e; omega
theorem text8 {w : World} {bB : Nat} {img : List UInt8} (h : Row8 w bB img) (l n cap : Nat) (hl : l + n ≤ img.length) :
    (convert 78 9 (.slice (some ⟨bB, l, none⟩) n cap)).run Try.prog w = .ok (.string (bs (cut img l n))) w := by
  have hlen := cut_length hl
  have := run_convert_bytes_back (P := Try.prog) w 78 9 5 ⟨bB, l, none⟩ cap (cut img l n) Try.underlying78 Try.underlying5 Try.underlying9 (fun j hj => by
    rw [hlen] at hj
    have hg := (h (l + j) (by omega)).1
    rw [show (⟨bB, l, none⟩ : Addr).add j = ⟨bB, l + j, none⟩ by unfold Addr.add; split <;> simp_all]
    rw [hg]
    congr 3
    simp only [cut, List.getElem_take, List.getElem_drop]
    rw [List.getD_eq_getElem?_getD, List.getElem?_eq_getElem (by omega)]; rfl)
  rw [hlen] at this
  exact this
theorem held_take {d : Dev} {q k : Nat} (h : k < d.wait.length) (s : List UInt8) :
    (d.wait.take (k + 1)).foldl (fun s x => if x.1 = q then x.2 else s) s = if d.wait[k].1 = q then d.wait[k].2 else (d.wait.take k).foldl (fun s x => if x.1 = q then x.2 else s) s := by
  rw [List.take_succ_eq_append_getElem h, List.foldl_append]; rfl
end Go.Proofs.Ytcmjambbdfangaa.Flash
/-
  What the document's own device answers to Read and Program.
-/
set_option linter.unusedVariables false
set_option linter.unusedSimpArgs false
namespace Go.Proofs.Ytcmjambbdfangaa.Flash
open Go.RowKit
open Go.Proofs.Ytcmjambbdfangaa.Own
open Tup Bytes Foot
open Go.Proofs.Ytcmjambbdfangaa.Region (fill Then Deps Each wp_region_is wp_region_is_tail)

theorem below_drewN (w : World) (k : Nat) : Below w.heap.size w (w.drewN k) := ⟨rfl, rfl, rfl, Nat.le_refl _, fun _ _ => rfl⟩
theorem bel2 {a w1 w2 : World} (h : Below a.heap.size a w1) (k : Below w1.heap.size w1 w2) : Below a.heap.size a w2 := h.trans (k.mono h.size)
theorem ret_code {s t : ByteArray} {a b : Nat} (h1 : s = t) (h2 : a = b) : Ending.returned (.tuple #[.string s, .int .i64 (a : Int)]) = .returned (.tuple #[.string t, .int .i64 (b : Int)]) := by rw [h1, h2]
theorem ret_nat {a b : Nat} (h : a = b) : Ending.returned (.int .i64 (a : Int)) = .returned (.int .i64 (b : Int)) := by rw [h]
/-- the device, with the blocks that it has -/
def RHas (w : World) (p : Nat) (d : Dev) (S : Nat → Prop) : Prop := ∃ bB cap wv fz, RAt w p d bB cap wv fz ∧ S = foot p bB wv
theorem RHas.below {w w' : World} {p : Nat} {d : Dev} {S : Nat → Prop} (h : RHas w p d S) (g : Below w.heap.size w w') : RHas w' p d S := by
  obtain ⟨a, b, c, f, h, rfl⟩ := h
  exact ⟨a, b, c, f, h.below g, rfl⟩
theorem RHas.grows {T S : Nat → Prop} {w w' : World} {p : Nat} {d : Dev} (h : RHas w p d S) (g : Grows T w w') (hn : ∀ k, S k → ¬ T k) : RHas w' p d S := by
  obtain ⟨a, b, c, f, h, rfl⟩ := h
  exact ⟨a, b, c, f, h.grows g hn, rfl⟩
theorem RHas.lt {w : World} {p : Nat} {d : Dev} {S : Nat → Prop} (h : RHas w p d S) : ∀ k, S k → k < w.heap.size := by
  obtain ⟨a, b, c, f, h, rfl⟩ := h
  exact h.foot_lt
theorem has_cases (d : Dev) (q : Int) : (decide (q < 0) = true ∧ d.has q = false) ∨ (decide (q < 0) = false ∧ decide ((d.n : Int) ≤ q) = true ∧ d.has q = false) ∨ (decide (q < 0) = false ∧ decide ((d.n : Int) ≤ q) = false ∧ d.has q = true) := by
  unfold Dev.has
  by_cases h1 : q < 0 <;> by_cases h2 : (d.n : Int) ≤ q
  · left; simp [h1] <;> omega
  · left; simp [h1] <;> omega
  · right; left; simp [h1, h2] <;> omega
  · right; right; simp [h1, h2] <;> omega
end Go.Proofs.Ytcmjambbdfangaa.Flash
/-
  What the document's own device answers to Program.
-/
set_option linter.unusedVariables false
set_option linter.unusedSimpArgs false
namespace Go.Proofs.Ytcmjambbdfangaa.Flash
open Go.RowKit
open Go.Proofs.Ytcmjambbdfangaa.Own
open Tup Bytes Foot

theorem held_length {d : Dev} (h : d.Ok) {k : Nat} (hk : k < d.n) : (d.held k).length = d.pg := by
  have : ∀ (l : List (Nat × List UInt8)) (s : List UInt8), (∀ x ∈ l, x.2.length = d.pg) → s.length = d.pg → (l.foldl (fun s x => if x.1 = k then x.2 else s) s).length = d.pg := by
    intro l
    induction l with
    | nil => intro s _ hs; exact hs
    | cons x r ih =>
      intro s hx hs
      rw [List.foldl_cons]
      refine ih _ (fun y hy => hx y (List.mem_cons_of_mem _ hy)) ?_
      split
      · exact hx x (List.mem_cons_self ..)
      · exact hs
  exact this _ _ (fun x hx => (h.wait x hx).2) (cut_length (h.page hk))
theorem owns_below {w w' : World} {base : Nat} {e : TypeId} {size : Nat} {v : Value} {n : Nat} {xs : List Value} (h : w.ownsRow base e size v n xs) (g : Below w.heap.size w w') : w'.ownsRow base e size v n xs := owns_grows h (Grows.of_below (S := fun _ => False) g) (fun _ _ x => x)
theorem infoWait : (Try.prog.info? 165).map (fun i => (i.zero, i.size, i.bytes)) = some (some (.agg #[.int .i64 0, .string ⟨#[]⟩]), 2, 24) := by kernel_rfl
theorem after_below {S : Nat → Prop} {w w' : World} (g : Below w.heap.size w w') : After S w w' S := ⟨.of_below g, fun _ h => .inl h⟩
theorem After.of_grows {S T : Nat → Prop} {w w' : World} (g : Grows T w w') (h : ∀ k, T k → S k) : After S w w' S := ⟨g.mono h, fun _ h => .inl h⟩
def waitV (k : Nat) (b : List UInt8) : List Value := [.int .i64 (k : Int), .string (bs b)]
/-- a page is laid behind what is pending -/
theorem RAt.push {w5 w6 : World} {p : Nat} {e : Dev} {bB cap : Nat} {wv : Value} {fy : Nat} (h : RAt w5 p e bB cap wv fy) (o : Obj) (k : Nat) (b : List UInt8) {g cap2 n : Nat} (hn : n = e.wait.length)
    (hown : w6.ownsRow 0 165 2 (.slice (some ⟨g, 0, none⟩) (n + 1) cap2) (n + 1) (waitC e.wait ++ waitV k b)) (hgr : (w5.alloc o).grownBy w6 wv.ownBlock) (hat : wv.ownBlock = some g ∨ g = (w5.alloc o).heap.size) :
    RAt (w6.setCell ⟨p, 4, none⟩ (.slice (some ⟨g, 0, none⟩) (n + 1) cap2)) p { e with wait := e.wait ++ [(k, b)] } bB cap (.slice (some ⟨g, 0, none⟩) (n + 1) cap2) fy
    ∧ After (foot p bB wv) w5 (w6.setCell ⟨p, 4, none⟩ (.slice (some ⟨g, 0, none⟩) (n + 1) cap2)) (foot p bB (.slice (some ⟨g, 0, none⟩) (n + 1) cap2)) := by
  have hp := h.var.lt
  have hB := h.lt
  have hs : (w5.alloc o).heap.size = w5.heap.size + 1 := by simp
  have hgp : g ≠ p := by
    rcases hat with x | x
    · intro y; subst y; exact h.ne2 x
    · omega
  have hgB : g ≠ bB := by
    rcases hat with x | x
    · intro y; subst y; exact h.ne3 x
    · omega
  have hv6 : Var w6 p _ _ := (h.var.alloc o).kept hgr h.ne2
  have g1 : Grows (fun k => wv.ownBlock = some k) w5 w6 := (Grows.alloc (fun _ => False) w5 o).mono (fun _ x => x.elim) |>.trans (Grows.grown (S := fun k => wv.ownBlock = some k) hgr (fun k hk => hk)) (fun j hj => .inl hj)
  have hr6 : Row8 w6 bB e.img := h.row.grows g1 h.ne3
  have g2 : Grows (· = p) w6 (w6.setCell ⟨p, 4, none⟩ (.slice (some ⟨g, 0, none⟩) (n + 1) cap2)) := Grows.set _ _ _ rfl
  refine ⟨⟨hv6.set 4 _, hr6.grows g2 h.ne1, Nat.lt_of_lt_of_le hB (Nat.le_trans g1.size g2.size), ?_, h.fuz, h.fuz0, h.capl, h.ne1, ?_, ?_⟩, ?_, ?_⟩
  · have hl : (e.wait ++ [(k, b)]).length = n + 1 := by simp [hn]
    show World.ownsRow _ 0 _ 2 _ (e.wait ++ [(k, b)]).length (waitC (e.wait ++ [(k, b)]))
    rw [hl, waitC_append]
    exact owns_grows hown g2 (fun j hj => by
      have : g = j := by simpa [Value.ownBlock] using hj
      omega)
  · simp [Value.ownBlock]; exact hgp
  · simp [Value.ownBlock]; exact hgB
  · exact (g1.mono (fun j hj => Or.inr (Or.inr hj))).trans g2 (fun j hj => .inl (.inl hj))
  · rintro j (rfl | rfl | hj)
    · exact .inl (.inl rfl)
    · exact .inl (.inr (.inl rfl))
    · have : g = j := by simpa [Value.ownBlock] using hj
      subst this
      rcases hat with x | x
      · exact .inl (.inr (.inr x))
      · exact .inr (by omega)
theorem RAt.push_var {w5 w6 : World} {p : Nat} {e : Dev} {bB cap : Nat} {wv : Value} {fy : Nat} (h : RAt w5 p e bB cap wv fy) (o : Obj) (hgr : (w5.alloc o).grownBy w6 wv.ownBlock) : w6.cell? ⟨p, 4, none⟩ = some wv ∧ w6.frozen? ⟨p, 4, none⟩ = false :=
  ⟨((h.var.alloc o).kept hgr h.ne2).cell (j := 4) rfl, ((h.var.alloc o).kept hgr h.ne2).frozen 4⟩
theorem waitV_one (k : Nat) (b : List UInt8) : ∀ u ∈ waitV k b, u.oneCell' = true := by simp [waitV, Value.oneCell']
end Go.Proofs.Ytcmjambbdfangaa.Flash
/-
  What the document's own device answers to Image, Fuse and Rot; so many of a page's bytes done.
-/
set_option linter.unusedVariables false
set_option linter.unusedSimpArgs false
namespace Go.Proofs.Ytcmjambbdfangaa.Flash
open Go.RowKit
open Go.Proofs.Ytcmjambbdfangaa.Own
open Tup Bytes Foot
open Go.Proofs.Ytcmjambbdfangaa.Region (fill Then Deps Each wp_region_is wp_region_is_tail)

/-- a byte is written -/
theorem RAt.put {w : World} {p : Nat} {d : Dev} {bB cap : Nat} {wv : Value} {fz : Nat} (h : RAt w p d bB cap wv fz) (j : Nat) (c : UInt8) (hj : j < d.img.length) :
    RAt (w.setCell ⟨bB, j, none⟩ (.int .u8 (c.toNat : Int))) p { d with img := d.img.set j c } bB cap wv fz := by
  have g : Grows (· = bB) w (w.setCell ⟨bB, j, none⟩ (.int .u8 (c.toNat : Int))) := Grows.set _ _ _ rfl
  refine ⟨?_, h.row.set j c hj, Nat.lt_of_lt_of_le h.lt g.size, owns_grows h.wait g (fun k hk e => h.ne3 (by rw [← e]; exact hk)), h.fuz, h.fuz0, by simpa using h.capl, h.ne1, h.ne2, h.ne3⟩
  have := g.var h.var (fun e => h.ne1 e.symm)
  simpa using this
theorem over_snoc {img b : List UInt8} {P k : Nat} (hk : k < b.length) (hP : P + k < img.length) : (over img P (b.take k)).set (P + k) b[k] = over img P (b.take (k + 1)) := by
  unfold over
  have l1 : (img.take P).length = P := by simp; omega
  have l2 : (b.take k).length = k := by simp; omega
  have l3 : (b.take (k + 1)).length = k + 1 := by simp; omega
  rw [l2, l3, List.append_assoc, List.append_assoc, List.set_append_right _ _ (by omega), l1, Nat.add_sub_cancel_left, List.set_append_right _ _ (by omega), l2, Nat.sub_self, List.take_succ_eq_append_getElem hk, List.append_assoc]
  rw [List.drop_eq_getElem_cons (show P + k < img.length by omega), List.set_cons_zero]
  rfl
end Go.Proofs.Ytcmjambbdfangaa.Flash
/-
  What the document's own device answers to Rot and Flush.
-/
set_option linter.unusedVariables false
set_option linter.unusedSimpArgs false
namespace Go.Proofs.Ytcmjambbdfangaa.Flash
open Go.RowKit
open Go.Proofs.Ytcmjambbdfangaa.Own
open Tup Bytes Foot
open Go.Proofs.Ytcmjambbdfangaa.Region (fill Then Deps Each wp_region_is wp_region_is_tail)

theorem modify_set (l : List UInt8) (i : Nat) (f : UInt8 → UInt8) : l.modify i f = l.set i (f (l.getD i 0)) := by
  apply List.ext_getElem
  · simp
  · intro j h1 h2
    simp only [List.getElem_modify, List.getElem_set]
    split
    · rename_i h
      subst h
      rw [List.getD_eq_getElem?_getD, List.getElem?_eq_getElem (by simpa using h1)]; rfl
    · rfl
theorem rot_cases (d : Dev) (k : Int) : (decide (k < 0) = true ∧ ¬ (0 ≤ k ∧ k < (d.pg : Int))) ∨ (decide (k < 0) = false ∧ decide ((d.pg : Int) ≤ k) = true ∧ ¬ (0 ≤ k ∧ k < (d.pg : Int))) ∨ (decide (k < 0) = false ∧ decide ((d.pg : Int) ≤ k) = false ∧ 0 ≤ k ∧ k < (d.pg : Int)) := by
  by_cases h1 : k < 0 <;> by_cases h2 : (d.pg : Int) ≤ k
  · left; simp [h1] <;> omega
  · left; simp [h1] <;> omega
  · right; left; simp [h1, h2] <;> omega
  · right; right; simp [h1, h2] <;> omega
theorem flush_take {d : Dev} {k : Nat} (h : k < d.wait.length) (im : List UInt8) :
    (d.wait.take (k + 1)).foldl (fun im x => over im (x.1 * d.pg) x.2) im = over ((d.wait.take k).foldl (fun im x => over im (x.1 * d.pg) x.2) im) (d.wait[k].1 * d.pg) d.wait[k].2 := by
  rw [List.take_succ_eq_append_getElem h, List.foldl_append]; rfl
theorem flush_part {d : Dev} (h : d.Ok) (k : Nat) : ((d.wait.take k).foldl (fun im x => over im (x.1 * d.pg) x.2) d.img).length = d.img.length :=
  foldl_over_length d.pg _ d.img fun x hx => by have := h.wait x (List.mem_of_mem_take hx); rw [this.2]; exact h.page this.1
/-- nothing is pending any more -/
theorem RAt.clear {w : World} {p : Nat} {d : Dev} {bB cap : Nat} {wv : Value} {fz : Nat} (h : RAt w p d bB cap wv fz) :
    RAt (w.setCell ⟨p, 4, none⟩ (.slice none 0 0)) p { d with wait := [] } bB cap (.slice none 0 0) fz ∧ After (foot p bB wv) w (w.setCell ⟨p, 4, none⟩ (.slice none 0 0)) (foot p bB (.slice none 0 0)) := by
  have g : Grows (· = p) w (w.setCell ⟨p, 4, none⟩ (.slice none 0 0)) := Grows.set _ _ _ rfl
  refine ⟨⟨h.var.set 4 _, h.row.grows g h.ne1, Nat.lt_of_lt_of_le h.lt g.size, ⟨rfl, .inl ⟨rfl, rfl⟩⟩, h.fuz, h.fuz0, h.capl, h.ne1, by simp [Value.ownBlock], by simp [Value.ownBlock]⟩, g.mono (fun _ h => .inl h), ?_⟩
  rintro k (rfl | rfl | hk)
  · exact .inl (.inl rfl)
  · exact .inl (.inr (.inl rfl))
  · simp [Value.ownBlock] at hk
end Go.Proofs.Ytcmjambbdfangaa.Flash
/-
  What the document's own device does at a crash.
-/
set_option linter.unusedVariables false
set_option linter.unusedSimpArgs false
namespace Go.Proofs.Ytcmjambbdfangaa.Flash
open Go.RowKit
open Go.Proofs.Ytcmjambbdfangaa.Own
open Tup Bytes Foot
open Go.Proofs.Ytcmjambbdfangaa.Region (fill Then Deps Each wp_region_is wp_region_is_tail)

/-- a row of numbers, at a place that S has not -/
def MaskAt (w : World) (ma : Option Addr) (mask : List Int) (S : Nat → Prop) : Prop := mask = [] ∨ ∃ b off, ma = some ⟨b, off, none⟩ ∧ Lies w b off (mask.map (.int .i64 ·)) ∧ ¬ S b
theorem MaskAt.grows {S T : Nat → Prop} {w w' : World} {ma : Option Addr} {mask : List Int} (h : MaskAt w ma mask S) (g : Grows T w w') (hs : ∀ k, T k → S k) : MaskAt w' ma mask S := by
  rcases h with h | ⟨b, off, ha, hl, hn⟩
  · exact .inl h
  · exact .inr ⟨b, off, ha, fun j c hj => g.cell (p := ⟨b, off + j, none⟩) (hl j c hj) (fun x => hn (hs b x)), hn⟩
theorem MaskAt.get {S : Nat → Prop} {w : World} {ma : Option Addr} {mask : List Int} (h : MaskAt w ma mask S) {k : Nat} (hk : k < mask.length) : ∃ b off, ma = some ⟨b, off, none⟩ ∧ w.cell? ⟨b, off + k, none⟩ = some (.int .i64 mask[k]) := by
  rcases h with h | ⟨b, off, ha, hl, hn⟩
  · subst h; simp at hk
  · exact ⟨b, off, ha, hl k _ (by simp [hk])⟩
/-- a crash's first pages -/
def crashI (d : Dev) (mask : List Int) (k : Nat) : List UInt8 := (d.wait.zipIdx.take k).foldl (fun im x => over im (x.1.1 * d.pg) (x.1.2.take (tornN d.pg (mask.getD x.2 0)))) d.img
theorem crashI_succ {d : Dev} {mask : List Int} {k : Nat} (hk : k < d.wait.length) : crashI d mask (k + 1) = over (crashI d mask k) (d.wait[k].1 * d.pg) (d.wait[k].2.take (tornN d.pg (mask.getD k 0))) := by
  unfold crashI
  rw [List.take_succ_eq_append_getElem (by simpa using hk), List.foldl_append]
  simp
theorem crashI_len {d : Dev} (h : d.Ok) (mask : List Int) (k : Nat) : (crashI d mask k).length = d.img.length :=
  crash_len d.pg (by have := h.p0; omega) mask _ d.img (fun x hx => by
    have hx := List.mem_of_mem_take hx
    have hm : x.1 ∈ d.wait := by
      obtain ⟨y, i⟩ := x
      exact (List.mem_zipIdx hx).2.2 ▸ List.getElem_mem _
    have := h.wait x.1 hm
    exact ⟨h.page this.1, this.2⟩)
theorem torn0 (pg : Nat) : tornN pg 0 = 0 := rfl
theorem crashI_same {d : Dev} {mask : List Int} {k : Nat} (hk : k < d.wait.length) (hm : tornN d.pg (mask.getD k 0) = 0) : crashI d mask (k + 1) = crashI d mask k := by
  rw [crashI_succ hk, hm, List.take_zero, over_nil]
theorem crashI_end {d : Dev} {mask : List Int} : ∀ (j k : Nat), mask.length ≤ k → k + j = d.wait.length → crashI d mask d.wait.length = crashI d mask k
  | 0, k, _, h => by rw [← h]; rfl
  | j + 1, k, hk, h => by
    rw [crashI_end j (k + 1) (by omega) (by omega)]
    exact crashI_same (by omega) (by rw [List.getD_eq_getElem?_getD, List.getElem?_eq_none hk]; rfl)
theorem crash_is (d : Dev) (mask : List Int) : crashD d mask = { d with img := crashI d mask d.wait.length, wait := [], down := false, fuse := none } := by
  unfold crashD crashI
  rw [List.take_of_length_le (by simp)]
theorem RAt.crash {w : World} {p : Nat} {d : Dev} {bB cap : Nat} {wv : Value} {fz : Nat} (h : RAt w p d bB cap wv fz) :
    RAt (((w.setCell ⟨p, 4, none⟩ (.slice none 0 0)).setCell ⟨p, 7, none⟩ (.bool false)).setCell ⟨p, 5, none⟩ (.bool false)) p { d with wait := [], down := false, fuse := none } bB cap (.slice none 0 0) fz
    ∧ After (foot p bB wv) w (((w.setCell ⟨p, 4, none⟩ (.slice none 0 0)).setCell ⟨p, 7, none⟩ (.bool false)).setCell ⟨p, 5, none⟩ (.bool false)) (foot p bB (.slice none 0 0)) := by
  obtain ⟨h1, a1⟩ := h.clear
  have g2 : Grows (· = p) (w.setCell ⟨p, 4, none⟩ (.slice none 0 0)) ((w.setCell ⟨p, 4, none⟩ (.slice none 0 0)).setCell ⟨p, 7, none⟩ (.bool false)) := Grows.set _ _ _ rfl
  have g3 : Grows (· = p) (w.setCell ⟨p, 4, none⟩ (.slice none 0 0)) (((w.setCell ⟨p, 4, none⟩ (.slice none 0 0)).setCell ⟨p, 7, none⟩ (.bool false)).setCell ⟨p, 5, none⟩ (.bool false)) := g2.trans (Grows.set (S := (· = p)) _ _ _ rfl) (fun _ h => .inl h)
  exact ⟨h1.turn g3 ((h1.var.set 7 (.bool false)).set 5 (.bool false)) rfl rfl (by simp) h.fuz0, a1.trans (After.of_grows g3 (fun j hj => .inl hj))⟩
end Go.Proofs.Ytcmjambbdfangaa.Flash
/-
  What the document's own device does where an erase blows: one page more is pending.
-/
set_option linter.unusedVariables false
set_option linter.unusedSimpArgs false
namespace Go.Proofs.Ytcmjambbdfangaa.Flash
open Go.RowKit
open Go.Proofs.Ytcmjambbdfangaa.Own
open Tup Bytes Foot
open Go.Proofs.Ytcmjambbdfangaa.Region (fill Then Deps2 Each2 Owes upd put wp_region_each3 slots)

def pairs : List (Nat × Nat) := [(2, 1), (3, 2), (4, 3), (7, 6), (8, 7), (9, 8), (10, 9), (11, 10), (12, 5), (12, 11), (13, 12)]
/-- behind some of the operations of 'f.Wait = append(f.Wait, wait{i, Fill(255, n)})' -/
def EJ (wr : World) (p : Nat) (tab : List Value) (cs : List Value) (AP : World → Value → Prop) (d : Nat → Bool) (ys : Nat → Value) (wx : World) : Prop :=
  (∀ i, i < 17 → i ≠ 13 → i ≠ 14 → d i = true → ys (83 + i) = tab.getD i undef) ∧ (∀ x ∈ pairs, d x.1 = true → d x.2 = true)
  ∧ ((d 14 = false ∧ d 17 = false ∧ Below wr.heap.size wr wx ∧ (d 13 = true → ∃ g0, ys 96 = .slice (some ⟨g0, 0, none⟩) 1 1 ∧ Lies wx g0 0 cs))
    ∨ ((∀ i, 1 ≤ i → i < 14 → d i = true) ∧ d 14 = true ∧ ∃ w6, AP w6 (ys 97) ∧ w6.cell? ⟨p, 4, none⟩ ≠ none ∧ w6.frozen? ⟨p, 4, none⟩ = false ∧ ((d 17 = false ∧ wx = w6) ∨ (d 17 = true ∧ wx = w6.setCell ⟨p, 4, none⟩ (ys 97)))))
theorem upd_ne {d : Nat → Bool} {i j : Nat} (h : j ≠ i) : upd d i j = d j := by unfold upd; rw [if_neg h]
theorem upd_eq (d : Nat → Bool) (i : Nat) : upd d i i = true := by unfold upd; rw [if_pos rfl]
theorem put_ne {ys : Nat → Value} {s t : Nat} (v : Value) (h : t ≠ s) : put ys (some s) v t = ys t := by show (if t = s then v else ys t) = ys t; rw [if_neg h]
theorem put_eq (ys : Nat → Value) (s : Nat) (v : Value) : put ys (some s) v s = v := by show (if s = s then v else ys s) = v; rw [if_pos rfl]
theorem no_pair {d : Nat → Bool} {i : Nat} (h : (pairs.all fun x => x.1 != i) = true) : ∀ x ∈ pairs, x.1 = i → d x.2 = true := fun x hx e => absurd e (by simpa using List.all_eq_true.1 h x hx)
theorem closed_upd {d : Nat → Bool} {i : Nat} (h : ∀ x ∈ pairs, d x.1 = true → d x.2 = true) (hi : ∀ x ∈ pairs, x.1 = i → d x.2 = true) : ∀ x ∈ pairs, upd d i x.1 = true → upd d i x.2 = true := by
  intro x hx hd
  by_cases e2 : x.2 = i
  · rw [e2]; exact upd_eq _ _
  · rw [upd_ne e2]
    by_cases e1 : x.1 = i
    · exact hi x hx e1
    · rw [upd_ne e1] at hd; exact h x hx hd
theorem closed_all {d : Nat → Bool} (h : ∀ x ∈ pairs, d x.1 = true → d x.2 = true) (h4 : d 4 = true) (h13 : d 13 = true) : ∀ i, 1 ≤ i → i < 14 → d i = true := by
  have k := fun a b (m : (a, b) ∈ pairs) => h (a, b) m
  have h3 := k 4 3 (by decide) h4
  have h2 := k 3 2 (by decide) h3
  have h1 := k 2 1 (by decide) h2
  have h12 := k 13 12 (by decide) h13
  have h5 := k 12 5 (by decide) h12
  have h11 := k 12 11 (by decide) h12
  have h10 := k 11 10 (by decide) h11
  have h9 := k 10 9 (by decide) h10
  have h8 := k 9 8 (by decide) h9
  have h7 := k 8 7 (by decide) h8
  have h6 := k 7 6 (by decide) h7
  intro i a b
  match i, a, b with
  | 1, _, _ => exact h1
  | 2, _, _ => exact h2
  | 3, _, _ => exact h3
  | 4, _, _ => exact h4
  | 5, _, _ => exact h5
  | 6, _, _ => exact h6
  | 7, _, _ => exact h7
  | 8, _, _ => exact h8
  | 9, _, _ => exact h9
  | 10, _, _ => exact h10
  | 11, _, _ => exact h11
  | 12, _, _ => exact h12
  | 13, _, _ => exact h13
theorem EJ.tabs {wr : World} {p : Nat} {tab cs : List Value} {AP : World → Value → Prop} {d : Nat → Bool} {ys : Nat → Value} {wx : World} (h : EJ wr p tab cs AP d ys wx) {i : Nat} (hi : i < 17) (h13 : i ≠ 13) (h14 : i ≠ 14) {v : Value} (hv : v = tab.getD i undef) :
    ∀ j, j < 17 → j ≠ 13 → j ≠ 14 → upd d i j = true → put ys (some (83 + i)) v (83 + j) = tab.getD j undef := by
  intro j hj a b hd
  by_cases e : j = i
  · subst e; rw [put_eq]; exact hv
  · rw [put_ne v (by omega)]
    rw [upd_ne e] at hd
    exact h.1 j hj a b hd
theorem EJ.early {wr : World} {p : Nat} {tab cs : List Value} {AP : World → Value → Prop} {d : Nat → Bool} {ys : Nat → Value} {wx : World} (h : EJ wr p tab cs AP d ys wx) {i : Nat} (h1 : 1 ≤ i) (hi : i < 14) (hd : d i = false) :
    d 14 = false ∧ d 17 = false ∧ Below wr.heap.size wr wx ∧ (d 13 = true → ∃ g0, ys 96 = .slice (some ⟨g0, 0, none⟩) 1 1 ∧ Lies wx g0 0 cs) := by
  rcases h.2.2 with x | ⟨x, _⟩
  · exact x
  · rw [x i h1 hi] at hd; simp at hd
theorem EJ.front {wr : World} {p : Nat} {tab cs : List Value} {AP : World → Value → Prop} {d : Nat → Bool} {ys : Nat → Value} {wx wy : World} (h : EJ wr p tab cs AP d ys wx) {i : Nat} (h1 : 1 ≤ i) (hi : i < 13) (hd : d i = false) (hc : ∀ x ∈ pairs, x.1 = i → d x.2 = true) {v : Value} (hv : v = tab.getD i undef) (hb : Below wx.heap.size wx wy) :
    EJ wr p tab cs AP (upd d i) (put ys (some (83 + i)) v) wy := by
  refine ⟨h.tabs (by omega) (by omega) (by omega) hv, closed_upd h.2.1 hc, .inl ?_⟩
  obtain ⟨a, b, c, e⟩ := h.early h1 (by omega) hd
  rw [upd_ne (by omega), upd_ne (by omega), upd_ne (by omega), put_ne v (by omega)]
  refine ⟨a, b, c.trans (hb.mono c.size), fun x => ?_⟩
  obtain ⟨g0, y1, y2⟩ := e x
  exact ⟨g0, y1, y2.below hb⟩
theorem EJ.idle {wr : World} {p : Nat} {tab cs : List Value} {AP : World → Value → Prop} {d : Nat → Bool} {ys : Nat → Value} {wx : World} (h : EJ wr p tab cs AP d ys wx) {i : Nat} (hi : i = 0 ∨ i = 15 ∨ i = 16) {v : Value} (hv : v = tab.getD i undef) :
    EJ wr p tab cs AP (upd d i) (put ys (some (83 + i)) v) wx := by
  refine ⟨h.tabs (by omega) (by omega) (by omega) hv, closed_upd h.2.1 (by rcases hi with rfl | rfl | rfl <;> exact no_pair (by decide)), ?_⟩
  rw [upd_ne (by omega), upd_ne (by omega), upd_ne (by omega), put_ne v (by omega), put_ne v (by omega)]
  rcases h.2.2 with x | ⟨x, y⟩
  · exact .inl x
  · exact .inr ⟨fun j h1 hj => by rw [upd_ne (by omega)]; exact x j h1 hj, y⟩
theorem EJ.build {wr : World} {p : Nat} {tab cs : List Value} {AP : World → Value → Prop} {d : Nat → Bool} {ys : Nat → Value} {wx wy : World} (h : EJ wr p tab cs AP d ys wx) (hd : d 13 = false) (h12 : d 12 = true) {g0 : Nat} (hl : Lies wy g0 0 cs) (hb : Below wx.heap.size wx wy) :
    EJ wr p tab cs AP (upd d 13) (put ys (some 96) (.slice (some ⟨g0, 0, none⟩) 1 1)) wy := by
  refine ⟨fun j hj a b hdj => ?_, closed_upd h.2.1 (by intro x hx e; simp only [pairs, List.mem_cons, List.not_mem_nil, or_false] at hx; rcases hx with rfl | rfl | rfl | rfl | rfl | rfl | rfl | rfl | rfl | rfl | rfl <;> first | exact h12 | (simp at e)), .inl ?_⟩
  · rw [put_ne _ (by omega)]
    rw [upd_ne a] at hdj
    exact h.1 j hj a b hdj
  · obtain ⟨a, b, c, _⟩ := h.early (by omega) (by omega) hd
    rw [upd_ne (by omega), upd_ne (by omega), put_eq]
    exact ⟨a, b, c.trans (hb.mono c.size), fun _ => ⟨g0, rfl, hl⟩⟩
theorem EJ.append {wr : World} {p : Nat} {tab cs : List Value} {AP : World → Value → Prop} {d : Nat → Bool} {ys : Nat → Value} {wx wy : World} (h : EJ wr p tab cs AP d ys wx) (hall : ∀ i, 1 ≤ i → i < 14 → d i = true) (h17 : d 17 = false) {v : Value} (hA : AP wy v) (hc : wy.cell? ⟨p, 4, none⟩ ≠ none) (hf : wy.frozen? ⟨p, 4, none⟩ = false) :
    EJ wr p tab cs AP (upd d 14) (put ys (some 97) v) wy := by
  refine ⟨fun j hj a b hdj => ?_, closed_upd h.2.1 (no_pair (by decide)), .inr ⟨fun i h1 hi => by rw [upd_ne (by omega)]; exact hall i h1 hi, upd_eq _ _, wy, ?_, hc, hf, .inl ⟨?_, rfl⟩⟩⟩
  · rw [put_ne _ (by omega)]
    rw [upd_ne b] at hdj
    exact h.1 j hj a b hdj
  · rw [put_eq]; exact hA
  · rw [upd_ne (by omega)]; exact h17
theorem EJ.store {wr : World} {p : Nat} {tab cs : List Value} {AP : World → Value → Prop} {d : Nat → Bool} {ys : Nat → Value} {wx : World} (h : EJ wr p tab cs AP d ys wx) (h14 : d 14 = true) (h17 : d 17 = false) (v : Value) :
    EJ wr p tab cs AP (upd d 17) (put ys none v) (wx.setCell ⟨p, 4, none⟩ (ys 97)) := by
  refine ⟨fun j hj a b hdj => ?_, closed_upd h.2.1 (no_pair (by decide)), ?_⟩
  · rw [upd_ne (by omega)] at hdj
    exact h.1 j hj a b hdj
  · rcases h.2.2 with ⟨x, _⟩ | ⟨x, y, w6, hA, hc, hf, ⟨_, e⟩ | ⟨e, _⟩⟩
    · rw [h14] at x; simp at x
    · refine .inr ⟨fun i h1 hi => by rw [upd_ne (by omega)]; exact x i h1 hi, by rw [upd_ne (by omega)]; exact y, w6, hA, hc, hf, .inr ⟨upd_eq _ _, ?_⟩⟩
      rw [e]; rfl
    · rw [h17] at e; simp at e
end Go.Proofs.Ytcmjambbdfangaa.Flash
/-
  What the document's own device answers to Erase.
-/
set_option linter.unusedVariables false
set_option linter.unusedSimpArgs false
namespace Go.Proofs.Ytcmjambbdfangaa.Flash
open Go.RowKit
open Go.Proofs.Ytcmjambbdfangaa.Own
open Tup Bytes Foot
open Go.Proofs.Ytcmjambbdfangaa.Region (fill Then Deps Each Deps2 Each2 Owes upd put wp_region_each3 slots wp_region_is wp_region_is_tail)

theorem blow_mk (d : Dev) : ∃ fu dn, d.blow.2 = ⟨d.pg, d.pgs, d.rgs, d.img, d.wait, fu, dn⟩ := by
  unfold Dev.blow
  split <;> exact ⟨_, _, rfl⟩
theorem over_rep {img : List UInt8} {A a b : Nat} (c : UInt8) (h : A + a + b ≤ img.length) : over (over img A (List.replicate a c)) (A + a) (List.replicate b c) = over img A (List.replicate (a + b) c) := by
  have h1 : (over img A (List.replicate a c)).take (A + a) = img.take A ++ List.replicate a c := by
    unfold over
    rw [List.take_append_of_le_length (by simp <;> omega), List.take_of_length_le (by simp <;> omega)]
  have h2 : (over img A (List.replicate a c)).drop (A + a + b) = img.drop (A + a + b) := drop_over (by simp) (by omega)
  show (over img A (List.replicate a c)).take (A + a) ++ List.replicate b c ++ (over img A (List.replicate a c)).drop (A + a + (List.replicate b c).length) = _
  rw [List.length_replicate, h1, h2]
  unfold over
  rw [List.length_replicate, ← List.replicate_append_replicate, List.append_assoc, List.append_assoc, List.append_assoc, List.append_assoc, Nat.add_assoc]
def erasing (d : Dev) (F : Nat) (x : Nat × List UInt8) : Bool := decide (F ≤ x.1) && decide (x.1 < F + d.pgs)
theorem erase_state {d : Dev} {k : Nat} (h1 : d.down = false) (h2 : k < d.rgs) (h3 : d.wait.any (erasing d (k * d.pgs)) = true) : eraseD d k = (7, d) := by
  unfold eraseD
  rw [h1, if_neg (by simp), if_neg (by simp; omega), Int.toNat_natCast]
  exact if_pos h3
theorem erase_ok {d : Dev} {k : Nat} (h1 : d.down = false) (h2 : k < d.rgs) (h3 : d.wait.any (erasing d (k * d.pgs)) = false) :
    eraseD d k = if d.blow.1 then (6, { d.blow.2 with wait := d.wait ++ (List.range d.pgs).map fun i => (k * d.pgs + i, List.replicate d.pg 255) }) else (0, { d.blow.2 with img := over d.img (k * d.pgs * d.pg) (List.replicate (d.pgs * d.pg) 255) }) := by
  unfold eraseD
  rw [h1, if_neg (by simp), if_neg (by simp; omega), Int.toNat_natCast, if_neg (by unfold erasing at h3; rw [h3]; simp)]
/-- what is pending where an erase blew, up to a page -/
def blown (d : Dev) (F j : Nat) : List (Nat × List UInt8) := d.wait ++ (List.range j).map fun i => (F + i, List.replicate d.pg 255)
theorem blown_succ (d : Dev) (F j : Nat) : blown d F j ++ [(F + j, List.replicate d.pg 255)] = blown d F (j + 1) := by
  unfold blown
  rw [List.range_succ, List.map_append, List.append_assoc]; rfl
theorem blown_len (d : Dev) (F j : Nat) : (blown d F j).length = d.wait.length + j := by simp [blown]
/-- .. from the world at which the append begins -/
theorem RAt.push_at {w5 w6 : World} {p : Nat} {e : Dev} {bB cap : Nat} {wv : Value} {fy : Nat} (h : RAt w5 p e bB cap wv fy) (k : Nat) (b : List UInt8) {g cap2 n : Nat} (hn : n = e.wait.length)
    (hown : w6.ownsRow 0 165 2 (.slice (some ⟨g, 0, none⟩) (n + 1) cap2) (n + 1) (waitC e.wait ++ waitV k b)) (hgr : w5.grownBy w6 wv.ownBlock) (hat : wv.ownBlock = some g ∨ g = w5.heap.size) :
    RAt (w6.setCell ⟨p, 4, none⟩ (.slice (some ⟨g, 0, none⟩) (n + 1) cap2)) p { e with wait := e.wait ++ [(k, b)] } bB cap (.slice (some ⟨g, 0, none⟩) (n + 1) cap2) fy
    ∧ After (foot p bB wv) w5 (w6.setCell ⟨p, 4, none⟩ (.slice (some ⟨g, 0, none⟩) (n + 1) cap2)) (foot p bB (.slice (some ⟨g, 0, none⟩) (n + 1) cap2)) := by
  have hp := h.var.lt
  have hB := h.lt
  have hgp : g ≠ p := by
    rcases hat with x | x
    · intro y; subst y; exact h.ne2 x
    · omega
  have hgB : g ≠ bB := by
    rcases hat with x | x
    · intro y; subst y; exact h.ne3 x
    · omega
  have hv6 : Var w6 p _ _ := h.var.kept hgr h.ne2
  have g1 : Grows (fun k => wv.ownBlock = some k) w5 w6 := Grows.grown (S := fun k => wv.ownBlock = some k) hgr (fun k hk => hk)
  have hr6 : Row8 w6 bB e.img := h.row.grows g1 h.ne3
  have g2 : Grows (· = p) w6 (w6.setCell ⟨p, 4, none⟩ (.slice (some ⟨g, 0, none⟩) (n + 1) cap2)) := Grows.set _ _ _ rfl
  refine ⟨⟨hv6.set 4 _, hr6.grows g2 h.ne1, Nat.lt_of_lt_of_le hB (Nat.le_trans g1.size g2.size), ?_, h.fuz, h.fuz0, h.capl, h.ne1, ?_, ?_⟩, ?_, ?_⟩
  · have hl : (e.wait ++ [(k, b)]).length = n + 1 := by simp [hn]
    show World.ownsRow _ 0 _ 2 _ (e.wait ++ [(k, b)]).length (waitC (e.wait ++ [(k, b)]))
    rw [hl, waitC_append]
    exact owns_grows hown g2 (fun j hj => by
      have : g = j := by simpa [Value.ownBlock] using hj
      omega)
  · simp [Value.ownBlock]; exact hgp
  · simp [Value.ownBlock]; exact hgB
  · exact (g1.mono (fun j hj => Or.inr (Or.inr hj))).trans g2 (fun j hj => .inl (.inl hj))
  · rintro j (rfl | rfl | hj)
    · exact .inl (.inl rfl)
    · exact .inl (.inr (.inl rfl))
    · have : g = j := by simpa [Value.ownBlock] using hj
      subst this
      rcases hat with x | x
      · exact .inl (.inr (.inr x))
      · exact .inr (by omega)
theorem RAt.push_now {w5 w6 : World} {p : Nat} {e : Dev} {bB cap : Nat} {wv : Value} {fy : Nat} (h : RAt w5 p e bB cap wv fy) (hgr : w5.grownBy w6 wv.ownBlock) : w6.cell? ⟨p, 4, none⟩ = some wv ∧ w6.frozen? ⟨p, 4, none⟩ = false :=
  ⟨(h.var.kept hgr h.ne2).cell (j := 4) rfl, (h.var.kept hgr h.ne2).frozen 4⟩
end Go.Proofs.Ytcmjambbdfangaa.Flash
