/-
  Joined texts: FlashA, Txt, FlashR, FlashS, FlashT, FlashU, FlashV.
-/
import Derived.Test.YtcmjambbdfangaaGreatBytes
import Derived.Test.YtcmjambbdfangaaGreatRunCommon
import Derived.Test.YtcmjambbdfangaaGreatRunTup
import Derived.Test.YtcmjambbdfangaaGreatRunGeomA
import Derived.Test.YtcmjambbdfangaaGreatRunRegion
import Derived.Deep.QuietTactic
import Derived.BigQuiet
/-
  What the document's own Fill and Blank answer.
-/
set_option linter.unusedVariables false
set_option linter.unusedSimpArgs false
namespace Go.Proofs.YtcmjambbdfangaaGreat.Flash
open Go.RowKit
open Own Tup Bytes

def bs (l : List UInt8) : ByteArray := ⟨l.toArray⟩
theorem bs_size (l : List UInt8) : (bs l).size = l.length := rfl
theorem bs_list (b : ByteArray) : bs b.data.toList = b := by cases b; simp [bs]
theorem list_bs (l : List UInt8) : (bs l).data.toList = l := by simp [bs]
theorem bs_append (a b : List UInt8) : bs a ++ bs b = bs (a ++ b) := by
  apply ByteArray.ext
  simp [bs]
theorem bs_inj {a b : List UInt8} : bs a = bs b ↔ a = b := by
  constructor
  · intro h
    have := congrArg (fun x : ByteArray => x.data.toList) h
    simpa [bs] using this
  · rintro rfl; rfl
theorem info8 : (Tryz.prog.info? 5).map (fun i => (i.zero, i.size, i.bytes)) = some (some (.int .u8 0), 1, 1) := by kernel_rfl
def fillAt (c : UInt8) (n k : Nat) : List UInt8 := List.replicate k c ++ List.replicate (n - k) 0
theorem fillAt_set (c : UInt8) {n k : Nat} (h : k < n) : (fillAt c n k).set k c = fillAt c n (k + 1) := by
  unfold fillAt
  rw [show n - k = (n - (k + 1)) + 1 by omega, List.replicate_succ, List.set_append_right _ _ (by simp), List.length_replicate, Nat.sub_self, List.set_cons_zero, List.replicate_succ', List.append_assoc]; rfl
theorem fillAt_length (c : UInt8) {n k : Nat} (h : k ≤ n) : (fillAt c n k).length = n := by simp [fillAt]; omega
theorem max2 {P : Program} (w : World) (ts : Array TypeId) (t : TypeId) (x k m : Int) (hm : m = max x k) : (Builtin.max_ ts t #[.int .i64 x, .int .i64 k]).run P w = .ok (.int .i64 m) w := by
  have e : (Builtin.max_ ts t #[.int .i64 x, .int .i64 k]).run P w = .ok (.int .i64 (if x < k then k else x)) w := by
    simp [Builtin.max_, Builtin.max2]
  rw [e, hm]; congr 2; split <;> omega
set_option maxRecDepth 100000 in
set_option maxHeartbeats 4000000 in
theorem fill_any (c : UInt8) (x : Int) (n : Nat) (hx : x = (n : Int) ∨ (x ≤ 0 ∧ n = 0)) (hn : n ≤ 1000000) (w : World) :
    Calls Tryz.prog 61 #[.int .u8 (c.toNat : Int), .int .i64 x] w fun e w' => e = .returned (.string (bs (List.replicate n c))) ∧ Below w.heap.size w w' := by
  have hmx := fun w ts t => max2 (P := Tryz.prog) w ts t x 0 (n : Int) (by omega)
  obtain ⟨i0, hi, hz0, hz1, hz2⟩ := info_parts info8
  obtain ⟨w1, hmk, hown, hgr⟩ := run_makeSlice_full (P := Tryz.prog) w w.heap.size 55 5 i0 _ 1 Tryz.underlying55 hi hz0 hz1 .i64 .i64 n (by omega) (by rw [hz2]; omega) (by simp only [maxLen]; omega) (Nat.le_refl _)
  have HR1 := Lib.hid (Row8.of_make hown)
  have HB1 := Lib.hid (below_make hgr)
  clear hown hgr hi hz0 hz1 hz2 hx
  go_enter Tryz.func61, Tryz.ntmps61
  go_wp2
  go_loopw [6] (fun i wr => ∃ k : Nat, k ≤ n ∧ i = .int .i64 (k : Int) ∧ Below w.heap.size w wr ∧ Row8 wr w.heap.size (fillAt c n k)) (fun i _ => n - (intOf i).toNat)
  case atStart => exact ⟨0, Nat.zero_le _, rfl, HB1.out, HR1.out⟩
  case round =>
    obtain ⟨k, hk, rfl, hB, hR⟩ := hrel
    clear hmk HR1 HB1 hmx
    by_cases hlt : k < n
    · have d1 : decide ((k : Int) < (n : Int)) = true := by simp; omega
      have d2 : decide (k < n) = true := by simp; omega
      obtain ⟨g1, g2⟩ := hR k (by rw [fillAt_length c hk]; exact hlt)
      have HS := Lib.hid (hR.set k c (by rw [fillAt_length c hk]; exact hlt))
      rw [fillAt_set c hlt] at HS
      have HB := Lib.hid (hB.setCell (p := ⟨w.heap.size, k, none⟩) (Nat.le_refl _) (.int .u8 (c.toNat : Int)))
      clear hR hB
      go_wp2
      refine ⟨⟨k + 1, by omega, by go_num, HB.out, HS.out⟩, by simp [intOf]; omega⟩
    · obtain rfl : k = n := by omega
      have d1 : decide ((k : Int) < (k : Int)) = false := by simp
      have htx := hR.text (P := Tryz.prog) 55 9 5 k Tryz.underlying55 Tryz.underlying5 Tryz.underlying9 k (fillAt_length c hk)
      have he : fillAt c k k = List.replicate k c := by simp [fillAt]
      rw [he] at htx
      have HB := Lib.hid hB
      clear hR hB he
      go_wp2
      go_ret
      exact ⟨rfl, HB.out⟩
theorem blank_snoc (b : ByteArray) (k : Nat) (h : k < b.size) : blank (b.data.toList.take (k + 1)) = (blank (b.data.toList.take k) && (b[k] == 255)) := by
  have hl : k < b.data.toList.length := by simpa using h
  rw [List.take_succ_eq_append_getElem hl]
  simp only [blank, List.all_append, List.all_cons, List.all_nil, Bool.and_true]
  rfl
theorem blank_drop (b : ByteArray) (k : Nat) (h : k < b.size) (h2 : (b[k] == 255) = false) : blank b.data.toList = false := by
  unfold blank
  rw [List.all_eq_false]
  exact ⟨b[k], by simp [ByteArray.getElem_eq_getElem_data], by simpa using h2⟩
set_option maxRecDepth 100000 in
set_option maxHeartbeats 4000000 in
theorem refBlank_any (b : ByteArray) (hb : b.size ≤ maxLen) (w : World) :
    Calls Tryz.prog 91 #[.string b] w fun e w' => e = .returned (.bool (blank b.data.toList)) ∧ w' = w := by
  unfold maxLen at hb
  go_enter Tryz.func91, Tryz.ntmps91
  go_wp2
  go_loop [3] (fun i => ∃ k : Nat, k ≤ b.size ∧ i = .int .i64 (k : Int) ∧ blank (b.data.toList.take k) = true) (fun i => b.size - (intOf i).toNat)
  case atStart => exact ⟨0, Nat.zero_le _, rfl, rfl⟩
  case round =>
    obtain ⟨k, hk, rfl, hbl⟩ := hrel
    by_cases hlt : k < b.size
    · have d1 : decide ((k : Int) < (b.size : Int)) = true := by simp; omega
      have hki : (k : Int) < (b.size : Int) := by omega
      have HS := Lib.hid (blank_snoc b k hlt)
      have HD := Lib.hid (blank_drop b k hlt)
      rw [hbl] at HS
      clear hbl
      cases hc : (b[k] == 255) with
      | true =>
        have q : ((b[k].toNat : Int) != 255) = false := by simp only [beq_iff_eq] at hc; rw [hc]; rfl
        have q2 : ((b[k].toNat : Int) == 255) = true := by simp only [beq_iff_eq] at hc; rw [hc]; rfl
        rw [hc] at HS
        clear hc HD
        go_wp2
        go_round
        case rel => exact ⟨k + 1, by omega, by go_num, by rw [HS.out]; rfl⟩
        case measure => simp [intOf]; omega
      | false =>
        have q2 : ((b[k].toNat : Int) == 255) = false := by
          simp only [beq_eq_false_iff_ne, ne_eq] at hc ⊢
          intro h
          have : b[k].toNat = 255 := by omega
          exact hc (UInt8.toNat_inj.1 this)
        have q : ((b[k].toNat : Int) != 255) = true := by simp only [bne, q2]; rfl
        have HE := Lib.hid (HD.out hc)
        clear hc HS HD
        go_wp2
        go_ret
        exact ⟨by rw [HE.out]; rfl, rfl⟩
    · obtain rfl : k = b.size := by omega
      have d1 : decide ((b.size : Int) < (b.size : Int)) = false := by simp
      have HE := Lib.hid (show blank b.data.toList = true by rw [List.take_of_length_le (by simp)] at hbl; exact hbl)
      clear hbl
      go_wp2
      go_ret
      exact ⟨by rw [HE.out]; rfl, rfl⟩
end Go.Proofs.YtcmjambbdfangaaGreat.Flash
/-
  Texts that are cut; the book's Short.
-/
set_option linter.unusedVariables false
set_option linter.unusedSimpArgs false
namespace Go.Proofs.YtcmjambbdfangaaGreat.Txt
open Go.RowKit
open Flash (bs bs_size bs_list list_bs cut)
open Bytes
theorem min2' {P : Program} (w : World) (ts : Array TypeId) (t : TypeId) (x k m : Int) (hm : m = min x k) : (Builtin.min_ ts t #[.int .i64 x, .int .i64 k]).run P w = .ok (.int .i64 m) w := by
  have e : (Builtin.min_ ts t #[.int .i64 x, .int .i64 k]).run P w = .ok (.int .i64 (if k < x then k else x)) w := by
    simp [Builtin.min_, Builtin.min2]
  rw [e, hm]; congr 2; split <;> omega
theorem cutS (b : List UInt8) (k : Nat) (x : Int) (hx : x = (k : Int)) (hk : k ≤ b.length) (w : World) : (Instr.slice 9 (.string (bs b)) none (some (.int .i64 x)) none).run Tryz.prog w = .ok (.string (bs (b.take k))) w := by
  subst hx
  rw [run_slice_string_h (P := Tryz.prog) w 9 (bs b) Tryz.underlying9 .i64 (k : Int) (by omega) (by rw [bs_size]; omega)]
  congr 2
  apply ByteArray.ext
  rw [ByteArray.data_extract]
  simp [bs]
set_option maxRecDepth 100000 in
theorem shortB_any (s : ByteArray) (hs : s.size ≤ maxLen) (n : Nat) (hn : n ≤ 1000000) (x : Int) (hx : x = (n : Int)) (w : World) :
    Calls Tryz.prog 8 #[.string s, .int .i64 x] w fun e w' => e = .returned (.string (bs (s.data.toList.take n))) ∧ w = w' := by
  unfold maxLen at hs
  subst hx
  obtain ⟨k, hk⟩ : ∃ k : Nat, (k : Int) = min (s.size : Int) (n : Int) := ⟨min s.size n, by omega⟩
  have hmn := fun w ts t => min2' (P := Tryz.prog) w ts t (s.size : Int) (n : Int) (k : Int) hk
  have hsl := cutS s.data.toList k (k : Int) rfl (by simp; omega)
  rw [bs_list] at hsl
  have HE := Lib.hid (show s.data.toList.take k = s.data.toList.take n by
    by_cases h : s.size ≤ n
    · rw [List.take_of_length_le (show s.data.toList.length ≤ n by simpa using h), List.take_of_length_le (by simp; omega)]
    · rw [show k = n by omega])
  clear hk
  go_enter Tryz.func8, Tryz.ntmps8
  go_wp2
  go_ret
  rw [HE.out]
  exact ⟨rfl, rfl⟩
theorem dropS (b : List UInt8) (k : Nat) (x : Int) (hx : x = (k : Int)) (hk : k ≤ b.length) (w : World) : (Instr.slice 9 (.string (bs b)) (some (.int .i64 x)) none none).run Tryz.prog w = .ok (.string (bs (b.drop k))) w := by
  subst hx
  rw [run_slice_string_l (P := Tryz.prog) w 9 (bs b) Tryz.underlying9 .i64 (k : Int) (by omega) (by rw [bs_size]; omega)]
  congr 2
  apply ByteArray.ext
  rw [ByteArray.data_extract]
  simp [bs]
  exact List.take_of_length_le (by rw [List.length_drop]; exact Nat.le_refl _)
theorem cutSS (b : List UInt8) (l h : Nat) (x y : Int) (hx : x = (l : Int)) (hy : y = (h : Int)) (h1 : l ≤ h) (h2 : h ≤ b.length) (w : World) : (Instr.slice 9 (.string (bs b)) (some (.int .i64 x)) (some (.int .i64 y)) none).run Tryz.prog w = .ok (.string (bs (cut b l (h - l)))) w := by
  subst hx hy
  rw [run_slice_string (P := Tryz.prog) w 9 (bs b) .i64 .i64 (l : Int) (h : Int) Tryz.underlying9 (by omega) (by omega) (by rw [bs_size]; omega)]
  congr 2
  apply ByteArray.ext
  rw [ByteArray.data_extract]
  simp [bs, cut]
end Go.Proofs.YtcmjambbdfangaaGreat.Txt
/-
  The document's own device in memory, and what its small calls answer.
-/
set_option linter.unusedVariables false
set_option linter.unusedSimpArgs false
namespace Go.Proofs.YtcmjambbdfangaaGreat.Flash
open Go.RowKit
open Go.Proofs.YtcmjambbdfangaaGreat.Own
open Tup Bytes Foot

theorem _root_.Go.Proofs.YtcmjambbdfangaaGreat.Bytes.Row8.grows {S : Nat → Prop} {w w' : World} {B : Nat} {l : List UInt8} (h : Row8 w B l) (g : Grows S w w') (hn : ¬ S B) : Row8 w' B l := fun j hj => by
  have hB : B < w.heap.size := block_lt_of_cell (h j hj).1
  have e := g.block B hB hn
  obtain ⟨h1, h2⟩ := h j hj
  simp only [World.cell?, World.frozen?] at h1 h2 ⊢
  rw [e]; exact ⟨h1, h2⟩
theorem owns_grows {S : Nat → Prop} {w w' : World} {base : Nat} {e : TypeId} {size : Nat} {v : Value} {n : Nat} {xs : List Value} (h : w.ownsRow base e size v n xs) (g : Grows S w w') (hn : ∀ k, v.ownBlock = some k → ¬ S k) : w'.ownsRow base e size v n xs := by
  refine ⟨h.1, ?_⟩
  rcases h.2 with hv | ⟨b, cap, cur, hv, hg, hh, r⟩
  · exact .inl hv
  · refine .inr ⟨b, cap, cur, hv, hg, ?_, r⟩
    rw [g.block b (Array.getElem?_eq_some_iff.1 hh).1 (hn b (by rw [hv]; rfl))]; exact hh
theorem owns_lt {w : World} {base : Nat} {e : TypeId} {size : Nat} {v : Value} {n : Nat} {xs : List Value} (h : w.ownsRow base e size v n xs) {k : Nat} (hk : v.ownBlock = some k) : k < w.heap.size := by
  rcases h.2 with ⟨hv, _⟩ | ⟨b, cap, cur, hv, hg, hh, r⟩
  · rw [hv] at hk; simp [Value.ownBlock] at hk
  · rw [hv] at hk
    have : b = k := by simpa [Value.ownBlock] using hk
    subst this
    exact (Array.getElem?_eq_some_iff.1 hh).1
/-- what is pending, as cells -/
def waitC (l : List (Nat × List UInt8)) : List Value := l.flatMap fun x => [.int .i64 (x.1 : Int), .string (bs x.2)]
theorem waitC_length (l : List (Nat × List UInt8)) : (waitC l).length = l.length * 2 := by
  induction l with
  | nil => rfl
  | cons x r ih => simp only [waitC, List.flatMap_cons, List.length_append] at ih ⊢; simp only [List.length_cons, List.length_nil, ih]; omega
theorem waitC_append (a b : List (Nat × List UInt8)) : waitC (a ++ b) = waitC a ++ waitC b := by simp [waitC]
theorem waitC_get {l : List (Nat × List UInt8)} {k : Nat} (h : k < l.length) : (waitC l)[2 * k]? = some (.int .i64 (l[k].1 : Int)) ∧ (waitC l)[2 * k + 1]? = some (.string (bs l[k].2)) := by
  induction l generalizing k with
  | nil => simp at h
  | cons x r ih =>
    cases k with
    | zero => exact ⟨rfl, rfl⟩
    | succ k =>
      have := ih (k := k) (by simpa using h)
      simp only [waitC, List.flatMap_cons] at this ⊢
      rw [show 2 * (k + 1) = 2 * k + 2 by omega, show 2 * k + 2 + 1 = (2 * k + 1) + 2 by omega]
      exact this
/-- the document's device, at p: its bytes at bB, what is pending in wv -/
structure RAt (w : World) (p : Nat) (d : Dev) (bB cap : Nat) (wv : Value) (fz : Nat) : Prop where
  var : Var w p 58 [.int .i64 (d.pg : Int), .int .i64 (d.pgs : Int), .int .i64 (d.rgs : Int), .slice (some ⟨bB, 0, none⟩) d.img.length cap, wv, .bool d.fuse.isSome, .int .i64 (fz : Int), .bool d.down]
  row : Row8 w bB d.img
  lt : bB < w.heap.size
  wait : w.ownsRow 0 74 2 wv d.wait.length (waitC d.wait)
  fuz : ∀ k, d.fuse = some k → fz = k
  fuz0 : fz < 9223372036854775808
  capl : d.img.length ≤ cap
  ne1 : bB ≠ p
  ne2 : wv.ownBlock ≠ some p
  ne3 : wv.ownBlock ≠ some bB
/-- the blocks that it has -/
def foot (p bB : Nat) (wv : Value) : Nat → Prop := fun k => k = p ∨ k = bB ∨ wv.ownBlock = some k
/-- a call that only reads, and makes memory -/
theorem RAt.grows {S : Nat → Prop} {w w' : World} {p : Nat} {d : Dev} {bB cap : Nat} {wv : Value} {fz : Nat} (h : RAt w p d bB cap wv fz) (g : Grows S w w') (hn : ∀ k, foot p bB wv k → ¬ S k) : RAt w' p d bB cap wv fz :=
  ⟨g.var h.var (hn p (.inl rfl)), h.row.grows g (hn bB (.inr (.inl rfl))), Nat.lt_of_lt_of_le h.lt g.size, owns_grows h.wait g (fun k hk => hn k (.inr (.inr hk))), h.fuz, h.fuz0, h.capl, h.ne1, h.ne2, h.ne3⟩
theorem RAt.below {w w' : World} {p : Nat} {d : Dev} {bB cap : Nat} {wv : Value} {fz : Nat} (h : RAt w p d bB cap wv fz) (g : Below w.heap.size w w') : RAt w' p d bB cap wv fz := h.grows (Grows.of_below (S := fun _ => False) g) (fun _ _ x => x)
theorem RAt.foot_lt {w : World} {p : Nat} {d : Dev} {bB cap : Nat} {wv : Value} {fz : Nat} (h : RAt w p d bB cap wv fz) : ∀ k, foot p bB wv k → k < w.heap.size := by
  rintro k (rfl | rfl | hk)
  · exact h.var.lt
  · exact h.lt
  · exact owns_lt h.wait hk
/-- what stands at p is turned alone -/
theorem RAt.turn {w w' : World} {p : Nat} {d e : Dev} {bB cap : Nat} {wv : Value} {fz fy : Nat} (h : RAt w p d bB cap wv fz) (g : Grows (· = p) w w')
    (hv : Var w' p 58 [.int .i64 (e.pg : Int), .int .i64 (e.pgs : Int), .int .i64 (e.rgs : Int), .slice (some ⟨bB, 0, none⟩) e.img.length cap, wv, .bool e.fuse.isSome, .int .i64 (fy : Int), .bool e.down])
    (hi : e.img = d.img) (hw : e.wait = d.wait) (hf : ∀ k, e.fuse = some k → fy = k) (hf0 : fy < 9223372036854775808) : RAt w' p e bB cap wv fy :=
  ⟨hv, by rw [hi]; exact h.row.grows g h.ne1, Nat.lt_of_lt_of_le h.lt g.size, by rw [hw]; exact owns_grows h.wait g (fun k hk e => h.ne2 (by rw [← e]; exact hk)), hf, hf0, by rw [hi]; exact h.capl, h.ne1, h.ne2, h.ne3⟩
def ptr (p : Nat) : Value := .pointer (some ⟨p, 0, none⟩)
set_option maxRecDepth 100000 in
theorem refPages_any {w : World} {p : Nat} {d : Dev} {bB cap : Nat} {wv : Value} {fz : Nat} (h : RAt w p d bB cap wv fz) (hd : d.Ok) :
    Calls Tryz.prog 89 #[ptr p] w fun e w' => e = .returned (.int .i64 (d.n : Int)) ∧ ∃ k, w' = w.drewN k := by
  have c1 := h.var.cell (j := 1) rfl
  have c2 := h.var.cell (j := 2) rfl
  have hm : 0 ≤ (d.pgs : Int) * (d.rgs : Int) ∧ (d.pgs : Int) * (d.rgs : Int) ≤ 120 := by
    have := hd.n_le
    unfold Dev.n at this
    constructor
    · exact Int.mul_nonneg (by omega) (by omega)
    · rw [← Int.natCast_mul]; omega
  have HV := Lib.hid (show Ending.returned (.int .i64 ((d.pgs : Int) * (d.rgs : Int))) = .returned (.int .i64 (d.n : Int)) by unfold Dev.n; rw [Int.natCast_mul])
  clear h hd
  unfold ptr
  go_enter Tryz.func89, Tryz.ntmps89
  go_wp2
  go_quiet (fail)
  go_wp2
  go_ret
  exact ⟨HV.out, _, rfl⟩
set_option maxRecDepth 100000 in
theorem refBlows_any {w : World} {p : Nat} {d : Dev} {bB cap : Nat} {wv : Value} {fz : Nat} (h : RAt w p d bB cap wv fz) :
    Calls Tryz.prog 34 #[ptr p] w fun e w' => e = .returned (.bool d.blow.1) ∧ Grows (· = p) w w' ∧ ∃ fy, RAt w' p d.blow.2 bB cap wv fy := by
  have c5 := h.var.cell (j := 5) rfl
  have c6 := h.var.cell (j := 6) rfl
  have c7 := h.var.cell (j := 7) rfl
  have f6 := h.var.frozen 6
  have f7 := h.var.frozen 7
  have HA := Lib.hid h
  unfold ptr
  rcases hf : d.fuse with _ | k
  · rw [hf] at c5
    have HE := Lib.hid (show d.blow = (false, d) by unfold Dev.blow; rw [hf])
    clear h hf
    go_enter Tryz.func34, Tryz.ntmps34
    go_wp2
    go_ret
    rw [HE.out]
    exact ⟨rfl, .refl _ _, fz, HA.out⟩
  · obtain rfl := h.fuz k hf
    rw [hf] at c5
    cases fz with
    | zero =>
      have HE := Lib.hid (show d.blow = (true, { d with down := true }) by unfold Dev.blow; rw [hf])
      have HF := Lib.hid hf
      clear h hf
      go_enter Tryz.func34, Tryz.ntmps34
      go_wp2
      go_ret
      rw [HE.out]
      refine ⟨rfl, Grows.set _ _ _ rfl, 0, HA.out.turn (Grows.set _ _ _ rfl) ?_ rfl rfl HA.out.fuz HA.out.fuz0⟩
      exact HA.out.var.set 7 (.bool true)
    | succ k =>
      have HE := Lib.hid (show d.blow = (false, { d with fuse := some k }) by unfold Dev.blow; rw [hf])
      have HF := Lib.hid hf
      have b0 := h.fuz0
      have d1 : (((k + 1 : Nat) : Int) == 0) = false := by simp; omega
      have HS := Lib.hid (show ((k + 1 : Nat) : Int) - 1 = (k : Int) by omega)
      have c6' : w.cell? ⟨p, 6, none⟩ = some (.int .i64 ((k + 1 : Nat) : Int)) := c6
      generalize hz : ((k + 1 : Nat) : Int) = z at *
      clear h hf c6
      go_enter Tryz.func34, Tryz.ntmps34
      go_wp2
      go_ret
      rw [HE.out]
      refine ⟨rfl, Grows.set _ _ _ rfl, k, HA.out.turn (Grows.set _ _ _ rfl) ?_ rfl rfl (by intro j hj; simpa using hj) (by have := HA.out.fuz0; omega)⟩
      have := HA.out.var.set 6 (.int .i64 (z - 1))
      rw [HF.out] at this
      rw [HS.out] at this ⊢
      exact this
end Go.Proofs.YtcmjambbdfangaaGreat.Flash
/-
  What the document's own device says of one page: is it pending, what does it hold.
-/
set_option linter.unusedVariables false
set_option linter.unusedSimpArgs false
namespace Go.Proofs.YtcmjambbdfangaaGreat.Flash
open Go.RowKit
open Go.Proofs.YtcmjambbdfangaaGreat.Own
open Tup Bytes Foot
open Go.Proofs.YtcmjambbdfangaaGreat.Region (fill Then Deps Each wp_region_is wp_region_is_tail)

theorem ret_bool {a b : Bool} (h : a = b) : Ending.returned (.bool a) = .returned (.bool b) := by rw [h]
theorem ret_string {a b : ByteArray} (h : a = b) : Ending.returned (.string a) = .returned (.string b) := by rw [h]
theorem RAt.pend {w : World} {p : Nat} {d : Dev} {bB cap : Nat} {a : Option Addr} {m c fz k : Nat} (h : RAt w p d bB cap (.slice a m c) fz) (hk : k < d.wait.length) :
    ∃ g, a = some ⟨g, 0, none⟩ ∧ w.cell? ⟨g, k * 2, none⟩ = some (.int .i64 (d.wait[k].1 : Int)) ∧ w.cell? ⟨g, k * 2 + 1, none⟩ = some (.string (bs d.wait[k].2)) := by
  obtain ⟨h0, h1⟩ := waitC_get hk
  rcases At.of_owns h.wait with hn | ⟨b, off, ha, hl⟩
  · have := waitC_length d.wait
    rw [hn] at this
    simp at this; omega
  · obtain ⟨_, rfl, _, _⟩ := owns_block h.wait b off ha
    refine ⟨b, ha, ?_, ?_⟩
    · have := hl _ _ h0
      rwa [Nat.zero_add, Nat.mul_comm] at this
    · have := hl _ _ h1
      rwa [Nat.zero_add, Nat.mul_comm] at this
theorem RAt.slice {w : World} {p : Nat} {d : Dev} {bB cap : Nat} {wv : Value} {fz : Nat} (h : RAt w p d bB cap wv fz) : ∃ a c, wv = .slice a d.wait.length c := owns_slice h.wait
theorem any_take {α : Type} {l : List α} {f : α → Bool} {k : Nat} (h : k < l.length) : (l.take (k + 1)).any f = ((l.take k).any f || f l[k]) := by
  rw [List.take_succ_eq_append_getElem h, List.any_append]; simp
theorem any_hit {α : Type} {l : List α} {f : α → Bool} {k : Nat} (h : k < l.length) (hf : f l[k] = true) : l.any f = true := List.any_eq_true.2 ⟨l[k], List.getElem_mem h, hf⟩
set_option maxRecDepth 100000 in
theorem refWaits_any {w : World} {p : Nat} {d : Dev} {bB cap : Nat} {wv : Value} {fz : Nat} (h : RAt w p d bB cap wv fz) (hd : d.Ok) (q : Nat) :
    Calls Tryz.prog 90 #[ptr p, .int .i64 (q : Int)] w fun e w' => e = .returned (.bool (d.waits q)) ∧ w = w' := by
  obtain ⟨a, c, rfl⟩ := h.slice
  have c4 := h.var.cell (j := 4) rfl
  have hn := hd.wait_le
  have HA := Lib.hid h
  unfold ptr
  clear h hd
  generalize hL : d.wait.length = L at *
  have HL := Lib.hid hL
  clear hL
  go_enter Tryz.func90, Tryz.ntmps90
  go_wp2
  go_loop [5] (fun i => ∃ k : Nat, i = .int .i64 (k : Int) ∧ k ≤ L ∧ (d.wait.take k).any (fun x => decide (x.1 = q)) = false) (fun i => L - (intOf i).toNat)
  case atStart => exact ⟨0, rfl, Nat.zero_le _, rfl⟩
  case round =>
    obtain ⟨k, rfl, hk, hv⟩ := hrel
    have HN := Lib.hid hv
    clear hv
    by_cases hlt : k < L
    · have hkl : k < d.wait.length := by rw [HL.out]; exact hlt
      obtain ⟨g, ha, e0, -⟩ := HA.out.pend hkl
      subst ha
      have HT := Lib.hid (any_take (f := fun x => decide (x.1 = q)) hkl)
      have HH := Lib.hid (fun hf => any_hit (f := fun x => decide (x.1 = q)) hkl hf)
      have d1 : decide ((k : Int) < (L : Int)) = true := by simp; omega
      have d2 : decide (k < L) = true := by simp; omega
      generalize hy : (d.wait[k]).1 = y at *
      clear hy
      by_cases he : y = q
      · subst he
        have HE := Lib.hid (show d.waits y = true from HH.out (by simp))
        clear HT HH
        go_wp2
        go_ret
        exact ⟨ret_bool HE.out.symm, rfl⟩
      · have dq : ((y : Int) == (q : Int)) = false := by simp; omega
        have dq2 : (y == q) = false := by simp; omega
        have HK := Lib.hid (show (d.wait.take (k + 1)).any (fun x => decide (x.1 = q)) = false by rw [HT.out, HN.out]; simp; exact he)
        clear HT HH
        go_wp2
        go_round
        case rel => exact ⟨k + 1, by go_num, by omega, HK.out⟩
        case measure => simp [intOf]; omega
    · obtain rfl : k = L := by omega
      have d1 : decide ((k : Int) < (k : Int)) = false := by simp
      have HE := Lib.hid (show d.waits q = false by
        have := HN.out
        rw [List.take_of_length_le (by rw [HL.out]; exact Nat.le_refl _)] at this
        exact this)
      go_wp2
      go_ret
      exact ⟨ret_bool HE.out.symm, rfl⟩
theorem slice8 {l h cap L : Nat} (bB : Nat) (h1 : l < h) (h2 : h ≤ cap) (x y : Int) (hx : x = (l : Int)) (hy : y = (h : Int)) (w : World) :
    (Instr.slice 55 (.slice (some ⟨bB, 0, none⟩) L cap) (some (.int .i64 x)) (some (.int .i64 y)) none).run Tryz.prog w = .ok (.slice (some ⟨bB, l, none⟩) (h - l) (cap - l)) w := by
  subst hx hy
  have hu : Tryz.prog.underlying 55 = some (.slice (Tryz.prog.elem 55)) := by kernel_rfl
  have hz : ∀ w, (sizeOf (Tryz.prog.elem 55)).run Tryz.prog w = .ok 1 w := by
    have : Tryz.prog.elem 55 = 5 := by kernel_rfl
    rw [this]; intro w
    obtain ⟨i0, hi, hz0, hz1, hz2⟩ := info_parts info8
    simp [sizeOf, hi, hz1] <;> rfl
  rw [run_slice_lh (P := Tryz.prog) w 55 (some ⟨bB, 0, none⟩) L cap hu .i64 .i64 (l : Int) (h : Int) (by omega) (by omega) (by omega), hz]
  simp only [Result.andThen, sliced, Int.toNat_natCast, Nat.mul_one]
  rw [if_neg (by omega)]
  simp [Addr.add]
  intro e; omega
theorem text8 {w : World} {bB : Nat} {img : List UInt8} (h : Row8 w bB img) (l n cap : Nat) (hl : l + n ≤ img.length) :
    (convert 55 9 (.slice (some ⟨bB, l, none⟩) n cap)).run Tryz.prog w = .ok (.string (bs (cut img l n))) w := by
  have hlen := cut_length hl
  have := run_convert_bytes_back (P := Tryz.prog) w 55 9 5 ⟨bB, l, none⟩ cap (cut img l n) Tryz.underlying55 Tryz.underlying5 Tryz.underlying9 (fun j hj => by
    rw [hlen] at hj
    have hg := (h (l + j) (by omega)).1
    rw [show (⟨bB, l, none⟩ : Addr).add j = ⟨bB, l + j, none⟩ by unfold Addr.add; split <;> simp_all]
    rw [hg]
    congr 3
    simp only [cut, List.getElem_take, List.getElem_drop]
    rw [List.getD_eq_getElem?_getD, List.getElem?_eq_getElem (by omega)]; rfl)
  rw [hlen] at this
  exact this
theorem held_take {d : Dev} {q k : Nat} (h : k < d.wait.length) (s : List UInt8) :
    (d.wait.take (k + 1)).foldl (fun s x => if x.1 = q then x.2 else s) s = if d.wait[k].1 = q then d.wait[k].2 else (d.wait.take k).foldl (fun s x => if x.1 = q then x.2 else s) s := by
  rw [List.take_succ_eq_append_getElem h, List.foldl_append]; rfl
set_option maxRecDepth 100000 in
theorem refHeld_any {w : World} {p : Nat} {d : Dev} {bB cap : Nat} {wv : Value} {fz : Nat} (h : RAt w p d bB cap wv fz) (hd : d.Ok) (q : Nat) (hq : q < d.n) :
    Calls Tryz.prog 92 #[ptr p, .int .i64 (q : Int)] w fun e w' => e = .returned (.string (bs (d.held q))) ∧ Below w.heap.size w w' := by
  obtain ⟨a, c, rfl⟩ := h.slice
  have hn := hd.wait_le
  have hpg := hd.page hq
  have him := hd.img_le
  have hp1 := hd.p1
  have hp0 := hd.p0
  have hq1 : q < 120 := Nat.lt_of_lt_of_le hq hd.n_le
  have hcap := h.capl
  have m1 : (q : Int) * (d.pg : Int) = ((q * d.pg : Nat) : Int) := by rw [Int.natCast_mul]
  have m2 : ((q : Int) + 1) * (d.pg : Int) = ((q * d.pg + d.pg : Nat) : Int) := by rw [Int.add_mul, Int.natCast_add, Int.natCast_mul]; omega
  have b1 : 0 ≤ (q : Int) * (d.pg : Int) ∧ (q : Int) * (d.pg : Int) ≤ 100000 := by rw [m1]; omega
  have b2 : 0 ≤ ((q : Int) + 1) * (d.pg : Int) ∧ ((q : Int) + 1) * (d.pg : Int) ≤ 100000 := by rw [m2]; omega
  have hsl := slice8 (L := d.img.length) bB (show q * d.pg < q * d.pg + d.pg by omega) (show q * d.pg + d.pg ≤ cap by omega) _ _ m1 m2
  rw [show q * d.pg + d.pg - q * d.pg = d.pg by omega] at hsl
  have HTX := Lib.hid (fun wx (hb : Below w.heap.size w wx) => text8 (h.below hb).row (q * d.pg) d.pg (cap - q * d.pg) hpg)
  have HA := Lib.hid h
  unfold ptr
  clear h hd
  generalize hL : d.wait.length = L at *
  have HL := Lib.hid hL
  clear hL
  generalize hS : cut d.img (q * d.pg) d.pg = S0 at *
  have HS := Lib.hid hS
  clear hS hq hpg m1 m2
  go_enter Tryz.func92, Tryz.ntmps92
  go_wp2
  refine wp_region_is [7, 8, 9, 10, 11, 12, 13, 14, 15, 16, 17, 18, 19, 20, 21, 22, 23, 24, 25, 26, 27, 5] (fun w' => Below w.heap.size w w')
    [.pointer (some ⟨p, 0, none⟩), .pointer (some ⟨p, 0, none⟩), .pointer (some ⟨p, 3, none⟩), .slice (some ⟨bB, 0, none⟩) d.img.length cap, .int .i64 (q : Int), .pointer (some ⟨p, 0, none⟩), .pointer (some ⟨p, 0, none⟩), .pointer (some ⟨p, 0, none⟩), .pointer (some ⟨p, 0, none⟩), .int .i64 (d.pg : Int), .int .i64 ((q : Int) * (d.pg : Int)), .int .i64 (q : Int), .int .i64 ((q : Int) + 1), .pointer (some ⟨p, 0, none⟩), .pointer (some ⟨p, 0, none⟩), .pointer (some ⟨p, 0, none⟩), .pointer (some ⟨p, 0, none⟩), .int .i64 (d.pg : Int), .int .i64 (((q : Int) + 1) * (d.pg : Int)), .slice (some ⟨bB, q * d.pg, none⟩) d.pg (cap - q * d.pg), .string (bs S0), .string (bs S0)] (by kernel_rfl) (by kernel_rfl) rfl (by decide) (by simp) (Below.refl _ _).drew ?each ?done
  case each =>
    simp only [Each]
    repeat' (first | exact trivial | refine And.intro ?_ ?_)
    all_goals
      intro ys wx hBx hdeps
      simp only [Deps, Region.binds, List.getD_cons_zero, List.getD_cons_succ, forall_const, and_true] at hdeps
      have c0 : wx.cell? ⟨p, 0, none⟩ = some (.int .i64 (d.pg : Int)) := (HA.out.below hBx).var.cell (j := 0) rfl
      have c3 : wx.cell? ⟨p, 3, none⟩ = some (.slice (some ⟨bB, 0, none⟩) d.img.length cap) := (HA.out.below hBx).var.cell (j := 3) rfl
      have htx := HTX.out wx hBx
      simp only [hdeps, fill, List.foldl_cons, List.foldl_nil, Act.put, List.setIfInBounds_toArray, List.set_cons_succ, List.set_cons_zero]
      first
        | (go_wp2_with fail; exact ⟨_, rfl, rfl, hBx, Below.refl _ _⟩)
  case done =>
    intro ys wx hBx hV
    have h5 : ys 5 = .string (bs S0) := hV 21 (by decide)
    have HA5 := Lib.hid (HA.out.below hBx)
    have c4 := HA5.out.var.cell (j := 4) rfl
    have HB5 := Lib.hid hBx
    clear hBx hV HA HTX hsl
    simp only [h5, fill, List.drop_succ_cons, List.drop_zero, List.foldl_cons, List.foldl_nil, Act.put, List.setIfInBounds_toArray, List.set_cons_succ, List.set_cons_zero]
    go_wp2
    go_loop [5, 6] (fun s i => ∃ k : Nat, i = .int .i64 (k : Int) ∧ k ≤ L ∧ s = .string (bs ((d.wait.take k).foldl (fun s x => if x.1 = q then x.2 else s) S0))) (fun _ i => L - (intOf i).toNat)
    case atStart => exact ⟨0, rfl, Nat.zero_le _, rfl⟩
    case round =>
      obtain ⟨k, rfl, hk, rfl⟩ := hrel
      by_cases hlt : k < L
      · have hkl : k < d.wait.length := by rw [HL.out]; exact hlt
        obtain ⟨g, ha, e0, e1⟩ := HA5.out.pend hkl
        subst ha
        have HT := Lib.hid (held_take (q := q) hkl S0)
        have d1 : decide ((k : Int) < (L : Int)) = true := by simp; omega
        have d2 : decide (k < L) = true := by simp; omega
        generalize hy : d.wait[k] = y at *
        clear hy
        obtain ⟨y1, y2⟩ := y
        generalize hz : (d.wait.take k).foldl (fun s x => if x.1 = q then x.2 else s) S0 = sk at *
        clear hz
        by_cases he : y1 = q
        · subst he
          rw [if_pos rfl] at HT
          have HK := Lib.hid (congrArg bs HT.out)
          clear HT
          simp only at e0 e1
          go_wp2
          go_round
          case rel => exact ⟨k + 1, by go_num, by omega, by rw [HK.out]⟩
          case measure => simp [intOf]; omega
        · have dq : ((y1 : Int) == (q : Int)) = false := by simp; omega
          have dq2 : (y1 == q) = false := by simp; omega
          rw [if_neg he] at HT
          have HK := Lib.hid (congrArg bs HT.out)
          clear HT
          simp only at e0 e1
          go_wp2
          go_round
          case rel => exact ⟨k + 1, by go_num, by omega, by rw [HK.out]⟩
          case measure => simp [intOf]; omega
      · obtain rfl : k = L := by omega
        have d1 : decide ((k : Int) < (k : Int)) = false := by simp
        have HE := Lib.hid (show bs ((d.wait.take k).foldl (fun s x => if x.1 = q then x.2 else s) S0) = bs (d.held q) by
          rw [List.take_of_length_le (by rw [HL.out]; exact Nat.le_refl _), ← HS.out]; rfl)
        rw [HE.out]
        go_wp2
        go_ret
        exact ⟨rfl, HB5.out⟩
end Go.Proofs.YtcmjambbdfangaaGreat.Flash
/-
  What the document's own device answers to Read and Program.
-/
set_option linter.unusedVariables false
set_option linter.unusedSimpArgs false
namespace Go.Proofs.YtcmjambbdfangaaGreat.Flash
open Go.RowKit
open Go.Proofs.YtcmjambbdfangaaGreat.Own
open Tup Bytes Foot
open Go.Proofs.YtcmjambbdfangaaGreat.Region (fill Then Deps Each wp_region_is wp_region_is_tail)

theorem below_drewN (w : World) (k : Nat) : Below w.heap.size w (w.drewN k) := ⟨rfl, rfl, rfl, Nat.le_refl _, fun _ _ => rfl⟩
theorem bel2 {a w1 w2 : World} (h : Below a.heap.size a w1) (k : Below w1.heap.size w1 w2) : Below a.heap.size a w2 := h.trans (k.mono h.size)
theorem ret_code {s t : ByteArray} {a b : Nat} (h1 : s = t) (h2 : a = b) : Ending.returned (.tuple #[.string s, .int .i64 (a : Int)]) = .returned (.tuple #[.string t, .int .i64 (b : Int)]) := by rw [h1, h2]
theorem ret_nat {a b : Nat} (h : a = b) : Ending.returned (.int .i64 (a : Int)) = .returned (.int .i64 (b : Int)) := by rw [h]
/-- the device, with the blocks that it has -/
def RHas (w : World) (p : Nat) (d : Dev) (S : Nat → Prop) : Prop := ∃ bB cap wv fz, RAt w p d bB cap wv fz ∧ S = foot p bB wv
theorem RHas.below {w w' : World} {p : Nat} {d : Dev} {S : Nat → Prop} (h : RHas w p d S) (g : Below w.heap.size w w') : RHas w' p d S := by
  obtain ⟨a, b, c, f, h, rfl⟩ := h
  exact ⟨a, b, c, f, h.below g, rfl⟩
theorem RHas.grows {T S : Nat → Prop} {w w' : World} {p : Nat} {d : Dev} (h : RHas w p d S) (g : Grows T w w') (hn : ∀ k, S k → ¬ T k) : RHas w' p d S := by
  obtain ⟨a, b, c, f, h, rfl⟩ := h
  exact ⟨a, b, c, f, h.grows g hn, rfl⟩
theorem RHas.lt {w : World} {p : Nat} {d : Dev} {S : Nat → Prop} (h : RHas w p d S) : ∀ k, S k → k < w.heap.size := by
  obtain ⟨a, b, c, f, h, rfl⟩ := h
  exact h.foot_lt
theorem has_cases (d : Dev) (q : Int) : (decide (q < 0) = true ∧ d.has q = false) ∨ (decide (q < 0) = false ∧ decide ((d.n : Int) ≤ q) = true ∧ d.has q = false) ∨ (decide (q < 0) = false ∧ decide ((d.n : Int) ≤ q) = false ∧ d.has q = true) := by
  unfold Dev.has
  by_cases h1 : q < 0 <;> by_cases h2 : (d.n : Int) ≤ q
  · left; simp [h1] <;> omega
  · left; simp [h1] <;> omega
  · right; left; simp [h1, h2] <;> omega
  · right; right; simp [h1, h2] <;> omega
end Go.Proofs.YtcmjambbdfangaaGreat.Flash
/-
  What the document's own device answers to Program.
-/
set_option linter.unusedVariables false
set_option linter.unusedSimpArgs false
namespace Go.Proofs.YtcmjambbdfangaaGreat.Flash
open Go.RowKit
open Go.Proofs.YtcmjambbdfangaaGreat.Own
open Tup Bytes Foot

theorem held_length {d : Dev} (h : d.Ok) {k : Nat} (hk : k < d.n) : (d.held k).length = d.pg := by
  have : ∀ (l : List (Nat × List UInt8)) (s : List UInt8), (∀ x ∈ l, x.2.length = d.pg) → s.length = d.pg → (l.foldl (fun s x => if x.1 = k then x.2 else s) s).length = d.pg := by
    intro l
    induction l with
    | nil => intro s _ hs; exact hs
    | cons x r ih =>
      intro s hx hs
      rw [List.foldl_cons]
      refine ih _ (fun y hy => hx y (List.mem_cons_of_mem _ hy)) ?_
      split
      · exact hx x (List.mem_cons_self ..)
      · exact hs
  exact this _ _ (fun x hx => (h.wait x hx).2) (cut_length (h.page hk))
theorem owns_below {w w' : World} {base : Nat} {e : TypeId} {size : Nat} {v : Value} {n : Nat} {xs : List Value} (h : w.ownsRow base e size v n xs) (g : Below w.heap.size w w') : w'.ownsRow base e size v n xs := owns_grows h (Grows.of_below (S := fun _ => False) g) (fun _ _ x => x)
theorem infoWait : (Tryz.prog.info? 74).map (fun i => (i.zero, i.size, i.bytes)) = some (some (.agg #[.int .i64 0, .string ⟨#[]⟩]), 2, 24) := by kernel_rfl
theorem after_below {S : Nat → Prop} {w w' : World} (g : Below w.heap.size w w') : After S w w' S := ⟨.of_below g, fun _ h => .inl h⟩
theorem After.of_grows {S T : Nat → Prop} {w w' : World} (g : Grows T w w') (h : ∀ k, T k → S k) : After S w w' S := ⟨g.mono h, fun _ h => .inl h⟩
def waitV (k : Nat) (b : List UInt8) : List Value := [.int .i64 (k : Int), .string (bs b)]
/-- a page is laid behind what is pending -/
theorem RAt.push {w5 w6 : World} {p : Nat} {e : Dev} {bB cap : Nat} {wv : Value} {fy : Nat} (h : RAt w5 p e bB cap wv fy) (o : Obj) (k : Nat) (b : List UInt8) {g cap2 n : Nat} (hn : n = e.wait.length)
    (hown : w6.ownsRow 0 74 2 (.slice (some ⟨g, 0, none⟩) (n + 1) cap2) (n + 1) (waitC e.wait ++ waitV k b)) (hgr : (w5.alloc o).grownBy w6 wv.ownBlock) (hat : wv.ownBlock = some g ∨ g = (w5.alloc o).heap.size) :
    RAt (w6.setCell ⟨p, 4, none⟩ (.slice (some ⟨g, 0, none⟩) (n + 1) cap2)) p { e with wait := e.wait ++ [(k, b)] } bB cap (.slice (some ⟨g, 0, none⟩) (n + 1) cap2) fy
    ∧ After (foot p bB wv) w5 (w6.setCell ⟨p, 4, none⟩ (.slice (some ⟨g, 0, none⟩) (n + 1) cap2)) (foot p bB (.slice (some ⟨g, 0, none⟩) (n + 1) cap2)) := by
  have hp := h.var.lt
  have hB := h.lt
  have hs : (w5.alloc o).heap.size = w5.heap.size + 1 := by simp
  have hgp : g ≠ p := by
    rcases hat with x | x
    · intro y; subst y; exact h.ne2 x
    · omega
  have hgB : g ≠ bB := by
    rcases hat with x | x
    · intro y; subst y; exact h.ne3 x
    · omega
  have hv6 : Var w6 p _ _ := (h.var.alloc o).kept hgr h.ne2
  have g1 : Grows (fun k => wv.ownBlock = some k) w5 w6 := (Grows.alloc (fun _ => False) w5 o).mono (fun _ x => x.elim) |>.trans (Grows.grown (S := fun k => wv.ownBlock = some k) hgr (fun k hk => hk)) (fun j hj => .inl hj)
  have hr6 : Row8 w6 bB e.img := h.row.grows g1 h.ne3
  have g2 : Grows (· = p) w6 (w6.setCell ⟨p, 4, none⟩ (.slice (some ⟨g, 0, none⟩) (n + 1) cap2)) := Grows.set _ _ _ rfl
  refine ⟨⟨hv6.set 4 _, hr6.grows g2 h.ne1, Nat.lt_of_lt_of_le hB (Nat.le_trans g1.size g2.size), ?_, h.fuz, h.fuz0, h.capl, h.ne1, ?_, ?_⟩, ?_, ?_⟩
  · have hl : (e.wait ++ [(k, b)]).length = n + 1 := by simp [hn]
    show World.ownsRow _ 0 _ 2 _ (e.wait ++ [(k, b)]).length (waitC (e.wait ++ [(k, b)]))
    rw [hl, waitC_append]
    exact owns_grows hown g2 (fun j hj => by
      have : g = j := by simpa [Value.ownBlock] using hj
      omega)
  · simp [Value.ownBlock]; exact hgp
  · simp [Value.ownBlock]; exact hgB
  · exact (g1.mono (fun j hj => Or.inr (Or.inr hj))).trans g2 (fun j hj => .inl (.inl hj))
  · rintro j (rfl | rfl | hj)
    · exact .inl (.inl rfl)
    · exact .inl (.inr (.inl rfl))
    · have : g = j := by simpa [Value.ownBlock] using hj
      subst this
      rcases hat with x | x
      · exact .inl (.inr (.inr x))
      · exact .inr (by omega)
theorem RAt.push_var {w5 w6 : World} {p : Nat} {e : Dev} {bB cap : Nat} {wv : Value} {fy : Nat} (h : RAt w5 p e bB cap wv fy) (o : Obj) (hgr : (w5.alloc o).grownBy w6 wv.ownBlock) : w6.cell? ⟨p, 4, none⟩ = some wv ∧ w6.frozen? ⟨p, 4, none⟩ = false :=
  ⟨((h.var.alloc o).kept hgr h.ne2).cell (j := 4) rfl, ((h.var.alloc o).kept hgr h.ne2).frozen 4⟩
theorem waitV_one (k : Nat) (b : List UInt8) : ∀ u ∈ waitV k b, u.oneCell' = true := by simp [waitV, Value.oneCell']
set_option maxRecDepth 100000 in
set_option maxHeartbeats 4000000 in
theorem refProgram_any {w : World} {p : Nat} {d : Dev} {bB cap : Nat} {wv : Value} {fz : Nat} (h : RAt w p d bB cap wv fz) (hd : d.Ok) (q : Int) (b : ByteArray) :
    Calls Tryz.prog 51 #[ptr p, .int .i64 q, .string b] w fun e w' => e = .returned (.int .i64 ((programD d q b.data.toList).1 : Int)) ∧ ∃ S, RHas w' p (programD d q b.data.toList).2 S ∧ After (foot p bB wv) w w' S := by
  have c0 := h.var.cell (j := 0) rfl
  have c7 := h.var.cell (j := 7) rfl
  have HA := Lib.hid h
  have HP := Lib.hid (fun w' (hb : Below w.heap.size w w') => refPages_any (h.below hb) hd)
  unfold ptr at HP ⊢
  rcases hdn : d.down with _ | _
  · rw [hdn] at c7
    rcases has_cases d q with ⟨h1, h2⟩ | ⟨h1, h2, h3⟩ | ⟨h1, h2, h3⟩
    · have HE := Lib.hid (show programD d q b.data.toList = (1, d) from program_arg hdn (.inl h2))
      clear h hdn h2
      go_enter Tryz.func51, Tryz.ntmps51
      go_wp2
      go_ret
      rw [HE.out]
      exact ⟨rfl, _, ⟨_, _, _, _, HA.out, rfl⟩, After.refl _ _⟩
    · have HE := Lib.hid (show programD d q b.data.toList = (1, d) from program_arg hdn (.inl h3))
      clear h hdn h3
      go_enter Tryz.func51, Tryz.ntmps51
      go_wp2_with (go_at_call 89; (with_reducible refine (HP.out _ (Below.refl _ _)).mono ?_); rintro e w3 ⟨rfl, k3, rfl⟩)
      go_ret
      rw [HE.out]
      exact ⟨rfl, _, ⟨_, _, _, _, HA.out.below (below_drewN _ _), rfl⟩, after_below (below_drewN _ _)⟩
    · obtain ⟨i1, i2⟩ := has_lt h3
      obtain ⟨k, rfl⟩ : ∃ k : Nat, q = (k : Int) := ⟨q.toNat, by omega⟩
      rw [Int.toNat_natCast] at i1
      have h4 : decide (d.n ≤ k) = false := by simp; omega
      by_cases hsz : b.size = d.pg
      · have e1 : ((b.size : Int) != (d.pg : Int)) = false := by simp [hsz]
        have e2 : ((b.size : Int) == (d.pg : Int)) = true := by simp [hsz]
        have e3 : (b.size == d.pg) = true := by simp [hsz]
        have HW := Lib.hid (fun w' (hb : Below w.heap.size w w') => refWaits_any (h.below hb) hd k)
        have HH := Lib.hid (fun w' (hb : Below w.heap.size w w') => refHeld_any (h.below hb) hd k i1)
        unfold ptr at HW HH
        have hbl : b.data.toList.length = d.pg := by simpa using hsz
        have hp1 := hd.p1
        rcases hwt : d.waits k with _ | _
        · rw [hwt] at HW
          have hhl : (bs (d.held k)).size ≤ maxLen := by
            rw [bs_size]
            have hpl : (d.held k).length = d.pg := held_length hd i1
            rw [hpl]; unfold maxLen; omega
          have HB := Lib.hid (fun w' => refBlank_any (bs (d.held k)) hhl w')
          rw [list_bs] at HB
          clear hhl
          rcases hbk : blank (d.held k) with _ | _
          · rw [hbk] at HB
            have HE := Lib.hid (show programD d k b.data.toList = (7, d) from program_state hdn i1 hbl (.inr hbk))
            clear h hdn h3 hwt hbk i1 i2 hbl hsz
            go_enter Tryz.func51, Tryz.ntmps51
            go_wp2_with (first
              | (go_at_call 89; (with_reducible refine (HP.out _ (Below.refl _ _)).mono ?_); rintro e w3 ⟨rfl, k3, rfl⟩)
              | (go_at_call 90; (with_reducible refine (HW.out _ (below_drewN _ _)).mono ?_); rintro e w4 ⟨rfl, rfl⟩)
              | (go_at_call 92; (with_reducible refine (HH.out _ (below_drewN _ _)).mono ?_); rintro e w4 ⟨rfl, hb4⟩)
              | (go_at_call 91; (with_reducible refine (HB.out _).mono ?_); rintro e w5 ⟨rfl, rfl⟩))
            go_ret
            rw [HE.out]
            exact ⟨rfl, _, ⟨_, _, _, _, HA.out.below (bel2 (below_drewN _ _) hb4), rfl⟩, after_below (bel2 (below_drewN _ _) hb4)⟩
          · rw [hbk] at HB
            have HE := Lib.hid (program_ok hdn i1 hbl hwt hbk)
            have HR := Lib.hid (fun w' (hb : Below w.heap.size w w') => refBlows_any (h.below hb))
            unfold ptr at HR
            have hwl := hd.wait_le
            obtain ⟨a, c, rfl⟩ := h.slice
            have hbw := (blow_img d).2.1
            have HBW := Lib.hid hbw
            have HZ := Lib.hid (bs_list b)
            clear h hdn h3 hwt hbk i1 i2 hbl hsz hbw
            rcases hbb : d.blow.1 with _ | _
            all_goals
              rw [hbb] at HE HR
              go_enter Tryz.func51, Tryz.ntmps51
              go_wp2_with (first
                | (go_at_call 89; (with_reducible refine (HP.out _ (Below.refl _ _)).mono ?_); rintro e w3 ⟨rfl, k3, rfl⟩)
                | (go_at_call 90; (with_reducible refine (HW.out _ (below_drewN _ _)).mono ?_); rintro e w4 ⟨rfl, rfl⟩)
                | (go_at_call 92; (with_reducible refine (HH.out _ (below_drewN _ _)).mono ?_); rintro e w4 ⟨rfl, hb4⟩)
                | (go_at_call 91; (with_reducible refine (HB.out _).mono ?_); rintro e w5 ⟨rfl, rfl⟩)
                | (go_at_call 34; (with_reducible refine (HR.out _ (bel2 (below_drewN _ _) hb4)).mono ?_); rintro e w5 ⟨rfl, hg5, fy, hR5⟩; have c4 := hR5.var.cell (j := 4) rfl; have hO5 := hR5.wait; rw [HBW.out] at hO5; have HR5 := Lib.hid hR5; clear hR5)
                | (at_builtin; (refine append_tup rfl _ _ 56 rfl 0 74 (.agg #[.int .i64 0, .string ⟨#[]⟩]) 2 24 Tryz.underlying56 infoWait rfl (by decide) _ _ _ rfl (show World.ownsRow _ 0 _ 2 _ d.wait.length (waitC d.wait) from owns_below hO5 (Geom.bel_alloc _ _)) w5.heap.size [.int .i64 (k : Int), .string b] rfl rfl ?c0 ?c1 ?c2 ?c3 ?c5 ?_); (case c0 => exact lies_new _ [.int .i64 (k : Int), .string b] _); (case c1 => simp [Value.oneCell']); (case c2 => omega); (case c3 => (unfold maxLen; omega)); (case c5 => exact Nat.zero_le _); intro g cap2 w6 hown6 hgrow6 hat6 hlt6; have hpv := HR5.out.push_var _ hgrow6; have v1 := hpv.1; have v2 := hpv.2; clear hpv))
              go_ret
              rw [HE.out]
              have hK := HR5.out.push _ k b.data.toList (by rw [HBW.out]) (by rw [HBW.out]; unfold waitV; rw [HZ.out]; exact hown6) hgrow6 hat6
              rw [HBW.out] at hK
              refine ⟨rfl, _, ⟨_, _, _, _, hK.1, rfl⟩, ?_⟩
              refine After.trans (S1 := foot p bB (.slice a d.wait.length c)) ?_ hK.2
              exact After.trans (after_below (bel2 (below_drewN _ _) hb4)) (After.of_grows hg5 (fun j hj => .inl hj))
        · rw [hwt] at HW
          have HE := Lib.hid (show programD d k b.data.toList = (7, d) from program_state hdn i1 hbl (.inl hwt))
          clear h hdn h3 hwt i1 i2 hbl hsz
          go_enter Tryz.func51, Tryz.ntmps51
          go_wp2_with (first
            | (go_at_call 89; (with_reducible refine (HP.out _ (Below.refl _ _)).mono ?_); rintro e w3 ⟨rfl, k3, rfl⟩)
            | (go_at_call 90; (with_reducible refine (HW.out _ (below_drewN _ _)).mono ?_); rintro e w4 ⟨rfl, rfl⟩))
          go_ret
          rw [HE.out]
          exact ⟨rfl, _, ⟨_, _, _, _, HA.out.below (below_drewN _ _), rfl⟩, after_below (below_drewN _ _)⟩
      · have e1 : ((b.size : Int) != (d.pg : Int)) = true := by simp; omega
        have e2 : ((b.size : Int) == (d.pg : Int)) = false := by simp; omega
        have e3 : (b.size == d.pg) = false := by simp; omega
        have HE := Lib.hid (show programD d k b.data.toList = (1, d) from program_arg hdn (.inr (by simpa using hsz)))
        clear h hdn h3 i1 i2
        go_enter Tryz.func51, Tryz.ntmps51
        go_wp2_with (go_at_call 89; (with_reducible refine (HP.out _ (Below.refl _ _)).mono ?_); rintro e w3 ⟨rfl, k3, rfl⟩)
        go_ret
        rw [HE.out]
        exact ⟨rfl, _, ⟨_, _, _, _, HA.out.below (below_drewN _ _), rfl⟩, after_below (below_drewN _ _)⟩
  · rw [hdn] at c7
    have HE := Lib.hid (show programD d q b.data.toList = (6, d) by unfold programD; rw [hdn]; rfl)
    clear h hdn
    go_enter Tryz.func51, Tryz.ntmps51
    go_wp2
    go_ret
    rw [HE.out]
    exact ⟨rfl, _, ⟨_, _, _, _, HA.out, rfl⟩, After.refl _ _⟩
end Go.Proofs.YtcmjambbdfangaaGreat.Flash
/-
  What the document's own device answers to Image, Fuse and Rot; so many of a page's bytes done.
-/
set_option linter.unusedVariables false
set_option linter.unusedSimpArgs false
namespace Go.Proofs.YtcmjambbdfangaaGreat.Flash
open Go.RowKit
open Go.Proofs.YtcmjambbdfangaaGreat.Own
open Tup Bytes Foot
open Go.Proofs.YtcmjambbdfangaaGreat.Region (fill Then Deps Each wp_region_is wp_region_is_tail)

/-- a byte is written -/
theorem RAt.put {w : World} {p : Nat} {d : Dev} {bB cap : Nat} {wv : Value} {fz : Nat} (h : RAt w p d bB cap wv fz) (j : Nat) (c : UInt8) (hj : j < d.img.length) :
    RAt (w.setCell ⟨bB, j, none⟩ (.int .u8 (c.toNat : Int))) p { d with img := d.img.set j c } bB cap wv fz := by
  have g : Grows (· = bB) w (w.setCell ⟨bB, j, none⟩ (.int .u8 (c.toNat : Int))) := Grows.set _ _ _ rfl
  refine ⟨?_, h.row.set j c hj, Nat.lt_of_lt_of_le h.lt g.size, owns_grows h.wait g (fun k hk e => h.ne3 (by rw [← e]; exact hk)), h.fuz, h.fuz0, by simpa using h.capl, h.ne1, h.ne2, h.ne3⟩
  have := g.var h.var (fun e => h.ne1 e.symm)
  simpa using this
theorem over_snoc {img b : List UInt8} {P k : Nat} (hk : k < b.length) (hP : P + k < img.length) : (over img P (b.take k)).set (P + k) b[k] = over img P (b.take (k + 1)) := by
  unfold over
  have l1 : (img.take P).length = P := by simp; omega
  have l2 : (b.take k).length = k := by simp; omega
  have l3 : (b.take (k + 1)).length = k + 1 := by simp; omega
  rw [l2, l3, List.append_assoc, List.append_assoc, List.set_append_right _ _ (by omega), l1, Nat.add_sub_cancel_left, List.set_append_right _ _ (by omega), l2, Nat.sub_self, List.take_succ_eq_append_getElem hk, List.append_assoc]
  rw [List.drop_eq_getElem_cons (show P + k < img.length by omega), List.set_cons_zero]
  rfl
set_option maxRecDepth 100000 in
theorem refImage_any {w : World} {p : Nat} {d : Dev} {bB cap : Nat} {wv : Value} {fz : Nat} (h : RAt w p d bB cap wv fz) :
    Calls Tryz.prog 19 #[ptr p] w fun e w' => e = .returned (.string (bs d.img)) ∧ w = w' := by
  have c3 := h.var.cell (j := 3) rfl
  have htx := text8 h.row 0 d.img.length cap (by omega)
  have hc : cut d.img 0 d.img.length = d.img := by simp [cut]
  rw [hc] at htx
  clear h hc
  unfold ptr
  go_enter Tryz.func19, Tryz.ntmps19
  go_wp2
  go_ret
  exact ⟨rfl, rfl⟩
set_option maxRecDepth 100000 in
theorem refFuse_any {w : World} {p : Nat} {d : Dev} {bB cap : Nat} {wv : Value} {fz : Nat} (h : RAt w p d bB cap wv fz) (n : Int) (hn : n < 9223372036854775808) :
    Calls Tryz.prog 15 #[ptr p, .int .i64 n] w fun e w' => e = .returned (.tuple #[]) ∧ RHas w' p (fuseD d n) (foot p bB wv) ∧ Grows (· = p) w w' := by
  have c5 := h.var.cell (j := 5) rfl
  have f5 := h.var.frozen 5
  have HA := Lib.hid h
  obtain ⟨z, hz⟩ : ∃ z : Nat, (z : Int) = max n 0 := ⟨(max n 0).toNat, by omega⟩
  have hmx := fun w ts t => max2 (P := Tryz.prog) w ts t n 0 (z : Int) hz
  have hd : decide (0 ≤ n) = (fuseD d n).fuse.isSome := by
    unfold fuseD
    by_cases h0 : n < 0
    · simp [h0]
    · simp [h0]; omega
  have HF := Lib.hid (show ∀ k, (fuseD d n).fuse = some k → z = k by
    unfold fuseD
    intro k hk
    by_cases h0 : n < 0
    · simp [h0] at hk
    · simp [h0] at hk; omega)
  have hz0 : z < 9223372036854775808 := by omega
  have c6 := h.var.cell (j := 6) rfl
  have f6 := h.var.frozen 6
  have HV := Lib.hid ((h.var.set 5 (.bool (fuseD d n).fuse.isSome)).set 6 (.int .i64 (z : Int)))
  clear h hz
  unfold ptr
  go_enter Tryz.func15, Tryz.ntmps15
  go_wp2
  refine bodyPost_end (results_none rfl _ _ _) rfl ?_
  have g := (Grows.set (S := (· = p)) w ⟨p, 5, none⟩ (.bool (fuseD d n).fuse.isSome) rfl).trans (Grows.set (S := (· = p)) _ ⟨p, 6, none⟩ (.int .i64 (z : Int)) rfl) (fun _ h => .inl h)
  exact ⟨rfl, ⟨_, _, _, _, HA.out.turn g HV.out rfl rfl HF.out hz0, rfl⟩, g⟩
set_option maxRecDepth 100000 in
set_option maxHeartbeats 4000000 in
theorem refDone_any {w : World} {p : Nat} {d : Dev} {bB cap : Nat} {wv : Value} {fz : Nat} (h : RAt w p d bB cap wv fz) (hd : d.Ok) (q : Nat) (hq : q < d.n) (b : ByteArray) (hb : b.size = d.pg) (n : Nat) (hn : n ≤ d.pg) :
    Calls Tryz.prog 35 #[ptr p, .agg #[.int .i64 (q : Int), .string b], .int .i64 (n : Int)] w fun e w' => e = .returned (.tuple #[]) ∧ RAt w' p { d with img := over d.img (q * d.pg) (b.data.toList.take n) } bB cap wv fz ∧ Grows (· = bB) w w' := by
  have hpg := hd.page hq
  have him := hd.img_le
  have hp1 := hd.p1
  have hq1 : q < 120 := Nat.lt_of_lt_of_le hq hd.n_le
  have m1 : (q : Int) * (d.pg : Int) = ((q * d.pg : Nat) : Int) := by rw [Int.natCast_mul]
  have x1 : 0 ≤ (q : Int) * (d.pg : Int) ∧ (q : Int) * (d.pg : Int) ≤ 100000 := by rw [m1]; omega
  have HA0 := Lib.hid (h.below (Geom.bel_alloc w (.cells #[.int .i64 (q : Int), .string b] 74)))
  have HV0 := Lib.hid (Var.new w 74 [.int .i64 (q : Int), .string b])
  have HNE := Lib.hid (show ¬ (w.heap.size = bB) by have := h.lt; omega)
  have HN0 := Lib.hid (over_nil d.img (q * d.pg))
  unfold ptr
  clear h hd hq
  go_enter Tryz.func35, Tryz.ntmps35
  go_wp2
  go_loopw [6] (fun i wr => ∃ k : Nat, i = .int .i64 (k : Int) ∧ k ≤ n ∧ Grows (· = bB) w wr ∧ RAt wr p { d with img := over d.img (q * d.pg) (b.data.toList.take k) } bB cap wv fz ∧ Var wr w.heap.size 74 [.int .i64 (q : Int), .string b]) (fun i _ => n - (intOf i).toNat)
  case atStart => exact ⟨0, rfl, Nat.zero_le _, Grows.alloc _ _ _, by rw [List.take_zero, HN0.out]; exact HA0.out, HV0.out⟩
  case round =>
    obtain ⟨k, rfl, hk, hG, hR, hV⟩ := hrel
    have HGr := Lib.hid hG
    have HAr := Lib.hid hR
    have HVr := Lib.hid hV
    clear hG hR hV HA0 HV0 HN0
    by_cases hlt : k < n
    · have hks : k < b.size := by omega
      have hkl : k < b.data.toList.length := by simpa using hks
      have HL := Lib.hid (show (over d.img (q * d.pg) (b.data.toList.take k)).length = d.img.length from over_length (by rw [List.length_take]; omega))
      have HPL := Lib.hid (show q * d.pg + k < d.img.length by omega)
      have HSN := Lib.hid (show (over d.img (q * d.pg) (b.data.toList.take k)).set (q * d.pg + k) b[k] = over d.img (q * d.pg) (b.data.toList.take (k + 1)) from over_snoc hkl (by omega))
      have d1 : decide ((k : Int) < (n : Int)) = true := by simp; omega
      have d2 : decide (k < n) = true := by simp; omega
      have hki : (k : Int) < (b.size : Int) := by omega
      have x2 : 0 ≤ (q : Int) * (d.pg : Int) + (k : Int) ∧ (q : Int) * (d.pg : Int) + (k : Int) ≤ 200000 := by rw [m1]; omega
      have x3 : (q : Int) * (d.pg : Int) + (k : Int) < (d.img.length : Int) := by rw [m1]; omega
      have x4 : ((q : Int) * (d.pg : Int) + (k : Int)).toNat = q * d.pg + k := by rw [m1]; omega
      clear m1
      go_wp2
      refine wp_region_is_tail 19 [12, 13, 14, 15, 16, 17, 18, 19, 20, 21, 22, 23, 24, 25, 26, 27, 28, 29, 30] (fun w' => Below wr.heap.size wr w')
        [.pointer (some ⟨p, 0, none⟩), .pointer (some ⟨p, 0, none⟩), .pointer (some ⟨p, 3, none⟩), .slice (some ⟨bB, 0, none⟩) d.img.length cap, .pointer (some ⟨w.heap.size, 0, none⟩), .int .i64 (q : Int), .pointer (some ⟨p, 0, none⟩), .pointer (some ⟨p, 0, none⟩), .pointer (some ⟨p, 0, none⟩), .pointer (some ⟨p, 0, none⟩), .int .i64 (d.pg : Int), .int .i64 ((q : Int) * (d.pg : Int)), .int .i64 (k : Int), .int .i64 ((q : Int) * (d.pg : Int) + (k : Int)), .pointer (some ⟨w.heap.size, 1, none⟩), .string b, .int .i64 (k : Int), .int .u8 (b[k].toNat : Int), .pointer (some ⟨bB, q * d.pg + k, none⟩)] (by kernel_rfl) (by kernel_rfl) (by kernel_rfl) (by decide) rfl (by decide) (by simp) (Below.refl _ _).drew ?each ?done
      case each =>
        simp only [List.take_succ_cons, List.take_zero, Each]
        repeat' (first | exact trivial | refine And.intro ?_ ?_)
        all_goals
          intro ys wx hBx hdeps
          simp only [Deps, Region.binds, List.getD_cons_zero, List.getD_cons_succ, forall_const, and_true] at hdeps
          have c0 : wx.cell? ⟨p, 0, none⟩ = some (.int .i64 (d.pg : Int)) := (HAr.out.below hBx).var.cell (j := 0) rfl
          have c3 : wx.cell? ⟨p, 3, none⟩ = some (.slice (some ⟨bB, 0, none⟩) d.img.length cap) := by have := (HAr.out.below hBx).var.cell (j := 3) rfl; rw [HL.out] at this; exact this
          have b0 : wx.cell? ⟨w.heap.size, 0, none⟩ = some (.int .i64 (q : Int)) := (HVr.out.below hBx HVr.out.lt).cell (j := 0) rfl
          have b1 : wx.cell? ⟨w.heap.size, 1, none⟩ = some (.string b) := (HVr.out.below hBx HVr.out.lt).cell (j := 1) rfl
          simp only [hdeps, fill, List.foldl_cons, List.foldl_nil, Act.put, List.setIfInBounds_toArray, List.set_cons_succ, List.set_cons_zero]
          first
            | (go_wp2_with fail; exact ⟨_, rfl, rfl, hBx, Below.refl _ _⟩)
      case done =>
        intro ys wx hBx hV
        have h29 : ys 29 = .int .u8 (b[k].toNat : Int) := hV 17 (by decide)
        have h30 : ys 30 = .pointer (some ⟨bB, q * d.pg + k, none⟩) := hV 18 (by decide)
        have hRx := HAr.out.below hBx
        obtain ⟨g1, g2⟩ := hRx.row (q * d.pg + k) (by rw [HL.out]; exact HPL.out)
        have HP := Lib.hid (hRx.put (q * d.pg + k) b[k] (by rw [HL.out]; exact HPL.out))
        have HVx := Lib.hid (HVr.out.below hBx HVr.out.lt)
        have HG := Lib.hid (HGr.out.trans ((Grows.of_below (S := (· = bB)) hBx).trans (Grows.set (S := (· = bB)) wx ⟨bB, q * d.pg + k, none⟩ (.int .u8 (b[k].toNat : Int)) rfl) (fun _ h => .inl h)) (fun _ h => .inl h))
        clear hRx
        simp only [h29, h30, fill, List.drop_succ_cons, List.drop_zero, List.foldl_cons, List.foldl_nil, Act.put, List.setIfInBounds_toArray, List.set_cons_succ, List.set_cons_zero]
        go_wp2
        refine ⟨⟨k + 1, by go_num, by omega, HG.out, ?_, ?_⟩, by simp [intOf]; omega⟩
        · have hK := HP.out
          rw [HSN.out] at hK
          exact hK
        · exact (Grows.set (S := (· = bB)) wx ⟨bB, q * d.pg + k, none⟩ (.int .u8 (b[k].toNat : Int)) rfl).var HVx.out HNE.out
    · obtain rfl : k = n := by omega
      have d1 : decide ((k : Int) < (k : Int)) = false := by simp
      go_wp2
      refine bodyPost_end (results_none rfl _ _ _) rfl ?_
      exact ⟨rfl, HAr.out, HGr.out⟩
end Go.Proofs.YtcmjambbdfangaaGreat.Flash
