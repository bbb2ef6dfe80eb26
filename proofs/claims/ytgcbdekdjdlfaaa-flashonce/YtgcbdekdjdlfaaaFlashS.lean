/-
  What the document's own device says of one page: is it pending, what does it hold.
-/
import Derived.Test.YtgcbdekdjdlfaaaFlashR
import Derived.Deep.QuietTactic
import Derived.BigQuiet
import Derived.Test.YtgcbdekdjdlfaaaRegionIs
import Derived.Test.YtgcbdekdjdlfaaaRegionTail
set_option linter.unusedVariables false
set_option linter.unusedSimpArgs false
namespace Go.Proofs.Ytgcbdekdjdlfaaa.Flash
open Go.RowKit
open Go.Proofs.Ytgcbdekdjdlfaaa.Own
open Tup Bytes Foot
open Go.Proofs.Ytgcbdekdjdlfaaa.Region (fill Then Deps Each wp_region_is wp_region_is_tail)

theorem ret_bool {a b : Bool} (h : a = b) : Ending.returned (.bool a) = .returned (.bool b) := by rw [h]
theorem ret_string {a b : ByteArray} (h : a = b) : Ending.returned (.string a) = .returned (.string b) := by rw [h]
theorem RAt.pend {w : World} {p : Nat} {d : Dev} {bB cap : Nat} {a : Option Addr} {m c fz k : Nat} (h : RAt w p d bB cap (.slice a m c) fz) (hk : k < d.wait.length) :
    ∃ g, a = some ⟨g, 0, none⟩ ∧ w.cell? ⟨g, k * 2, none⟩ = some (.int .i64 (d.wait[k].1 : Int)) ∧ w.cell? ⟨g, k * 2 + 1, none⟩ = some (.string (bs d.wait[k].2)) := by
  obtain ⟨h0, h1⟩ := waitC_get hk
  rcases At.of_owns h.wait with hn | ⟨b, off, ha, hl⟩
  · have := waitC_length d.wait
    rw [hn] at this
    simp at this; omega
  · obtain ⟨_, rfl, _, _⟩ := owns_block h.wait b off ha
    refine ⟨b, ha, ?_, ?_⟩
    · have := hl _ _ h0
      rwa [Nat.zero_add, Nat.mul_comm] at this
    · have := hl _ _ h1
      rwa [Nat.zero_add, Nat.mul_comm] at this
theorem RAt.slice {w : World} {p : Nat} {d : Dev} {bB cap : Nat} {wv : Value} {fz : Nat} (h : RAt w p d bB cap wv fz) : ∃ a c, wv = .slice a d.wait.length c := owns_slice h.wait
theorem any_take {α : Type} {l : List α} {f : α → Bool} {k : Nat} (h : k < l.length) : (l.take (k + 1)).any f = ((l.take k).any f || f l[k]) := by
  rw [List.take_succ_eq_append_getElem h, List.any_append]; simp
theorem any_hit {α : Type} {l : List α} {f : α → Bool} {k : Nat} (h : k < l.length) (hf : f l[k] = true) : l.any f = true := List.any_eq_true.2 ⟨l[k], List.getElem_mem h, hf⟩
set_option maxRecDepth 100000 in
theorem refWaits_any {w : World} {p : Nat} {d : Dev} {bB cap : Nat} {wv : Value} {fz : Nat} (h : RAt w p d bB cap wv fz) (hd : d.Ok) (q : Nat) :
    Calls Try.prog 62 #[ptr p, .int .i64 (q : Int)] w fun e w' => e = .returned (.bool (d.waits q)) ∧ w = w' := by
  obtain ⟨a, c, rfl⟩ := h.slice
  have c4 := h.var.cell (j := 4) rfl
  have hn := hd.wait_le
  have HA := Lib.hid h
  unfold ptr
  clear h hd
  generalize hL : d.wait.length = L at *
  have HL := Lib.hid hL
  clear hL
  go_enter Try.func62, Try.ntmps62
  go_wp2
  go_loop [5] (fun i => ∃ k : Nat, i = .int .i64 (k : Int) ∧ k ≤ L ∧ (d.wait.take k).any (fun x => decide (x.1 = q)) = false) (fun i => L - (intOf i).toNat)
  case atStart => exact ⟨0, rfl, Nat.zero_le _, rfl⟩
  case round =>
    obtain ⟨k, rfl, hk, hv⟩ := hrel
    have HN := Lib.hid hv
    clear hv
    by_cases hlt : k < L
    · have hkl : k < d.wait.length := by rw [HL.out]; exact hlt
      obtain ⟨g, ha, e0, -⟩ := HA.out.pend hkl
      subst ha
      have HT := Lib.hid (any_take (f := fun x => decide (x.1 = q)) hkl)
      have HH := Lib.hid (fun hf => any_hit (f := fun x => decide (x.1 = q)) hkl hf)
      have d1 : decide ((k : Int) < (L : Int)) = true := by simp; omega
      have d2 : decide (k < L) = true := by simp; omega
      generalize hy : (d.wait[k]).1 = y at *
      clear hy
      by_cases he : y = q
      · subst he
        have HE := Lib.hid (show d.waits y = true from HH.out (by simp))
        clear HT HH
        go_wp2
        go_ret
        exact ⟨ret_bool HE.out.symm, rfl⟩
      · have dq : ((y : Int) == (q : Int)) = false := by simp; omega
        have dq2 : (y == q) = false := by simp; omega
        have HK := Lib.hid (show (d.wait.take (k + 1)).any (fun x => decide (x.1 = q)) = false by rw [HT.out, HN.out]; simp; exact he)
        clear HT HH
        go_wp2
        go_round
        case rel => exact ⟨k + 1, by go_num, by omega, HK.out⟩
        case measure => simp [intOf]; omega
    · obtain rfl : k = L := by omega
      have d1 : decide ((k : Int) < (k : Int)) = false := by simp
      have HE := Lib.hid (show d.waits q = false by
        have := HN.out
        rw [List.take_of_length_le (by rw [HL.out]; exact Nat.le_refl _)] at this
        exact this)
      go_wp2
      go_ret
      exact ⟨ret_bool HE.out.symm, rfl⟩
theorem slice8 {l h cap L : Nat} (bB : Nat) (h1 : l < h) (h2 : h ≤ cap) (x y : Int) (hx : x = (l : Int)) (hy : y = (h : Int)) (w : World) :
    (Instr.slice 61 (.slice (some ⟨bB, 0, none⟩) L cap) (some (.int .i64 x)) (some (.int .i64 y)) none).run Try.prog w = .ok (.slice (some ⟨bB, l, none⟩) (h - l) (cap - l)) w := by
  subst hx hy
  have hu : Try.prog.underlying 61 = some (.slice (Try.prog.elem 61)) := by kernel_rfl
  have hz : ∀ w, (sizeOf (Try.prog.elem 61)).run Try.prog w = .ok 1 w := by
    have : Try.prog.elem 61 = 5 := by kernel_rfl
    rw [this]; intro w
    obtain ⟨i0, hi, hz0, hz1, hz2⟩ := info_parts info8
    simp [sizeOf, hi, hz1] <;> rfl
  rw [run_slice_lh (P := Try.prog) w 61 (some ⟨bB, 0, none⟩) L cap hu .i64 .i64 (l : Int) (h : Int) (by omega) (by omega) (by omega), hz]
  simp only [Result.andThen, sliced, Int.toNat_natCast, Nat.mul_one]
  rw [if_neg (by omega)]
  simp [Addr.add]
  intro e; omega
theorem text8 {w : World} {bB : Nat} {img : List UInt8} (h : Row8 w bB img) (l n cap : Nat) (hl : l + n ≤ img.length) :
    (convert 61 9 (.slice (some ⟨bB, l, none⟩) n cap)).run Try.prog w = .ok (.string (bs (cut img l n))) w := by
  have hlen := cut_length hl
  have := run_convert_bytes_back (P := Try.prog) w 61 9 5 ⟨bB, l, none⟩ cap (cut img l n) Try.underlying61 Try.underlying5 Try.underlying9 (fun j hj => by
    rw [hlen] at hj
    have hg := (h (l + j) (by omega)).1
    rw [show (⟨bB, l, none⟩ : Addr).add j = ⟨bB, l + j, none⟩ by unfold Addr.add; split <;> simp_all]
    rw [hg]
    congr 3
    simp only [cut, List.getElem_take, List.getElem_drop]
    rw [List.getD_eq_getElem?_getD, List.getElem?_eq_getElem (by omega)]; rfl)
  rw [hlen] at this
  exact this
theorem held_take {d : Dev} {q k : Nat} (h : k < d.wait.length) (s : List UInt8) :
    (d.wait.take (k + 1)).foldl (fun s x => if x.1 = q then x.2 else s) s = if d.wait[k].1 = q then d.wait[k].2 else (d.wait.take k).foldl (fun s x => if x.1 = q then x.2 else s) s := by
  rw [List.take_succ_eq_append_getElem h, List.foldl_append]; rfl
set_option maxRecDepth 100000 in
theorem refHeld_any {w : World} {p : Nat} {d : Dev} {bB cap : Nat} {wv : Value} {fz : Nat} (h : RAt w p d bB cap wv fz) (hd : d.Ok) (q : Nat) (hq : q < d.n) :
    Calls Try.prog 61 #[ptr p, .int .i64 (q : Int)] w fun e w' => e = .returned (.string (bs (d.held q))) ∧ Below w.heap.size w w' := by
  obtain ⟨a, c, rfl⟩ := h.slice
  have hn := hd.wait_le
  have hpg := hd.page hq
  have him := hd.img_le
  have hp1 := hd.p1
  have hp0 := hd.p0
  have hq1 : q < 120 := Nat.lt_of_lt_of_le hq hd.n_le
  have hcap := h.capl
  have m1 : (q : Int) * (d.pg : Int) = ((q * d.pg : Nat) : Int) := by rw [Int.natCast_mul]
  have m2 : ((q : Int) + 1) * (d.pg : Int) = ((q * d.pg + d.pg : Nat) : Int) := by rw [Int.add_mul, Int.natCast_add, Int.natCast_mul]; omega
  have b1 : 0 ≤ (q : Int) * (d.pg : Int) ∧ (q : Int) * (d.pg : Int) ≤ 100000 := by rw [m1]; omega
  have b2 : 0 ≤ ((q : Int) + 1) * (d.pg : Int) ∧ ((q : Int) + 1) * (d.pg : Int) ≤ 100000 := by rw [m2]; omega
  have hsl := slice8 (L := d.img.length) bB (show q * d.pg < q * d.pg + d.pg by omega) (show q * d.pg + d.pg ≤ cap by omega) _ _ m1 m2
  rw [show q * d.pg + d.pg - q * d.pg = d.pg by omega] at hsl
  have HTX := Lib.hid (fun wx (hb : Below w.heap.size w wx) => text8 (h.below hb).row (q * d.pg) d.pg (cap - q * d.pg) hpg)
  have HA := Lib.hid h
  unfold ptr
  clear h hd
  generalize hL : d.wait.length = L at *
  have HL := Lib.hid hL
  clear hL
  generalize hS : cut d.img (q * d.pg) d.pg = S0 at *
  have HS := Lib.hid hS
  clear hS hq hpg m1 m2
  go_enter Try.func61, Try.ntmps61
  go_wp2
  refine wp_region_is [7, 8, 9, 10, 11, 12, 13, 14, 15, 16, 17, 18, 19, 20, 21, 22, 23, 24, 25, 26, 27, 5] (fun w' => Below w.heap.size w w')
    [.pointer (some ⟨p, 0, none⟩), .pointer (some ⟨p, 0, none⟩), .pointer (some ⟨p, 3, none⟩), .slice (some ⟨bB, 0, none⟩) d.img.length cap, .int .i64 (q : Int), .pointer (some ⟨p, 0, none⟩), .pointer (some ⟨p, 0, none⟩), .pointer (some ⟨p, 0, none⟩), .pointer (some ⟨p, 0, none⟩), .int .i64 (d.pg : Int), .int .i64 ((q : Int) * (d.pg : Int)), .int .i64 (q : Int), .int .i64 ((q : Int) + 1), .pointer (some ⟨p, 0, none⟩), .pointer (some ⟨p, 0, none⟩), .pointer (some ⟨p, 0, none⟩), .pointer (some ⟨p, 0, none⟩), .int .i64 (d.pg : Int), .int .i64 (((q : Int) + 1) * (d.pg : Int)), .slice (some ⟨bB, q * d.pg, none⟩) d.pg (cap - q * d.pg), .string (bs S0), .string (bs S0)] (by kernel_rfl) (by kernel_rfl) rfl (by decide) (by simp) (Below.refl _ _).drew ?each ?done
  case each =>
    simp only [Each]
    repeat' (first | exact trivial | refine And.intro ?_ ?_)
    all_goals
      intro ys wx hBx hdeps
      simp only [Deps, Region.binds, List.getD_cons_zero, List.getD_cons_succ, forall_const, and_true] at hdeps
      have c0 : wx.cell? ⟨p, 0, none⟩ = some (.int .i64 (d.pg : Int)) := (HA.out.below hBx).var.cell (j := 0) rfl
      have c3 : wx.cell? ⟨p, 3, none⟩ = some (.slice (some ⟨bB, 0, none⟩) d.img.length cap) := (HA.out.below hBx).var.cell (j := 3) rfl
      have htx := HTX.out wx hBx
      simp only [hdeps, fill, List.foldl_cons, List.foldl_nil, Act.put, List.setIfInBounds_toArray, List.set_cons_succ, List.set_cons_zero]
      first
        | (go_wp2_with fail; exact ⟨_, rfl, rfl, hBx, Below.refl _ _⟩)
  case done =>
    intro ys wx hBx hV
    have h5 : ys 5 = .string (bs S0) := hV 21 (by decide)
    have HA5 := Lib.hid (HA.out.below hBx)
    have c4 := HA5.out.var.cell (j := 4) rfl
    have HB5 := Lib.hid hBx
    clear hBx hV HA HTX hsl
    simp only [h5, fill, List.drop_succ_cons, List.drop_zero, List.foldl_cons, List.foldl_nil, Act.put, List.setIfInBounds_toArray, List.set_cons_succ, List.set_cons_zero]
    go_wp2
    go_loop [5, 6] (fun s i => ∃ k : Nat, i = .int .i64 (k : Int) ∧ k ≤ L ∧ s = .string (bs ((d.wait.take k).foldl (fun s x => if x.1 = q then x.2 else s) S0))) (fun _ i => L - (intOf i).toNat)
    case atStart => exact ⟨0, rfl, Nat.zero_le _, rfl⟩
    case round =>
      obtain ⟨k, rfl, hk, rfl⟩ := hrel
      by_cases hlt : k < L
      · have hkl : k < d.wait.length := by rw [HL.out]; exact hlt
        obtain ⟨g, ha, e0, e1⟩ := HA5.out.pend hkl
        subst ha
        have HT := Lib.hid (held_take (q := q) hkl S0)
        have d1 : decide ((k : Int) < (L : Int)) = true := by simp; omega
        have d2 : decide (k < L) = true := by simp; omega
        generalize hy : d.wait[k] = y at *
        clear hy
        obtain ⟨y1, y2⟩ := y
        generalize hz : (d.wait.take k).foldl (fun s x => if x.1 = q then x.2 else s) S0 = sk at *
        clear hz
        by_cases he : y1 = q
        · subst he
          rw [if_pos rfl] at HT
          have HK := Lib.hid (congrArg bs HT.out)
          clear HT
          simp only at e0 e1
          go_wp2
          go_round
          case rel => exact ⟨k + 1, by go_num, by omega, by rw [HK.out]⟩
          case measure => simp [intOf]; omega
        · have dq : ((y1 : Int) == (q : Int)) = false := by simp; omega
          have dq2 : (y1 == q) = false := by simp; omega
          rw [if_neg he] at HT
          have HK := Lib.hid (congrArg bs HT.out)
          clear HT
          simp only at e0 e1
          go_wp2
          go_round
          case rel => exact ⟨k + 1, by go_num, by omega, by rw [HK.out]⟩
          case measure => simp [intOf]; omega
      · obtain rfl : k = L := by omega
        have d1 : decide ((k : Int) < (k : Int)) = false := by simp
        have HE := Lib.hid (show bs ((d.wait.take k).foldl (fun s x => if x.1 = q then x.2 else s) S0) = bs (d.held q) by
          rw [List.take_of_length_le (by rw [HL.out]; exact Nat.le_refl _), ← HS.out]; rfl)
        rw [HE.out]
        go_wp2
        go_ret
        exact ⟨rfl, HB5.out⟩
end Go.Proofs.Ytgcbdekdjdlfaaa.Flash
