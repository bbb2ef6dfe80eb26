/-
  The walk of the law on sets of one span.
-/
import Derived.Test.YtfponjonbhnmlaaGlobAlive
import Derived.Test.YtfponjonbhnmlaaGlobMathD
import Derived.Lib.ConvBytes
namespace Go.Proofs.Ytfponjonbhnmlaa.Glob
open Go.RowKit
open RuneM RefRune Own RefKeys GlobM Keys RefGlob

theorem byte_of {a : Int} (h : (Lit.int .u8 a).wf = true) : 0 ≤ a ∧ a ≤ 255 := by
  simpa [Lit.wf, IntKind.min, IntKind.max, IntKind.signed, IntKind.bits] using h
theorem letter (a : Int) (ha : 0 ≤ a ∧ a ≤ 255) : ∃ A : UInt8, 97 + a % 26 = (A.toNat : Int) ∧ 97 ≤ A.toNat ∧ A.toNat ≤ 122 := by
  refine ⟨UInt8.ofNat (97 + a % 26).toNat, ?_, ?_⟩
  · rw [UInt8.toNat_ofNat']; omega
  · rw [UInt8.toNat_ofNat']; omega
theorem cells_at (w : World) (t : TypeId) (cs : Array Value) (j : Nat) : (w.alloc (Obj.cells cs t)).cell? ⟨w.heap.size, j, none⟩ = cs[j]? := by
  have h : (w.alloc (Obj.cells cs t)).heap[w.heap.size]? = some (.cells cs t (0, 0)) := heap_new w _
  unfold World.cell?
  rw [h]
  simp
theorem size_list {s : ByteArray} {l : List UInt8} (h : s.data.toList = l) : s.size = l.length := by
  rw [← h]; simp
theorem text3 (w : World) (x y z : UInt8) : (convert 31 9 (.slice (some ⟨w.heap.size, 0, none⟩) 3 3)).run Try.prog (w.alloc (Obj.cells #[.int .u8 (x.toNat : Int), .int .u8 (y.toNat : Int), .int .u8 (z.toNat : Int)] 5)) = .ok (.string ⟨#[x, y, z]⟩) (w.alloc (Obj.cells #[.int .u8 (x.toNat : Int), .int .u8 (y.toNat : Int), .int .u8 (z.toNat : Int)] 5)) :=
  run_convert_bytes_back (P := Try.prog) _ 31 9 5 ⟨w.heap.size, 0, none⟩ 3 [x, y, z] Try.underlying31 Try.underlying5 Try.underlying9 (fun j hj => by
    rw [show (⟨w.heap.size, 0, none⟩ : Addr).add j = ⟨w.heap.size, j, none⟩ by unfold Addr.add; split <;> simp_all, cells_at]
    match j, hj with
    | 0, _ => rfl
    | 1, _ => rfl
    | 2, _ => rfl)
theorem text1 (w : World) (x : UInt8) : (convert 31 9 (.slice (some ⟨w.heap.size, 0, none⟩) 1 1)).run Try.prog (w.alloc (Obj.cells #[.int .u8 (x.toNat : Int)] 5)) = .ok (.string ⟨#[x]⟩) (w.alloc (Obj.cells #[.int .u8 (x.toNat : Int)] 5)) :=
  run_convert_bytes_back (P := Try.prog) _ 31 9 5 ⟨w.heap.size, 0, none⟩ 1 [x] Try.underlying31 Try.underlying5 Try.underlying9 (fun j hj => by
    rw [show (⟨w.heap.size, 0, none⟩ : Addr).add j = ⟨w.heap.size, j, none⟩ by unfold Addr.add; split <;> simp_all, cells_at]
    match j, hj with
    | 0, _ => rfl)
def pS (A C : UInt8) : ByteArray := (⟨#[91]⟩ : ByteArray) ++ ⟨#[A, 45, C]⟩ ++ ⟨#[93]⟩
def qS (A C : UInt8) : ByteArray := (⟨#[91, 94]⟩ : ByteArray) ++ ⟨#[A, 45, C]⟩ ++ ⟨#[93]⟩
theorem pS_list (A C : UInt8) : (pS A C).data.toList = [91, A, 45, C, 93] := by unfold pS; rw [app_list, app_list]; rfl
theorem qS_list (A C : UInt8) : (qS A C).data.toList = [91, 94, A, 45, C, 93] := by unfold qS; rw [app_list, app_list]; rfl
theorem nums_pS {A C : UInt8} (hA : 97 ≤ A.toNat ∧ A.toNat ≤ 122) (hC : 97 ≤ C.toNat ∧ C.toNat ≤ 122) : nums (pS A C) = [91, A.toNat, 45, C.toNat, 93] := by
  rw [nums_ascii, pS_list]
  · rfl
  · rw [pS_list]; intro x hx
    simp only [List.mem_cons, List.not_mem_nil, or_false] at hx
    rcases hx with rfl | rfl | rfl | rfl | rfl <;> first | decide | omega
theorem nums_qS {A C : UInt8} (hA : 97 ≤ A.toNat ∧ A.toNat ≤ 122) (hC : 97 ≤ C.toNat ∧ C.toNat ≤ 122) : nums (qS A C) = [91, 94, A.toNat, 45, C.toNat, 93] := by
  rw [nums_ascii, qS_list]
  · rfl
  · rw [qS_list]; intro x hx
    simp only [List.mem_cons, List.not_mem_nil, or_false] at hx
    rcases hx with rfl | rfl | rfl | rfl | rfl | rfl <;> first | decide | omega
theorem nums_one {R : UInt8} (hR : 97 ≤ R.toNat ∧ R.toNat ≤ 122) : nums ⟨#[R]⟩ = [R.toNat] := by
  rw [nums_ascii]
  · rfl
  · intro x hx; rw [show (⟨#[R]⟩ : ByteArray).data.toList = [R] from rfl, List.mem_singleton] at hx; subst hx; omega
set_option maxHeartbeats 4000000 in
theorem walk_sets (a b r : Int) (ha : 0 ≤ a ∧ a ≤ 255) (hb : 0 ≤ b ∧ b ≤ 255) (hr : 0 ≤ r ∧ r ≤ 255) (w : World) : Calls Try.prog 8 #[.int .u8 a, .int .u8 b, .int .u8 r] w fun e w' => e = .returned (.bool true) ∧ Below w.heap.size w w' := by
  obtain ⟨A, eA, hA⟩ := letter a ha
  obtain ⟨C, eC, hC⟩ := letter b hb
  obtain ⟨R, eR, hR⟩ := letter r hr
  have t1 := text3 w A 45 C
  have t2 := text3 (w.alloc (Obj.cells #[.int .u8 (A.toNat : Int), .int .u8 45, .int .u8 (C.toNat : Int)] 5)) A 45 C
  have t3 := text1 ((w.alloc (Obj.cells #[.int .u8 (A.toNat : Int), .int .u8 45, .int .u8 (C.toNat : Int)] 5)).alloc (Obj.cells #[.int .u8 (A.toNat : Int), .int .u8 45, .int .u8 (C.toNat : Int)] 5)) R
  have hB0 := bel (bel (bel_alloc w (Obj.cells #[.int .u8 (A.toNat : Int), .int .u8 45, .int .u8 (C.toNat : Int)] 5)) (bel_alloc _ (Obj.cells #[.int .u8 (A.toNat : Int), .int .u8 45, .int .u8 (C.toNat : Int)] 5))) (bel_alloc _ (Obj.cells #[.int .u8 (R.toNat : Int)] 5))
  rw [size_alloc] at t2
  rw [size_alloc, size_alloc] at t3
  simp only [show ((45 : UInt8).toNat : Int) = 45 from rfl] at t1 t2
  have hp5 : (pS A C).size ≤ 1000 := by rw [size_list (pS_list A C)]; simp
  have hq5 : (qS A C).size ≤ 1000 := by rw [size_list (qS_list A C)]; simp
  have HR : Hid (∀ w, Calls Try.prog 10 #[.string ((⟨#[91]⟩ : ByteArray) ++ ⟨#[A, 45, C]⟩ ++ ⟨#[93]⟩)] w _) := fun w => right_any (pS A C) (lim_small hp5) w
  have HP : Hid (∀ w, Calls Try.prog 12 #[.string ((⟨#[91]⟩ : ByteArray) ++ ⟨#[A, 45, C]⟩ ++ ⟨#[93]⟩), .string ⟨#[R]⟩] w _) := fun w => match_any (pS A C) ⟨#[R]⟩ (lim_small hp5) (lim_small (show 1 ≤ 1000 by decide)) w
  have HQ : Hid (∀ w, Calls Try.prog 12 #[.string ((⟨#[91, 94]⟩ : ByteArray) ++ ⟨#[A, 45, C]⟩ ++ ⟨#[93]⟩), .string ⟨#[R]⟩] w _) := fun w => match_any (qS A C) ⟨#[R]⟩ (lim_small hq5) (lim_small (show 1 ≤ 1000 by decide)) w
  have ip := items_span (a := A.toNat) (b := C.toNat) hA hC
  have iq := items_unspan (a := A.toNat) (b := C.toNat) hA hC
  rw [← nums_pS hA hC] at ip
  rw [← nums_qS hA hC] at iq
  by_cases hlt : C.toNat < A.toNat
  · rw [if_pos hlt] at ip iq
    rw [ip] at HR
    rw [globB_none ip] at HP
    rw [globB_none iq] at HQ
    have d1 : (C.toNat : Int) < (A.toNat : Int) := by omega
    clear hlt ip iq hp5 hq5
    go_enter Try.func8, Try.ntmps8
    go_wp2_with fail
    go_at_call 9
    with_reducible refine (alive_any _).mono ?_
    rintro e w2 ⟨rfl, hn⟩
    have hB := bel hB0 hn
    clear hn t1 t2 t3 hB0
    go_wp2_with fail
    go_at_call 10
    with_reducible refine (HR.out _).mono ?_
    rintro e w3 ⟨rfl, hn⟩
    replace hB := bel hB hn
    clear hn
    go_wp2_with fail
    go_at_call 12
    with_reducible refine (HP.out _).mono ?_
    rintro e w4 ⟨rfl, hn⟩
    replace hB := bel hB hn
    clear hn
    go_wp2_with fail
    go_at_call 12
    with_reducible refine (HQ.out _).mono ?_
    rintro e w5 ⟨rfl, hn⟩
    replace hB := bel hB hn
    clear hn
    go_wp2
    go_ret
    exact ⟨rfl, hB⟩
  · rw [if_neg hlt] at ip iq
    have d1 : ¬ (C.toNat : Int) < (A.toNat : Int) := by omega
    have mp := globB_iff (k := ⟨#[R]⟩) ip
    have mq := globB_iff (k := ⟨#[R]⟩) iq
    rw [nums_one hR, M_span] at mp mq
    have ep : globB (pS A C) ⟨#[R]⟩ = (decide (A.toNat ≤ R.toNat) && decide (R.toNat ≤ C.toNat)) := by
      rw [Bool.eq_iff_iff, mp]; simp
    have eq : globB (qS A C) ⟨#[R]⟩ = !(decide (A.toNat ≤ R.toNat) && decide (R.toNat ≤ C.toNat)) := by
      rw [Bool.eq_iff_iff, mq]; simp
    rw [ep] at HP
    rw [eq] at HQ
    clear hlt ip iq hp5 hq5 mp mq ep eq HR
    by_cases h1 : A.toNat ≤ R.toNat
    · have f1 : decide ((A.toNat : Int) ≤ (R.toNat : Int)) = true := by simp; omega
      by_cases h2 : R.toNat ≤ C.toNat
      · have f2 : decide ((R.toNat : Int) ≤ (C.toNat : Int)) = true := by simp; omega
        simp only [h1, h2, decide_true, Bool.and_true, Bool.not_true] at HP HQ
        go_enter Try.func8, Try.ntmps8
        go_wp2_with fail
        go_at_call 9
        with_reducible refine (alive_any _).mono ?_
        rintro e w2 ⟨rfl, hn⟩
        have hB := bel hB0 hn
        clear hn t1 t2 t3 hB0
        go_wp2_with fail
        go_at_call 12
        with_reducible refine (HP.out _).mono ?_
        rintro e w4 ⟨rfl, hn⟩
        replace hB := bel hB hn
        clear hn
        go_wp2_with fail
        go_at_call 12
        with_reducible refine (HQ.out _).mono ?_
        rintro e w5 ⟨rfl, hn⟩
        replace hB := bel hB hn
        clear hn
        go_wp2
        go_ret
        exact ⟨rfl, hB⟩
      · have f2 : decide ((R.toNat : Int) ≤ (C.toNat : Int)) = false := by simp; omega
        simp only [h1, h2, decide_true, decide_false, Bool.and_false, Bool.not_false] at HP HQ
        go_enter Try.func8, Try.ntmps8
        go_wp2_with fail
        go_at_call 9
        with_reducible refine (alive_any _).mono ?_
        rintro e w2 ⟨rfl, hn⟩
        have hB := bel hB0 hn
        clear hn t1 t2 t3 hB0
        go_wp2_with fail
        go_at_call 12
        with_reducible refine (HP.out _).mono ?_
        rintro e w4 ⟨rfl, hn⟩
        replace hB := bel hB hn
        clear hn
        go_wp2_with fail
        go_at_call 12
        with_reducible refine (HQ.out _).mono ?_
        rintro e w5 ⟨rfl, hn⟩
        replace hB := bel hB hn
        clear hn
        go_wp2
        go_ret
        exact ⟨rfl, hB⟩
    · have f1 : decide ((A.toNat : Int) ≤ (R.toNat : Int)) = false := by simp; omega
      simp only [h1, decide_false, Bool.false_and, Bool.not_false] at HP HQ
      go_enter Try.func8, Try.ntmps8
      go_wp2_with fail
      go_at_call 9
      with_reducible refine (alive_any _).mono ?_
      rintro e w2 ⟨rfl, hn⟩
      have hB := bel hB0 hn
      clear hn t1 t2 t3 hB0
      go_wp2_with fail
      go_at_call 12
      with_reducible refine (HP.out _).mono ?_
      rintro e w4 ⟨rfl, hn⟩
      replace hB := bel hB hn
      clear hn
      go_wp2_with fail
      go_at_call 12
      with_reducible refine (HQ.out _).mono ?_
      rintro e w5 ⟨rfl, hn⟩
      replace hB := bel hB hn
      clear hn
      go_wp2
      go_ret
      exact ⟨rfl, hB⟩
end Go.Proofs.Ytfponjonbhnmlaa.Glob
