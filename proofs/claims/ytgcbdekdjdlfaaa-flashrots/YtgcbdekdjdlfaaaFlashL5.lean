/-
  FlashFuses' walk: as many calls as a fuse says are done.
-/
import Derived.Test.YtgcbdekdjdlfaaaFlashL2
import Derived.Test.YtgcbdekdjdlfaaaPick
set_option linter.unusedVariables false
set_option linter.unusedSimpArgs false
namespace Go.Proofs.Ytgcbdekdjdlfaaa.Flash
open Go.RowKit
open Go.Proofs.Ytgcbdekdjdlfaaa.Own
open Tup Bytes Foot
open Go.Proofs.Ytgcbdekdjdlfaaa.Region (fill Then Deps Each wp_region_is wp_region_is_tail)
theorem fused_ok (N : Nat) (hN : N < 12) : ∀ i, i ≤ N → (fusedD (rep 32 1) N i false).Ok
  | 0, _ => by
    have := fuse_keeps al_ok0 N
    rw [fuse_0 (rep 32 1)] at this; exact this
  | i + 1, h => by
    have := program_keeps (fused_ok N hN i (by omega)) i (rep 32 1)
    rw [fuse_lt (by simp [rep]) (by omega) hN] at this; exact this
theorem fused_end (N : Nat) (hN : N < 12) : (fusedD (rep 32 1) N (N + 1) true).Ok := by
  have := program_keeps (fused_ok N hN N (Nat.le_refl _)) N (rep 32 1)
  rw [fuse_at (by simp [rep]) hN] at this; exact this
/-- a row of numbers -/
def Ints (w : World) (ba : Option Addr) (bad : List Int) : Prop := bad = [] ∨ ∃ b off, ba = some ⟨b, off, none⟩ ∧ Lies w b off (bad.map (.int .i64 ·))
theorem Ints.get {w w' : World} {ba : Option Addr} {bad : List Int} (h : Ints w ba bad) (g : Below w.heap.size w w') {k : Nat} (hk : k < bad.length) : ∃ b off, ba = some ⟨b, off, none⟩ ∧ w'.cell? ⟨b, off + k, none⟩ = some (.int .i64 bad[k]) := by
  rcases h with h | ⟨b, off, ha, hl⟩
  · subst h; simp at hk
  · refine ⟨b, off, ha, ?_⟩
    have := hl k (.int .i64 bad[k]) (by simp [hk])
    rw [g.cell (p := ⟨b, off + k, none⟩) (block_lt_of_cell this)]; exact this
set_option maxRecDepth 100000 in
set_option maxHeartbeats 16000000 in
theorem fuses_any (nn : Int) (ba : Option Addr) (bad : List Int) (bc : Nat) (w : World) (hB : Ints w ba bad) (hbl : bad.length ≤ maxLen) : Calls Try.prog 6 #[.int .i64 nn, .slice ba bad.length bc] w fun e w' => e = .returned (.bool true) ∧ Below w.heap.size w w' := by
  have HT := Lib.hid (fun w => tiny_any w)
  have HN := Lib.hid (fun w => fNew_tiny ⟨#[]⟩ (Nat.zero_le _) w)
  have HAL := Lib.hid (fun w => alive_any w)
  obtain ⟨N, hN⟩ : ∃ N : Nat, (N : Int) = nn % 9 := ⟨(nn % 9).toNat, by omega⟩
  have hN9 : N < 9 := by omega
  have HK : Hid (∀ w, Calls Try.prog 19 #[.int .i64 nn, .int .i64 9] w fun e w' => e = .returned (.int .i64 (nn % 9)) ∧ w = w') := fun w => Book.pick_any nn 9 (by decide) (by decide) w
  rw [← hN] at HK
  have HFu := Lib.hid (fun w p S (h : FHas w p (newD 32 3 4 []) S) => fFuse_any h al_ok0 N (by omega))
  rw [fuse_0 (rep 32 1)] at HFu
  have HF := Lib.hid (fun w => fillC 1 32 32 rfl (by omega) 1 rfl w)
  have OKF := Lib.hid (fused_ok N (by omega))
  have OKE := Lib.hid (fused_end N (by omega))
  have HBB := Lib.hid hB
  unfold maxLen at hbl
  clear hN hB
  go_enter Try.func6, Try.ntmps6
  go_wp2_with (first
    | (go_at_call 25; (with_reducible refine (HT.out _).mono ?_); rintro e w1 ⟨rfl, b1⟩)
    | (go_at_call 13; (with_reducible refine (HN.out _).mono ?_); rintro e w2 ⟨p, S2, rfl, h2, b2, s2⟩; have t2 : Safe w.heap.size w w2 S2 := ⟨bel2 b1 b2, Nat.le_trans b1.size b2.size, fun k hk => Nat.le_trans b1.size (s2 k hk)⟩)
    | (go_at_call 14; (with_reducible refine (HAL.out _).mono ?_); rintro e w3 ⟨rfl, b3⟩; have h3 := h2.below b3; have t3 := t2.below b3; clear h2 t2)
    | (go_at_call 19; (with_reducible refine (HK.out _).mono ?_); rintro e w4 ⟨rfl, rfl⟩)
    | (go_at_call 30; (with_reducible refine (HFu.out _ _ _ h3).mono ?_); rintro e w5 ⟨rfl, S5, h5, a5⟩; have t5 := t3.after a5; clear h3 t3))
  have H5 := Lib.hid h5
  have T5 := Lib.hid t5
  clear h5 t5
  go_loopw [7] (fun v wr => ∃ i : Nat, v = .int .i64 (i : Int) ∧ i ≤ N + 1 ∧ ∃ S, FHas wr p (fusedD (rep 32 1) N i (decide (i = N + 1))) S ∧ Safe w.heap.size w wr S) (fun v _ => N + 1 - (intOf v).toNat)
  case atStart => exact ⟨0, rfl, by omega, S5, by rw [show decide (0 = N + 1) = false by simp]; exact H5.out, T5.out⟩
  case round =>
    obtain ⟨i, rfl, hi, Sr, hr, tr⟩ := hrel
    clear H5 T5
    by_cases hiN : i ≤ N
    · have d1 : decide ((i : Int) ≤ (N : Int)) = true := by simp; omega
      have d2 : decide (i ≤ N) = true := by simp; omega
      rw [show decide (i = N + 1) = false by simp; omega] at hr
      have HDn := Lib.hid (fun w p S (h : FHas w p (fusedD (rep 32 1) N i false) S) => fDown_any h (OKF.out i hiN))
      rw [show (fusedD (rep 32 1) N i false).down = false from rfl] at HDn
      clear OKE
      by_cases hib : i < bad.length
      · have d3 : decide ((i : Int) < (bad.length : Int)) = true := by simp; omega
        have d4 : decide (i < bad.length) = true := by simp; omega
        obtain ⟨bb, off, hba, ec⟩ := HBB.out.get tr.bel hib
        subst hba
        have HBad := Lib.hid (fun w p S (h : FHas w p (fusedD (rep 32 1) N i false) S) => fProgram_any h (OKF.out i hiN) bad[i] ⟨#[120]⟩)
        rw [show (ByteArray.mk #[120]).data.toList = [120] from rfl] at HBad
        rw [show programD (fusedD (rep 32 1) N i false) bad[i] [120] = (1, fusedD (rep 32 1) N i false) from fuse_bad _ _ rfl] at HBad
        generalize bad[i] = x at *
        by_cases hl : i = N
        · clear HBB
          have q1 : ((i : Int) == (N : Int)) = true := by simp; omega
          have q2 : (i == N) = true := by simp; omega
          have HPr := Lib.hid (fun w p S (h : FHas w p (fusedD (rep 32 1) N i false) S) => fProgram_any h (OKF.out i hiN) i (bs (rep 32 1)))
          rw [list_bs, show programD (fusedD (rep 32 1) N i false) i (rep 32 1) = (6, fusedD (rep 32 1) N (i + 1) true) by have e := fuse_at (b := rep 32 1) (n := N) (by simp [rep]) (by omega); rw [show i = N by omega]; exact e] at HPr
          have HLN := Lib.hid hl
          clear hl
          clear OKF
          go_wp2_with (first
            | (go_at_call 26; (with_reducible refine (HBad.out _ _ _ hr).mono ?_); rintro e w20 ⟨rfl, S20, h20, a20⟩; have t20 := tr.after a20; clear hr tr)
            | (go_at_call 23; (with_reducible refine (HDn.out _ _ _ h20).mono ?_); rintro e w21 ⟨rfl, b21⟩; have h21 := h20.below b21; have t21 := t20.below b21; clear h20 t20)
            | (go_at_call 22; (with_reducible refine (HF.out _).mono ?_); rintro e w22 ⟨rfl, b22⟩; have h22 := h21.below b22; have t22 := t21.below b22; clear h21 t21)
            | (go_at_call 26; (with_reducible refine (HPr.out _ _ _ h22).mono ?_); rintro e w23 ⟨rfl, S23, h23, a23⟩; have t23 := t22.after a23; clear h22 t22))
          refine ⟨⟨i + 1, by go_num, by omega, S23, ?_, t23⟩, by simp [intOf]; omega⟩
          rw [show decide (i + 1 = N + 1) = true by simp; exact HLN.out]; exact h23
        · clear HBB
          have q1 : ((i : Int) == (N : Int)) = false := by simp; omega
          have q2 : (i == N) = false := by simp; omega
          have HPr := Lib.hid (fun w p S (h : FHas w p (fusedD (rep 32 1) N i false) S) => fProgram_any h (OKF.out i hiN) i (bs (rep 32 1)))
          rw [list_bs, fuse_lt (b := rep 32 1) (by simp [rep]) (show i < N by omega) (by omega)] at HPr
          clear OKF
          go_wp2_with (first
            | (go_at_call 26; (with_reducible refine (HBad.out _ _ _ hr).mono ?_); rintro e w20 ⟨rfl, S20, h20, a20⟩; have t20 := tr.after a20; clear hr tr)
            | (go_at_call 23; (with_reducible refine (HDn.out _ _ _ h20).mono ?_); rintro e w21 ⟨rfl, b21⟩; have h21 := h20.below b21; have t21 := t20.below b21; clear h20 t20)
            | (go_at_call 22; (with_reducible refine (HF.out _).mono ?_); rintro e w22 ⟨rfl, b22⟩; have h22 := h21.below b22; have t22 := t21.below b22; clear h21 t21)
            | (go_at_call 26; (with_reducible refine (HPr.out _ _ _ h22).mono ?_); rintro e w23 ⟨rfl, S23, h23, a23⟩; have t23 := t22.after a23; clear h22 t22))
          refine ⟨⟨i + 1, by go_num, by omega, S23, ?_, t23⟩, by simp [intOf]; omega⟩
          rw [show decide (i + 1 = N + 1) = false by simp; omega]; exact h23
      · have d3 : decide ((i : Int) < (bad.length : Int)) = false := by simp; omega
        have d4 : decide (i < bad.length) = false := by simp; omega
        by_cases hl : i = N
        · clear HBB
          have q1 : ((i : Int) == (N : Int)) = true := by simp; omega
          have q2 : (i == N) = true := by simp; omega
          have HPr := Lib.hid (fun w p S (h : FHas w p (fusedD (rep 32 1) N i false) S) => fProgram_any h (OKF.out i hiN) i (bs (rep 32 1)))
          rw [list_bs, show programD (fusedD (rep 32 1) N i false) i (rep 32 1) = (6, fusedD (rep 32 1) N (i + 1) true) by have e := fuse_at (b := rep 32 1) (n := N) (by simp [rep]) (by omega); rw [show i = N by omega]; exact e] at HPr
          have HLN := Lib.hid hl
          clear hl
          clear OKF
          go_wp2_with (first
            | (go_at_call 23; (with_reducible refine (HDn.out _ _ _ hr).mono ?_); rintro e w21 ⟨rfl, b21⟩; have h21 := hr.below b21; have t21 := tr.below b21; clear hr tr)
            | (go_at_call 22; (with_reducible refine (HF.out _).mono ?_); rintro e w22 ⟨rfl, b22⟩; have h22 := h21.below b22; have t22 := t21.below b22; clear h21 t21)
            | (go_at_call 26; (with_reducible refine (HPr.out _ _ _ h22).mono ?_); rintro e w23 ⟨rfl, S23, h23, a23⟩; have t23 := t22.after a23; clear h22 t22))
          refine ⟨⟨i + 1, by go_num, by omega, S23, ?_, t23⟩, by simp [intOf]; omega⟩
          rw [show decide (i + 1 = N + 1) = true by simp; exact HLN.out]; exact h23
        · clear HBB
          have q1 : ((i : Int) == (N : Int)) = false := by simp; omega
          have q2 : (i == N) = false := by simp; omega
          have HPr := Lib.hid (fun w p S (h : FHas w p (fusedD (rep 32 1) N i false) S) => fProgram_any h (OKF.out i hiN) i (bs (rep 32 1)))
          rw [list_bs, fuse_lt (b := rep 32 1) (by simp [rep]) (show i < N by omega) (by omega)] at HPr
          clear OKF
          go_wp2_with (first
            | (go_at_call 23; (with_reducible refine (HDn.out _ _ _ hr).mono ?_); rintro e w21 ⟨rfl, b21⟩; have h21 := hr.below b21; have t21 := tr.below b21; clear hr tr)
            | (go_at_call 22; (with_reducible refine (HF.out _).mono ?_); rintro e w22 ⟨rfl, b22⟩; have h22 := h21.below b22; have t22 := t21.below b22; clear h21 t21)
            | (go_at_call 26; (with_reducible refine (HPr.out _ _ _ h22).mono ?_); rintro e w23 ⟨rfl, S23, h23, a23⟩; have t23 := t22.after a23; clear h22 t22))
          refine ⟨⟨i + 1, by go_num, by omega, S23, ?_, t23⟩, by simp [intOf]; omega⟩
          rw [show decide (i + 1 = N + 1) = false by simp; omega]; exact h23
    · have d1 : decide ((i : Int) ≤ (N : Int)) = false := by simp; omega
      have d2 : decide (i ≤ N) = false := by simp; omega
      rw [show decide (i = N + 1) = true by simp; omega] at hr
      obtain rfl : i = N + 1 := by omega
      have HRd := Lib.hid (fun w p S (h : FHas w p (fusedD (rep 32 1) N (N + 1) true) S) => fRead_any h OKE.out 0)
      rw [fuse_read] at HRd
      have HDn := Lib.hid (fun w p S (h : FHas w p (fusedD (rep 32 1) N (N + 1) true) S) => fDown_any h OKE.out)
      rw [show (fusedD (rep 32 1) N (N + 1) true).down = true from rfl] at HDn
      have HFl := Lib.hid (fun w p S (h : FHas w p (fusedD (rep 32 1) N (N + 1) true) S) => fFlush_any h OKE.out)
      rw [fuse_flush] at HFl
      have HEr := Lib.hid (fun w p S (h : FHas w p (fusedD (rep 32 1) N (N + 1) true) S) => fErase_any h OKE.out 0)
      rw [fuse_erase] at HEr
      have HPe := Lib.hid (fun w p S (h : FHas w p (fusedD (rep 32 1) N (N + 1) true) S) => fPending_any h OKE.out)
      rw [fuse_wait, show (((N + 1 : Nat)) : Int) = (N : Int) + 1 by omega] at HPe
      clear OKF OKE HBB
      go_wp2_with (first
        | (go_at_call 29; (with_reducible refine (HRd.out _ _ _ hr).mono ?_); rintro e w31 ⟨rfl, b31⟩; have h31 := hr.below b31; have t31 := tr.below b31; clear hr tr)
        | (go_at_call 23; (with_reducible refine (HDn.out _ _ _ h31).mono ?_); rintro e w32 ⟨rfl, b32⟩; have h32 := h31.below b32; have t32 := t31.below b32; clear h31 t31)
        | (go_at_call 27; (with_reducible refine (HFl.out _ _ _ h32).mono ?_); rintro e w33 ⟨rfl, S33, h33, a33⟩; have t33 := t32.after a33; clear h32 t32)
        | (go_at_call 31; (with_reducible refine (HEr.out _ _ _ h33).mono ?_); rintro e w34 ⟨rfl, S34, h34, a34⟩; have t34 := t33.after a34; clear h33 t33)
        | (go_at_call 24; (with_reducible refine (HPe.out _ _ _ h34).mono ?_); rintro e w35 ⟨rfl, b35⟩; have h35 := h34.below b35; have t35 := t34.below b35; clear h34 t34))
      go_ret
      exact ⟨rfl, t35.bel⟩
end Go.Proofs.Ytgcbdekdjdlfaaa.Flash
