/-
  Joined texts: TapeFr, TapeS.
-/
import Derived.Test.YtcmjambbdfangaaRunFlashA
import Derived.Test.YtcmjambbdfangaaRegionTurn
import Derived.Test.YtcmjambbdfangaaRunTapeL
import Derived.Test.YtcmjambbdfangaaRunTapeR
/-
  What the laws' frames answers.
-/
set_option linter.unusedVariables false
set_option linter.unusedSimpArgs false
namespace Go.Proofs.Ytcmjambbdfangaa.Tape
open Go.RowKit
open Go.Proofs.Ytcmjambbdfangaa.Own
open CrcM (W)
open Crc (vl wd)
open Flash (newD readD Dev FHas RHas programD eraseD flushD bs list_bs)
open Chart (newC pgC Ch CHas DHas openC takeC eraseC setC)
open Go.Proofs.Ytcmjambbdfangaa.Frame (Fr fV page bytesG)
open Tup Foot Bytes
open Go.Proofs.Ytcmjambbdfangaa.Region (fill Then Deps Each wp_region_is wp_region_is_tail wp_region_each wp_region_tail slots TJ TJ2 Each2 Deps2 wp_region_each3 upd put)

theorem shortT (s : ByteArray) (hs : s.size ≤ maxLen) (n : Nat) (hn : n ≤ 1000) (w : World) :
    Calls Try.prog 18 #[.string s, .int .i64 (n : Int)] w fun e w' => e = .returned (.string (bs (s.data.toList.take n))) ∧ w = w' := by
  unfold maxLen at hs
  obtain ⟨k, hk⟩ : ∃ k : Nat, (k : Int) = min (s.size : Int) (n : Int) := ⟨min s.size n, by omega⟩
  have hmn := fun w ts t => Txt.min2' (P := Try.prog) w ts t (s.size : Int) (n : Int) (k : Int) hk
  have hsl := Txt.cutS s.data.toList k (k : Int) rfl (by simp; omega)
  rw [Flash.bs_list] at hsl
  have HE := Lib.hid (show s.data.toList.take k = s.data.toList.take n by
    by_cases h : s.size ≤ n
    · rw [List.take_of_length_le (show s.data.toList.length ≤ n by simpa using h), List.take_of_length_le (by simp; omega)]
    · rw [show k = n by omega])
  clear hk
  go_enter Try.func18, Try.ntmps18
  go_wp2
  go_ret
  rw [HE.out]
  exact ⟨rfl, rfl⟩
def StrAt (w : World) (a : Option Addr) (l : List ByteArray) : Prop := Tup.At w a (l.map (.string ·))
theorem StrAt.get {w : World} {a : Option Addr} {l : List ByteArray} (h : StrAt w a l) {k : Nat} (hk : k < l.length) : ∃ b off, a = some ⟨b, off, none⟩ ∧ b < w.heap.size ∧ w.cell? ⟨b, off + k, none⟩ = some (.string (l.getD k ⟨#[]⟩)) := by
  have hg : (l.map (Value.string ·))[k]? = some (.string (l.getD k ⟨#[]⟩)) := by rw [List.getElem?_map, List.getElem?_eq_getElem hk, List.getD_eq_getElem?_getD, List.getElem?_eq_getElem hk]; rfl
  rcases h with hn | ⟨b, off, ha, hl⟩
  · rw [hn] at hg; simp at hg
  · exact ⟨b, off, ha, block_lt_of_cell (hl _ _ hg), hl _ _ hg⟩
theorem StrAt.below {w w' : World} {a : Option Addr} {l : List ByteArray} (h : StrAt w a l) (g : Below w.heap.size w w') : StrAt w' a l := Tup.At.below h g
/-- the values of operations some of which make a row of one -/
def SV (tab : List Value) (B : List (Nat × List Value)) : Nat → Value → World → Prop := fun i v w => match B.lookup i with
  | some cs => ∃ g, v = .slice (some ⟨g, 0, none⟩) 1 1 ∧ Lies w g 0 cs ∧ g < w.heap.size
  | none => v = tab.getD i undef
theorem lies_below {w w' : World} {g : Nat} {cs : List Value} (h : Lies w g 0 cs) (hg : g < w.heap.size) (b : Below w.heap.size w w') : Lies w' g 0 cs := fun j c hj => by
  rw [b.cell (p := ⟨g, 0 + j, none⟩) hg]; exact h j c hj
theorem SV.mono (tab : List Value) (B : List (Nat × List Value)) : ∀ i v w w', SV tab B i v w → Below w.heap.size w w' → SV tab B i v w' := by
  intro i v w w' h hb
  unfold SV at h ⊢
  split
  · rename_i cs e
    rw [e] at h
    obtain ⟨g, h1, h2, h3⟩ := h
    exact ⟨g, h1, lies_below h2 h3 hb, Nat.lt_of_lt_of_le h3 hb.size⟩
  · rename_i e
    rw [e] at h; exact h
set_option maxRecDepth 100000 in
set_option maxHeartbeats 8000000 in
theorem frames_any {pg pgs rgs : Nat} (z : Sz pg pgs rgs) (la : Option Addr) (l : List ByteArray) (lc most : Nat) (hll : l.length ≤ maxLen) (hmo : most ≤ 1000) (hsz : ∀ k, (l.getD k ⟨#[]⟩).size ≤ maxLen) (w : World) (hS : StrAt w la l) :
    Calls Try.prog 11 #[.agg #[.int .i64 (pg : Int), .int .i64 (pgs : Int), .int .i64 (rgs : Int)], .slice la l.length lc, .int .i64 (most : Int)] w fun e w' => ∃ v, e = .returned v ∧ FMine w' w.heap.size v (framesTo pg l (min l.length most)) ∧ Below w.heap.size w w' := by
  obtain ⟨M, hM⟩ : ∃ M, M = min l.length most := ⟨_, rfl⟩
  have p0 := z.p0
  have p1 := z.p1
  have r0 := z.r0
  have r1 := z.r1
  have s0 := z.s0
  have s1 := z.s1
  rw [← hM]
  have HRM : Hid (∀ w, Calls Try.prog 19 #[.agg #[.int .i64 (pg : Int), .int .i64 (pgs : Int), .int .i64 (rgs : Int)]] w fun e w' => e = .returned (.int .i64 ((pg - 15 : Nat) : Int)) ∧ Below w.heap.size w w') := fun w => by
    have := Geom.refRoom_any ⟨pg, pgs, rgs⟩ ⟨by simp only; omega, by simp only; omega, by simp only; omega, by simp only; omega, by simp only; omega, by simp only; omega⟩ w
    rw [show Geom.roomG ⟨pg, pgs, rgs⟩ = ((pg - 15 : Nat) : Int) by unfold Geom.roomG; simp only; omega] at this
    exact this
  have HSZ := Lib.hid hsz
  unfold maxLen at hll
  have HVW := Lib.hid (Var.new w 23 [.int .i64 (pg : Int), .int .i64 (pgs : Int), .int .i64 (rgs : Int)])
  have HBA := Lib.hid (Geom.bel_alloc w (.cells #[.int .i64 (pg : Int), .int .i64 (pgs : Int), .int .i64 (rgs : Int)] 23))
  obtain ⟨w1, hw1⟩ : ∃ w1, w1 = w.alloc (.cells #[.int .i64 (pg : Int), .int .i64 (pgs : Int), .int .i64 (rgs : Int)] 23) := ⟨_, rfl⟩
  have HB1 := Lib.hid (show Below w.heap.size w w1 by rw [hw1]; exact HBA.out)
  have HVG := Lib.hid (show Var w1 w.heap.size 23 [.int .i64 (pg : Int), .int .i64 (pgs : Int), .int .i64 (rgs : Int)] by rw [hw1]; exact HVW.out)
  have HS1 := Lib.hid (hS.below HB1.out)
  clear hsz hS HVW HBA z
  go_enter Try.func11, Try.ntmps11
  go_wp2
  rw [← hw1]
  clear hw1
  go_loopw [7, 8] (fun v i wr => ∃ k : Nat, i = .int .i64 (k : Int) ∧ k ≤ M ∧ FMine wr w1.heap.size v (framesTo pg l k) ∧ Below w1.heap.size w1 wr) (fun _ i _ => M - (intOf i).toNat)
  case atStart => exact ⟨0, rfl, Nat.zero_le _, FMine.nil _ _, Below.refl _ _⟩
  case round =>
    obtain ⟨k, rfl, hk, hown, hbel⟩ := hrel
    obtain ⟨a, c, rfl⟩ := owns_slice hown
    unfold FMine at hown
    rw [framesTo_len] at hown ⊢
    have HO := Lib.hid hown
    have HB := Lib.hid hbel
    clear hown hbel
    by_cases hlt : k < M
    case neg =>
      obtain rfl : k = M := by omega
      have HMM := Lib.hid hM
      by_cases hle : k < l.length
      · have d1 : decide ((k : Int) < (l.length : Int)) = true := by simp; omega
        have d2 : decide (k < l.length) = true := by simp; omega
        have d3 : decide ((k : Int) < (most : Int)) = false := by simp; omega
        have d4 : decide (k < most) = false := by simp; omega
        clear hM
        go_wp2
        go_ret
        exact ⟨_, rfl, by unfold FMine; rw [framesTo_len]; exact owns_base HO.out HB1.out.size, bel2 HB1.out HB.out⟩
      · have d1 : decide ((k : Int) < (l.length : Int)) = false := by simp; omega
        have d2 : decide (k < l.length) = false := by simp; omega
        clear hM
        go_wp2
        go_ret
        exact ⟨_, rfl, by unfold FMine; rw [framesTo_len]; exact owns_base HO.out HB1.out.size, bel2 HB1.out HB.out⟩
    have hkl : k < l.length := by omega
    have hk1000 : k < 1000 := by omega
    have d1 : decide ((k : Int) < (l.length : Int)) = true := by simp; omega
    have d2 : decide (k < l.length) = true := by simp; omega
    have d3 : decide ((k : Int) < (most : Int)) = true := by simp; omega
    have d4 : decide (k < most) = true := by simp; omega
    obtain ⟨sb, off, hla, hsb, hcx⟩ := StrAt.get HS1.out hkl
    subst hla
    obtain ⟨X, hX⟩ : ∃ X, X = l.getD k ⟨#[]⟩ := ⟨_, rfl⟩
    have hXs : X.size ≤ maxLen := by rw [hX]; exact HSZ.out k
    obtain ⟨T, hT⟩ : ∃ T, T = bs (X.data.toList.take (pg - 15)) := ⟨_, rfl⟩
    have HSH := Lib.hid (fun w => shortT X hXs (pg - 15) (by omega) w)
    rw [← hT] at HSH
    obtain ⟨sz, hsz⟩ : ∃ sz, sz = X.size := ⟨_, rfl⟩
    have HFC := Lib.hid (show fC (frameAt pg k (l.getD k ⟨#[]⟩)) = [.int .i64 2, .int .u32 ((k : Int) + 1), .int .u32 ((sz : Int) % 4294967296), .string T] by
      rw [← hX]
      unfold fC frameAt cutS
      simp only
      rw [← hT, vl_ofNat (show k + 1 < 4294967296 by omega), hsz]
      unfold vl
      rw [BitVec.toNat_ofNat]
      simp only [Int.natCast_add, Int.natCast_emod]
      rfl)
    rw [← hX] at hcx
    have HX := Lib.hid hcx
    have HSB := Lib.hid hsb
    have hk32 : ((k : Int) + 1) % 4294967296 = (k : Int) + 1 := by omega
    have hXz : X.size = sz := hsz.symm
    have hszm : sz ≤ maxLen := by rw [hsz]; exact hXs
    unfold maxLen at hszm
    clear hX hT hcx hXs hsb hsz HSZ HS1 hM
    go_wp2
    refine wp_region_tail 19 [20, 21, 22, 23, 24, 25, 26, 27, 28, 29, 30, 31, 32, 33, 34, 35, 36, 37, 38] (fun w' => Below wr.heap.size wr w') (SV [.slice a k c, .int .i64 (k : Int), .int .i64 ((k : Int) + 1), .int .u32 ((k : Int) + 1), .slice (some ⟨sb, off, none⟩) l.length lc, .int .i64 (k : Int), .pointer (some ⟨sb, off + k, none⟩), .string X, .int .i64 (sz : Int), .int .u32 ((sz : Int) % 4294967296), .slice (some ⟨sb, off, none⟩) l.length lc, .int .i64 (k : Int), .pointer (some ⟨sb, off + k, none⟩), .string X, .agg #[.int .i64 (pg : Int), .int .i64 (pgs : Int), .int .i64 (rgs : Int)], .int .i64 ((pg - 15 : Nat) : Int), .string T, .agg #[.int .i64 2, .int .u32 ((k : Int) + 1), .int .u32 ((sz : Int) % 4294967296), .string T], undef] [(18, [.int .i64 2, .int .u32 ((k : Int) + 1), .int .u32 ((sz : Int) % 4294967296), .string T])]) (by kernel_rfl) (by kernel_rfl) (by kernel_rfl) (by decide) rfl (by decide) (by simp) (SV.mono _ _) (Below.refl _ _).drew ?each ?done
    case each =>
      simp only [List.take_succ_cons, List.take_zero, Each]
      refine ⟨?o0, ?o1, ?o2, ?o3, ?o4, ?o5, ?o6, ?o7, ?o8, ?o9, ?o10, ?o11, ?o12, ?o13, ?o14, ?o15, ?o16, ?o17, ?o18, trivial⟩
      case o0 =>
        intro ys wx hBx hdeps
        clear hdeps
        simp only [fill, List.foldl_cons, List.foldl_nil, Act.put, List.setIfInBounds_toArray, List.set_cons_succ, List.set_cons_zero]
        go_wp2_with fail
        exact ⟨_, rfl, rfl, hBx, Below.refl _ _⟩
      case o1 =>
        intro ys wx hBx hdeps
        clear hdeps
        simp only [fill, List.foldl_cons, List.foldl_nil, Act.put, List.setIfInBounds_toArray, List.set_cons_succ, List.set_cons_zero]
        go_wp2_with fail
        exact ⟨_, rfl, rfl, hBx, Below.refl _ _⟩
      case o2 =>
        intro ys wx hBx hdeps
        simp only [Deps, Region.binds, List.getD_cons_zero, List.getD_cons_succ, forall_const, and_true, true_and] at hdeps
        have y1 : ys 21 = .int .i64 (k : Int) := by first | exact hdeps | exact hdeps.1 | exact hdeps.2.1 | exact hdeps.2.2.1 | exact hdeps.2.2.2.1 | exact hdeps.2.2.2.2.1 | exact hdeps.2.2.2.2.2.1 | exact hdeps.2.2.2.2.2.2.1 | exact hdeps.2.2.2.2.2.2.2.1 | exact hdeps.2.2.2.2.2.2.2.2.1 | exact hdeps.2.2.2.2.2.2.2.2.2.1 | exact hdeps.2.2.2.2.2.2.2.2.2.2.1 | exact hdeps.2.2.2.2.2.2.2.2.2.2.2.1 | exact hdeps.2 | exact hdeps.2.2 | exact hdeps.2.2.2 | exact hdeps.2.2.2.2 | exact hdeps.2.2.2.2.2 | exact hdeps.2.2.2.2.2.2 | exact hdeps.2.2.2.2.2.2.2 | exact hdeps.2.2.2.2.2.2.2.2 | exact hdeps.2.2.2.2.2.2.2.2.2 | exact hdeps.2.2.2.2.2.2.2.2.2.2 | exact hdeps.2.2.2.2.2.2.2.2.2.2.2
        clear hdeps
        simp only [y1, fill, List.foldl_cons, List.foldl_nil, Act.put, List.setIfInBounds_toArray, List.set_cons_succ, List.set_cons_zero]
        go_wp2_with fail
        exact ⟨_, rfl, rfl, hBx, Below.refl _ _⟩
      case o3 =>
        intro ys wx hBx hdeps
        simp only [Deps, Region.binds, List.getD_cons_zero, List.getD_cons_succ, forall_const, and_true, true_and] at hdeps
        have y2 : ys 22 = .int .i64 ((k : Int) + 1) := by first | exact hdeps | exact hdeps.1 | exact hdeps.2.1 | exact hdeps.2.2.1 | exact hdeps.2.2.2.1 | exact hdeps.2.2.2.2.1 | exact hdeps.2.2.2.2.2.1 | exact hdeps.2.2.2.2.2.2.1 | exact hdeps.2.2.2.2.2.2.2.1 | exact hdeps.2.2.2.2.2.2.2.2.1 | exact hdeps.2.2.2.2.2.2.2.2.2.1 | exact hdeps.2.2.2.2.2.2.2.2.2.2.1 | exact hdeps.2.2.2.2.2.2.2.2.2.2.2.1 | exact hdeps.2 | exact hdeps.2.2 | exact hdeps.2.2.2 | exact hdeps.2.2.2.2 | exact hdeps.2.2.2.2.2 | exact hdeps.2.2.2.2.2.2 | exact hdeps.2.2.2.2.2.2.2 | exact hdeps.2.2.2.2.2.2.2.2 | exact hdeps.2.2.2.2.2.2.2.2.2 | exact hdeps.2.2.2.2.2.2.2.2.2.2 | exact hdeps.2.2.2.2.2.2.2.2.2.2.2
        clear hdeps
        simp only [y2, fill, List.foldl_cons, List.foldl_nil, Act.put, List.setIfInBounds_toArray, List.set_cons_succ, List.set_cons_zero]
        go_wp2_with fail
        exact ⟨_, rfl, rfl, hBx, Below.refl _ _⟩
      case o4 =>
        intro ys wx hBx hdeps
        clear hdeps
        simp only [fill, List.foldl_cons, List.foldl_nil, Act.put, List.setIfInBounds_toArray, List.set_cons_succ, List.set_cons_zero]
        go_wp2_with fail
        exact ⟨_, rfl, rfl, hBx, Below.refl _ _⟩
      case o5 =>
        intro ys wx hBx hdeps
        clear hdeps
        simp only [fill, List.foldl_cons, List.foldl_nil, Act.put, List.setIfInBounds_toArray, List.set_cons_succ, List.set_cons_zero]
        go_wp2_with fail
        exact ⟨_, rfl, rfl, hBx, Below.refl _ _⟩
      case o6 =>
        intro ys wx hBx hdeps
        simp only [Deps, Region.binds, List.getD_cons_zero, List.getD_cons_succ, forall_const, and_true, true_and] at hdeps
        have y4 : ys 24 = .slice (some ⟨sb, off, none⟩) l.length lc := by first | exact hdeps | exact hdeps.1 | exact hdeps.2.1 | exact hdeps.2.2.1 | exact hdeps.2.2.2.1 | exact hdeps.2.2.2.2.1 | exact hdeps.2.2.2.2.2.1 | exact hdeps.2.2.2.2.2.2.1 | exact hdeps.2.2.2.2.2.2.2.1 | exact hdeps.2.2.2.2.2.2.2.2.1 | exact hdeps.2.2.2.2.2.2.2.2.2.1 | exact hdeps.2.2.2.2.2.2.2.2.2.2.1 | exact hdeps.2.2.2.2.2.2.2.2.2.2.2.1 | exact hdeps.2 | exact hdeps.2.2 | exact hdeps.2.2.2 | exact hdeps.2.2.2.2 | exact hdeps.2.2.2.2.2 | exact hdeps.2.2.2.2.2.2 | exact hdeps.2.2.2.2.2.2.2 | exact hdeps.2.2.2.2.2.2.2.2 | exact hdeps.2.2.2.2.2.2.2.2.2 | exact hdeps.2.2.2.2.2.2.2.2.2.2 | exact hdeps.2.2.2.2.2.2.2.2.2.2.2
        have y5 : ys 25 = .int .i64 (k : Int) := by first | exact hdeps | exact hdeps.1 | exact hdeps.2.1 | exact hdeps.2.2.1 | exact hdeps.2.2.2.1 | exact hdeps.2.2.2.2.1 | exact hdeps.2.2.2.2.2.1 | exact hdeps.2.2.2.2.2.2.1 | exact hdeps.2.2.2.2.2.2.2.1 | exact hdeps.2.2.2.2.2.2.2.2.1 | exact hdeps.2.2.2.2.2.2.2.2.2.1 | exact hdeps.2.2.2.2.2.2.2.2.2.2.1 | exact hdeps.2.2.2.2.2.2.2.2.2.2.2.1 | exact hdeps.2 | exact hdeps.2.2 | exact hdeps.2.2.2 | exact hdeps.2.2.2.2 | exact hdeps.2.2.2.2.2 | exact hdeps.2.2.2.2.2.2 | exact hdeps.2.2.2.2.2.2.2 | exact hdeps.2.2.2.2.2.2.2.2 | exact hdeps.2.2.2.2.2.2.2.2.2 | exact hdeps.2.2.2.2.2.2.2.2.2.2 | exact hdeps.2.2.2.2.2.2.2.2.2.2.2
        clear hdeps
        simp only [y4, y5, fill, List.foldl_cons, List.foldl_nil, Act.put, List.setIfInBounds_toArray, List.set_cons_succ, List.set_cons_zero]
        go_wp2_with fail
        exact ⟨_, rfl, rfl, hBx, Below.refl _ _⟩
      case o7 =>
        intro ys wx hBx hdeps
        simp only [Deps, Region.binds, List.getD_cons_zero, List.getD_cons_succ, forall_const, and_true, true_and] at hdeps
        have y6 : ys 26 = .pointer (some ⟨sb, off + k, none⟩) := by first | exact hdeps | exact hdeps.1 | exact hdeps.2.1 | exact hdeps.2.2.1 | exact hdeps.2.2.2.1 | exact hdeps.2.2.2.2.1 | exact hdeps.2.2.2.2.2.1 | exact hdeps.2.2.2.2.2.2.1 | exact hdeps.2.2.2.2.2.2.2.1 | exact hdeps.2.2.2.2.2.2.2.2.1 | exact hdeps.2.2.2.2.2.2.2.2.2.1 | exact hdeps.2.2.2.2.2.2.2.2.2.2.1 | exact hdeps.2.2.2.2.2.2.2.2.2.2.2.1 | exact hdeps.2 | exact hdeps.2.2 | exact hdeps.2.2.2 | exact hdeps.2.2.2.2 | exact hdeps.2.2.2.2.2 | exact hdeps.2.2.2.2.2.2 | exact hdeps.2.2.2.2.2.2.2 | exact hdeps.2.2.2.2.2.2.2.2 | exact hdeps.2.2.2.2.2.2.2.2.2 | exact hdeps.2.2.2.2.2.2.2.2.2.2 | exact hdeps.2.2.2.2.2.2.2.2.2.2.2
        clear hdeps
        have hX : wx.cell? ⟨sb, off + k, none⟩ = some (.string X) := by rw [(bel2 HB.out hBx).cell (p := ⟨sb, off + k, none⟩) HSB.out]; exact HX.out
        simp only [y6, fill, List.foldl_cons, List.foldl_nil, Act.put, List.setIfInBounds_toArray, List.set_cons_succ, List.set_cons_zero]
        go_wp2_with fail
        exact ⟨_, rfl, rfl, hBx, Below.refl _ _⟩
      case o8 =>
        intro ys wx hBx hdeps
        simp only [Deps, Region.binds, List.getD_cons_zero, List.getD_cons_succ, forall_const, and_true, true_and] at hdeps
        have y7 : ys 27 = .string X := by first | exact hdeps | exact hdeps.1 | exact hdeps.2.1 | exact hdeps.2.2.1 | exact hdeps.2.2.2.1 | exact hdeps.2.2.2.2.1 | exact hdeps.2.2.2.2.2.1 | exact hdeps.2.2.2.2.2.2.1 | exact hdeps.2.2.2.2.2.2.2.1 | exact hdeps.2.2.2.2.2.2.2.2.1 | exact hdeps.2.2.2.2.2.2.2.2.2.1 | exact hdeps.2.2.2.2.2.2.2.2.2.2.1 | exact hdeps.2.2.2.2.2.2.2.2.2.2.2.1 | exact hdeps.2 | exact hdeps.2.2 | exact hdeps.2.2.2 | exact hdeps.2.2.2.2 | exact hdeps.2.2.2.2.2 | exact hdeps.2.2.2.2.2.2 | exact hdeps.2.2.2.2.2.2.2 | exact hdeps.2.2.2.2.2.2.2.2 | exact hdeps.2.2.2.2.2.2.2.2.2 | exact hdeps.2.2.2.2.2.2.2.2.2.2 | exact hdeps.2.2.2.2.2.2.2.2.2.2.2
        clear hdeps
        simp only [y7, fill, List.foldl_cons, List.foldl_nil, Act.put, List.setIfInBounds_toArray, List.set_cons_succ, List.set_cons_zero]
        go_wp2_with fail
        exact ⟨_, rfl, rfl, hBx, Below.refl _ _⟩
      case o9 =>
        intro ys wx hBx hdeps
        simp only [Deps, Region.binds, List.getD_cons_zero, List.getD_cons_succ, forall_const, and_true, true_and] at hdeps
        have y8 : ys 28 = .int .i64 (sz : Int) := by first | exact hdeps | exact hdeps.1 | exact hdeps.2.1 | exact hdeps.2.2.1 | exact hdeps.2.2.2.1 | exact hdeps.2.2.2.2.1 | exact hdeps.2.2.2.2.2.1 | exact hdeps.2.2.2.2.2.2.1 | exact hdeps.2.2.2.2.2.2.2.1 | exact hdeps.2.2.2.2.2.2.2.2.1 | exact hdeps.2.2.2.2.2.2.2.2.2.1 | exact hdeps.2.2.2.2.2.2.2.2.2.2.1 | exact hdeps.2.2.2.2.2.2.2.2.2.2.2.1 | exact hdeps.2 | exact hdeps.2.2 | exact hdeps.2.2.2 | exact hdeps.2.2.2.2 | exact hdeps.2.2.2.2.2 | exact hdeps.2.2.2.2.2.2 | exact hdeps.2.2.2.2.2.2.2 | exact hdeps.2.2.2.2.2.2.2.2 | exact hdeps.2.2.2.2.2.2.2.2.2 | exact hdeps.2.2.2.2.2.2.2.2.2.2 | exact hdeps.2.2.2.2.2.2.2.2.2.2.2
        clear hdeps
        simp only [y8, fill, List.foldl_cons, List.foldl_nil, Act.put, List.setIfInBounds_toArray, List.set_cons_succ, List.set_cons_zero]
        go_wp2_with fail
        exact ⟨_, rfl, rfl, hBx, Below.refl _ _⟩
      case o10 =>
        intro ys wx hBx hdeps
        clear hdeps
        simp only [fill, List.foldl_cons, List.foldl_nil, Act.put, List.setIfInBounds_toArray, List.set_cons_succ, List.set_cons_zero]
        go_wp2_with fail
        exact ⟨_, rfl, rfl, hBx, Below.refl _ _⟩
      case o11 =>
        intro ys wx hBx hdeps
        clear hdeps
        simp only [fill, List.foldl_cons, List.foldl_nil, Act.put, List.setIfInBounds_toArray, List.set_cons_succ, List.set_cons_zero]
        go_wp2_with fail
        exact ⟨_, rfl, rfl, hBx, Below.refl _ _⟩
      case o12 =>
        intro ys wx hBx hdeps
        simp only [Deps, Region.binds, List.getD_cons_zero, List.getD_cons_succ, forall_const, and_true, true_and] at hdeps
        have y10 : ys 30 = .slice (some ⟨sb, off, none⟩) l.length lc := by first | exact hdeps | exact hdeps.1 | exact hdeps.2.1 | exact hdeps.2.2.1 | exact hdeps.2.2.2.1 | exact hdeps.2.2.2.2.1 | exact hdeps.2.2.2.2.2.1 | exact hdeps.2.2.2.2.2.2.1 | exact hdeps.2.2.2.2.2.2.2.1 | exact hdeps.2.2.2.2.2.2.2.2.1 | exact hdeps.2.2.2.2.2.2.2.2.2.1 | exact hdeps.2.2.2.2.2.2.2.2.2.2.1 | exact hdeps.2.2.2.2.2.2.2.2.2.2.2.1 | exact hdeps.2 | exact hdeps.2.2 | exact hdeps.2.2.2 | exact hdeps.2.2.2.2 | exact hdeps.2.2.2.2.2 | exact hdeps.2.2.2.2.2.2 | exact hdeps.2.2.2.2.2.2.2 | exact hdeps.2.2.2.2.2.2.2.2 | exact hdeps.2.2.2.2.2.2.2.2.2 | exact hdeps.2.2.2.2.2.2.2.2.2.2 | exact hdeps.2.2.2.2.2.2.2.2.2.2.2
        have y11 : ys 31 = .int .i64 (k : Int) := by first | exact hdeps | exact hdeps.1 | exact hdeps.2.1 | exact hdeps.2.2.1 | exact hdeps.2.2.2.1 | exact hdeps.2.2.2.2.1 | exact hdeps.2.2.2.2.2.1 | exact hdeps.2.2.2.2.2.2.1 | exact hdeps.2.2.2.2.2.2.2.1 | exact hdeps.2.2.2.2.2.2.2.2.1 | exact hdeps.2.2.2.2.2.2.2.2.2.1 | exact hdeps.2.2.2.2.2.2.2.2.2.2.1 | exact hdeps.2.2.2.2.2.2.2.2.2.2.2.1 | exact hdeps.2 | exact hdeps.2.2 | exact hdeps.2.2.2 | exact hdeps.2.2.2.2 | exact hdeps.2.2.2.2.2 | exact hdeps.2.2.2.2.2.2 | exact hdeps.2.2.2.2.2.2.2 | exact hdeps.2.2.2.2.2.2.2.2 | exact hdeps.2.2.2.2.2.2.2.2.2 | exact hdeps.2.2.2.2.2.2.2.2.2.2 | exact hdeps.2.2.2.2.2.2.2.2.2.2.2
        clear hdeps
        simp only [y10, y11, fill, List.foldl_cons, List.foldl_nil, Act.put, List.setIfInBounds_toArray, List.set_cons_succ, List.set_cons_zero]
        go_wp2_with fail
        exact ⟨_, rfl, rfl, hBx, Below.refl _ _⟩
      case o13 =>
        intro ys wx hBx hdeps
        simp only [Deps, Region.binds, List.getD_cons_zero, List.getD_cons_succ, forall_const, and_true, true_and] at hdeps
        have y12 : ys 32 = .pointer (some ⟨sb, off + k, none⟩) := by first | exact hdeps | exact hdeps.1 | exact hdeps.2.1 | exact hdeps.2.2.1 | exact hdeps.2.2.2.1 | exact hdeps.2.2.2.2.1 | exact hdeps.2.2.2.2.2.1 | exact hdeps.2.2.2.2.2.2.1 | exact hdeps.2.2.2.2.2.2.2.1 | exact hdeps.2.2.2.2.2.2.2.2.1 | exact hdeps.2.2.2.2.2.2.2.2.2.1 | exact hdeps.2.2.2.2.2.2.2.2.2.2.1 | exact hdeps.2.2.2.2.2.2.2.2.2.2.2.1 | exact hdeps.2 | exact hdeps.2.2 | exact hdeps.2.2.2 | exact hdeps.2.2.2.2 | exact hdeps.2.2.2.2.2 | exact hdeps.2.2.2.2.2.2 | exact hdeps.2.2.2.2.2.2.2 | exact hdeps.2.2.2.2.2.2.2.2 | exact hdeps.2.2.2.2.2.2.2.2.2 | exact hdeps.2.2.2.2.2.2.2.2.2.2 | exact hdeps.2.2.2.2.2.2.2.2.2.2.2
        clear hdeps
        have hX : wx.cell? ⟨sb, off + k, none⟩ = some (.string X) := by rw [(bel2 HB.out hBx).cell (p := ⟨sb, off + k, none⟩) HSB.out]; exact HX.out
        simp only [y12, fill, List.foldl_cons, List.foldl_nil, Act.put, List.setIfInBounds_toArray, List.set_cons_succ, List.set_cons_zero]
        go_wp2_with fail
        exact ⟨_, rfl, rfl, hBx, Below.refl _ _⟩
      case o14 =>
        intro ys wx hBx hdeps
        clear hdeps
        have g0 := (HVG.out.below (bel2 HB.out hBx) HVG.out.lt).cell (j := 0) rfl
        have g1 := (HVG.out.below (bel2 HB.out hBx) HVG.out.lt).cell (j := 1) rfl
        have g2 := (HVG.out.below (bel2 HB.out hBx) HVG.out.lt).cell (j := 2) rfl
        simp only [fill, List.foldl_cons, List.foldl_nil, Act.put, List.setIfInBounds_toArray, List.set_cons_succ, List.set_cons_zero]
        go_wp2_with fail
        exact ⟨_, rfl, rfl, hBx, Below.refl _ _⟩
      case o15 =>
        intro ys wx hBx hdeps
        simp only [Deps, Region.binds, List.getD_cons_zero, List.getD_cons_succ, forall_const, and_true, true_and] at hdeps
        have y14 : ys 34 = .agg #[.int .i64 (pg : Int), .int .i64 (pgs : Int), .int .i64 (rgs : Int)] := by first | exact hdeps | exact hdeps.1 | exact hdeps.2.1 | exact hdeps.2.2.1 | exact hdeps.2.2.2.1 | exact hdeps.2.2.2.2.1 | exact hdeps.2.2.2.2.2.1 | exact hdeps.2.2.2.2.2.2.1 | exact hdeps.2.2.2.2.2.2.2.1 | exact hdeps.2.2.2.2.2.2.2.2.1 | exact hdeps.2.2.2.2.2.2.2.2.2.1 | exact hdeps.2.2.2.2.2.2.2.2.2.2.1 | exact hdeps.2.2.2.2.2.2.2.2.2.2.2.1 | exact hdeps.2 | exact hdeps.2.2 | exact hdeps.2.2.2 | exact hdeps.2.2.2.2 | exact hdeps.2.2.2.2.2 | exact hdeps.2.2.2.2.2.2 | exact hdeps.2.2.2.2.2.2.2 | exact hdeps.2.2.2.2.2.2.2.2 | exact hdeps.2.2.2.2.2.2.2.2.2 | exact hdeps.2.2.2.2.2.2.2.2.2.2 | exact hdeps.2.2.2.2.2.2.2.2.2.2.2
        clear hdeps
        simp only [y14, fill, List.foldl_cons, List.foldl_nil, Act.put, List.setIfInBounds_toArray, List.set_cons_succ, List.set_cons_zero]
        go_wp2_with (go_at_call 19; (with_reducible refine (HRM.out _).mono ?_); rintro e w3 ⟨rfl, hm⟩)
        exact ⟨_, rfl, rfl, hBx.trans (hm.mono hBx.size), hm⟩
      case o16 =>
        intro ys wx hBx hdeps
        simp only [Deps, Region.binds, List.getD_cons_zero, List.getD_cons_succ, forall_const, and_true, true_and] at hdeps
        have y13 : ys 33 = .string X := by first | exact hdeps | exact hdeps.1 | exact hdeps.2.1 | exact hdeps.2.2.1 | exact hdeps.2.2.2.1 | exact hdeps.2.2.2.2.1 | exact hdeps.2.2.2.2.2.1 | exact hdeps.2.2.2.2.2.2.1 | exact hdeps.2.2.2.2.2.2.2.1 | exact hdeps.2.2.2.2.2.2.2.2.1 | exact hdeps.2.2.2.2.2.2.2.2.2.1 | exact hdeps.2.2.2.2.2.2.2.2.2.2.1 | exact hdeps.2.2.2.2.2.2.2.2.2.2.2.1 | exact hdeps.2 | exact hdeps.2.2 | exact hdeps.2.2.2 | exact hdeps.2.2.2.2 | exact hdeps.2.2.2.2.2 | exact hdeps.2.2.2.2.2.2 | exact hdeps.2.2.2.2.2.2.2 | exact hdeps.2.2.2.2.2.2.2.2 | exact hdeps.2.2.2.2.2.2.2.2.2 | exact hdeps.2.2.2.2.2.2.2.2.2.2 | exact hdeps.2.2.2.2.2.2.2.2.2.2.2
        have y15 : ys 35 = .int .i64 ((pg - 15 : Nat) : Int) := by first | exact hdeps | exact hdeps.1 | exact hdeps.2.1 | exact hdeps.2.2.1 | exact hdeps.2.2.2.1 | exact hdeps.2.2.2.2.1 | exact hdeps.2.2.2.2.2.1 | exact hdeps.2.2.2.2.2.2.1 | exact hdeps.2.2.2.2.2.2.2.1 | exact hdeps.2.2.2.2.2.2.2.2.1 | exact hdeps.2.2.2.2.2.2.2.2.2.1 | exact hdeps.2.2.2.2.2.2.2.2.2.2.1 | exact hdeps.2.2.2.2.2.2.2.2.2.2.2.1 | exact hdeps.2 | exact hdeps.2.2 | exact hdeps.2.2.2 | exact hdeps.2.2.2.2 | exact hdeps.2.2.2.2.2 | exact hdeps.2.2.2.2.2.2 | exact hdeps.2.2.2.2.2.2.2 | exact hdeps.2.2.2.2.2.2.2.2 | exact hdeps.2.2.2.2.2.2.2.2.2 | exact hdeps.2.2.2.2.2.2.2.2.2.2 | exact hdeps.2.2.2.2.2.2.2.2.2.2.2
        clear hdeps
        simp only [y13, y15, fill, List.foldl_cons, List.foldl_nil, Act.put, List.setIfInBounds_toArray, List.set_cons_succ, List.set_cons_zero]
        go_wp2_with (go_at_call 18; (with_reducible refine (HSH.out _).mono ?_); rintro e w3 ⟨rfl, rfl⟩)
        exact ⟨_, rfl, rfl, hBx, Below.refl _ _⟩
      case o17 =>
        intro ys wx hBx hdeps
        simp only [Deps, Region.binds, List.getD_cons_zero, List.getD_cons_succ, forall_const, and_true, true_and] at hdeps
        have y3 : ys 23 = .int .u32 ((k : Int) + 1) := by first | exact hdeps | exact hdeps.1 | exact hdeps.2.1 | exact hdeps.2.2.1 | exact hdeps.2.2.2.1 | exact hdeps.2.2.2.2.1 | exact hdeps.2.2.2.2.2.1 | exact hdeps.2.2.2.2.2.2.1 | exact hdeps.2.2.2.2.2.2.2.1 | exact hdeps.2.2.2.2.2.2.2.2.1 | exact hdeps.2.2.2.2.2.2.2.2.2.1 | exact hdeps.2.2.2.2.2.2.2.2.2.2.1 | exact hdeps.2.2.2.2.2.2.2.2.2.2.2.1 | exact hdeps.2 | exact hdeps.2.2 | exact hdeps.2.2.2 | exact hdeps.2.2.2.2 | exact hdeps.2.2.2.2.2 | exact hdeps.2.2.2.2.2.2 | exact hdeps.2.2.2.2.2.2.2 | exact hdeps.2.2.2.2.2.2.2.2 | exact hdeps.2.2.2.2.2.2.2.2.2 | exact hdeps.2.2.2.2.2.2.2.2.2.2 | exact hdeps.2.2.2.2.2.2.2.2.2.2.2
        have y9 : ys 29 = .int .u32 ((sz : Int) % 4294967296) := by first | exact hdeps | exact hdeps.1 | exact hdeps.2.1 | exact hdeps.2.2.1 | exact hdeps.2.2.2.1 | exact hdeps.2.2.2.2.1 | exact hdeps.2.2.2.2.2.1 | exact hdeps.2.2.2.2.2.2.1 | exact hdeps.2.2.2.2.2.2.2.1 | exact hdeps.2.2.2.2.2.2.2.2.1 | exact hdeps.2.2.2.2.2.2.2.2.2.1 | exact hdeps.2.2.2.2.2.2.2.2.2.2.1 | exact hdeps.2.2.2.2.2.2.2.2.2.2.2.1 | exact hdeps.2 | exact hdeps.2.2 | exact hdeps.2.2.2 | exact hdeps.2.2.2.2 | exact hdeps.2.2.2.2.2 | exact hdeps.2.2.2.2.2.2 | exact hdeps.2.2.2.2.2.2.2 | exact hdeps.2.2.2.2.2.2.2.2 | exact hdeps.2.2.2.2.2.2.2.2.2 | exact hdeps.2.2.2.2.2.2.2.2.2.2 | exact hdeps.2.2.2.2.2.2.2.2.2.2.2
        have y16 : ys 36 = .string T := by first | exact hdeps | exact hdeps.1 | exact hdeps.2.1 | exact hdeps.2.2.1 | exact hdeps.2.2.2.1 | exact hdeps.2.2.2.2.1 | exact hdeps.2.2.2.2.2.1 | exact hdeps.2.2.2.2.2.2.1 | exact hdeps.2.2.2.2.2.2.2.1 | exact hdeps.2.2.2.2.2.2.2.2.1 | exact hdeps.2.2.2.2.2.2.2.2.2.1 | exact hdeps.2.2.2.2.2.2.2.2.2.2.1 | exact hdeps.2.2.2.2.2.2.2.2.2.2.2.1 | exact hdeps.2 | exact hdeps.2.2 | exact hdeps.2.2.2 | exact hdeps.2.2.2.2 | exact hdeps.2.2.2.2.2 | exact hdeps.2.2.2.2.2.2 | exact hdeps.2.2.2.2.2.2.2 | exact hdeps.2.2.2.2.2.2.2.2 | exact hdeps.2.2.2.2.2.2.2.2.2 | exact hdeps.2.2.2.2.2.2.2.2.2.2 | exact hdeps.2.2.2.2.2.2.2.2.2.2.2
        clear hdeps
        simp only [y3, y9, y16, fill, List.foldl_cons, List.foldl_nil, Act.put, List.setIfInBounds_toArray, List.set_cons_succ, List.set_cons_zero]
        go_wp2_with fail
        exact ⟨_, rfl, rfl, hBx, Below.refl _ _⟩
      case o18 =>
        intro ys wx hBx hdeps
        simp only [Deps, Region.binds, List.getD_cons_zero, List.getD_cons_succ, forall_const, and_true, true_and] at hdeps
        have y17 : ys 37 = .agg #[.int .i64 2, .int .u32 ((k : Int) + 1), .int .u32 ((sz : Int) % 4294967296), .string T] := by first | exact hdeps | exact hdeps.1 | exact hdeps.2.1 | exact hdeps.2.2.1 | exact hdeps.2.2.2.1 | exact hdeps.2.2.2.2.1 | exact hdeps.2.2.2.2.2.1 | exact hdeps.2.2.2.2.2.2.1 | exact hdeps.2.2.2.2.2.2.2.1 | exact hdeps.2.2.2.2.2.2.2.2.1 | exact hdeps.2.2.2.2.2.2.2.2.2.1 | exact hdeps.2.2.2.2.2.2.2.2.2.2.1 | exact hdeps.2.2.2.2.2.2.2.2.2.2.2.1 | exact hdeps.2 | exact hdeps.2.2 | exact hdeps.2.2.2 | exact hdeps.2.2.2.2 | exact hdeps.2.2.2.2.2 | exact hdeps.2.2.2.2.2.2 | exact hdeps.2.2.2.2.2.2.2 | exact hdeps.2.2.2.2.2.2.2.2 | exact hdeps.2.2.2.2.2.2.2.2.2 | exact hdeps.2.2.2.2.2.2.2.2.2.2 | exact hdeps.2.2.2.2.2.2.2.2.2.2.2
        clear hdeps
        simp only [y17, fill, List.foldl_cons, List.foldl_nil, Act.put, List.setIfInBounds_toArray, List.set_cons_succ, List.set_cons_zero]
        go_wp2_with fail
        exact ⟨_, rfl, ⟨wx.heap.size, rfl, lies_new _ _ _, by simp⟩, hBx.trans ((Geom.bel_alloc _ _).mono hBx.size), Geom.bel_alloc _ _⟩
    case done =>
      intro ys wx hBx hV
      have h20 : ys 20 = .slice a k c := hV 0 (by decide)
      have h38 : ∃ g, ys 38 = .slice (some ⟨g, 0, none⟩) 1 1 ∧ Lies wx g 0 [.int .i64 2, .int .u32 ((k : Int) + 1), .int .u32 ((sz : Int) % 4294967296), .string T] ∧ g < wx.heap.size := hV 18 (by decide)
      with_reducible refine Exists.elim h38 ?_
      intro g0 hh
      have hg0 := hh.1
      have HLI := Lib.hid hh.2.1
      clear h38 hh
      have HBX := Lib.hid hBx
      clear hBx hV
      simp only [h20, hg0, fill, List.drop_succ_cons, List.drop_zero, List.foldl_cons, List.foldl_nil, Act.put, List.setIfInBounds_toArray, List.set_cons_succ, List.set_cons_zero]
      go_wp2_with (at_builtin; ((refine append_tup rfl _ _ 29 rfl w1.heap.size 43 (.agg #[.int .i64 0, .int .u32 0, .int .u32 0, .string ⟨#[]⟩]) 4 32 Try.underlying29 infoF rfl (by decide) (.slice a k c) k (flatF (framesTo pg l k)) rfl (show World.ownsRow _ w1.heap.size _ 4 (.slice a k c) k (flatF (framesTo pg l k)) from owns_below HO.out HBX.out) (g0) [.int .i64 2, .int .u32 ((k : Int) + 1), .int .u32 ((sz : Int) % 4294967296), .string T] rfl rfl ?c0 ?c1 ?c2 ?c3 ?c5 ?_); (case c0 => exact HLI.out); (case c1 => simp [Value.oneCell']); (case c2 => omega); (case c3 => (unfold maxLen; omega)); (case c5 => exact (bel2 HB.out HBX.out).size); intro g cap2 w9 hown9 hgrow9 hat9 hlt9))
      have HB9 := Lib.hid (below_append (bel2 HB.out HBX.out) hgrow9 (bel2 HB.out HBX.out).size (fun t ht => (Own.owns_lt HO.out t ht).2))
      go_roundw
      case rel => exact ⟨k + 1, by go_num, by omega, by unfold FMine; rw [framesTo_len, framesTo, flatF_snoc, HFC.out]; exact hown9, HB9.out⟩
      case measure => simp [intOf]; omega
end Go.Proofs.Ytcmjambbdfangaa.Tape
/-
  A row of frames that is not turned; the numbers of pages.
-/
set_option linter.unusedVariables false
set_option linter.unusedSimpArgs false
namespace Go.Proofs.Ytcmjambbdfangaa.Tape
open Go.RowKit
open Go.Proofs.Ytcmjambbdfangaa.Own
open Tup Foot
open Go.Proofs.Ytcmjambbdfangaa.Frame (Fr fV page)

structure RowKept (w : World) (a : Option Addr) (l : List Fr) (A : Nat → Prop) : Prop where
  row : FAt w a l
  no : ∀ b off, a = some ⟨b, off, none⟩ → ¬ A b ∧ b < w.heap.size
theorem RowKept.below {w w' : World} {a : Option Addr} {l : List Fr} {A : Nat → Prop} (h : RowKept w a l A) (g : Below w.heap.size w w') : RowKept w' a l A :=
  ⟨h.row.below g, fun b off e => ⟨(h.no b off e).1, Nat.lt_of_lt_of_le (h.no b off e).2 g.size⟩⟩
theorem RowKept.after {w w' : World} {a : Option Addr} {l : List Fr} {A A' : Nat → Prop} (h : RowKept w a l A) (g : After A w w' A') : RowKept w' a l A' :=
  ⟨g.grows.at h.row (fun b off e => (h.no b off e).1), fun b off e => ⟨not_after g (h.no b off e).1 (h.no b off e).2, Nat.lt_of_lt_of_le (h.no b off e).2 g.grows.size⟩⟩
theorem RowKept.cells {w : World} {b off k : Nat} {l : List Fr} {A : Nat → Prop} (h : RowKept w (some ⟨b, off, none⟩) l A) {x : Fr} (hx : l[k]? = some x) {va vb : Int} {BD : ByteArray} (e1 : va = Crc.vl x.a) (e2 : vb = Crc.vl x.b) (e3 : BD = Flash.bs x.body) :
    w.cell? ⟨b, off + k * 4, none⟩ = some (.int .i64 x.kind) ∧ w.cell? ⟨b, off + k * 4 + 1, none⟩ = some (.int .u32 va) ∧ w.cell? ⟨b, off + k * 4 + 2, none⟩ = some (.int .u32 vb) ∧ w.cell? ⟨b, off + k * 4 + 3, none⟩ = some (.string BD) := by
  obtain ⟨b2, off2, hre, _, r0, r1, r2, r3⟩ := FAt.get h.row hx
  cases hre
  rw [e1, e2, e3]
  exact ⟨r0, r1, r2, r3⟩
/-- the values of operations of which the last two are a new row of frames -/
def XV (tab : List Value) (k base : Nat) (X : List Fr) (i : Nat) (v : Value) (w : World) : Prop :=
  if k ≤ i then ∃ a c, v = .slice a X.length c ∧ FAt w a X ∧ ∀ b off, a = some ⟨b, off, none⟩ → base ≤ b ∧ b < w.heap.size else v = tab.getD i undef
theorem XV.mono (tab : List Value) (k base : Nat) (X : List Fr) : ∀ i v w w', XV tab k base X i v w → Below w.heap.size w w' → XV tab k base X i v w' := by
  intro i v w w' h hb
  unfold XV at h ⊢
  split
  · rename_i e
    rw [if_pos e] at h
    obtain ⟨a, c, h1, h2, h3⟩ := h
    exact ⟨a, c, h1, h2.below hb, fun b off e => ⟨(h3 b off e).1, Nat.lt_of_lt_of_le (h3 b off e).2 hb.size⟩⟩
  · rename_i e
    rw [if_neg e] at h; exact h
theorem frames_row {pgs rgs pg : Nat} (z : Sz pg pgs rgs) (la : Option Addr) (l : List ByteArray) (lc most : Nat) (hll : l.length ≤ maxLen) (hmo : most ≤ 1000) (hsz : ∀ k, (l.getD k ⟨#[]⟩).size ≤ maxLen) (w : World) (hS : StrAt w la l) :
    Calls Try.prog 11 #[.agg #[.int .i64 (pg : Int), .int .i64 (pgs : Int), .int .i64 (rgs : Int)], .slice la l.length lc, .int .i64 (most : Int)] w fun e w' => ∃ a c, e = .returned (.slice a (framesTo pg l (min l.length most)).length c) ∧ FAt w' a (framesTo pg l (min l.length most)) ∧ (∀ b off, a = some ⟨b, off, none⟩ → w.heap.size ≤ b ∧ b < w'.heap.size) ∧ Below w.heap.size w w' := by
  refine (frames_any z la l lc most hll hmo hsz w hS).mono ?_
  rintro e w' ⟨v, rfl, h, hb⟩
  obtain ⟨a, c, rfl, h1, h2⟩ := h.slice
  exact ⟨a, c, rfl, h1, h2, hb⟩
theorem page_nums {pgs sl i : Nat} (s0 : 3 ≤ pgs) (h : sl = pgs - 1) : i % sl < sl ∧ (i / sl * pgs + 1 + i % sl) % pgs = i % sl + 1 ∧ (i / sl * pgs + 1 + i % sl) / pgs = i / sl := by
  have h1 : i % sl < sl := Nat.mod_lt _ (by omega)
  generalize i % sl = M at h1 ⊢
  generalize i / sl = D
  have e : D * pgs + 1 + M = pgs * D + (M + 1) := by rw [Nat.mul_comm]; omega
  have h2 : M + 1 < pgs := by omega
  refine ⟨h1, ?_, ?_⟩
  · rw [e, Nat.mul_add_mod, Nat.mod_eq_of_lt h2]
  · rw [e, Nat.mul_add_div (by omega), Nat.div_eq_of_lt h2, Nat.add_zero]
theorem tdiv_nat (a b : Nat) : (a : Int).tdiv (b : Int) = ((a / b : Nat) : Int) := rfl
theorem tmod_nat (a b : Nat) : (a : Int).tmod (b : Int) = ((a % b : Nat) : Int) := rfl
theorem head_val {e r : Nat} (he : e < 4294967296) (hr : r < 4294967296) : fV (headF e r) = .agg #[.int .i64 1, .int .u32 (e : Int), .int .u32 (r : Int), .string ⟨#[]⟩] := by
  unfold fV headF
  simp only [vl_ofNat he, vl_ofNat hr]
  rfl
theorem strAt_of {w : World} {a : Option Addr} {ss : List ByteArray} (h : Common.StrRow w a ss) : StrAt w a ss := by
  rcases h with rfl | ⟨b, off, ha, hl⟩
  · exact .inl rfl
  · refine .inr ⟨b, off, ha, fun j c hj => ?_⟩
    rw [List.getElem?_map] at hj
    cases hs : ss[j]? with
    | none => rw [hs] at hj; simp at hj
    | some s =>
      rw [hs] at hj
      simp only [Option.map_some, Option.some.injEq] at hj
      subst hj
      have hjl : j < ss.length := (List.getElem?_eq_some_iff.1 hs).1
      have := hl j hjl
      rw [List.getD_eq_getElem?_getD, hs] at this
      exact this
theorem sizes_of {ss : List ByteArray} (h : ∀ s ∈ ss, s.size ≤ maxLen) : ∀ k, (ss.getD k ⟨#[]⟩).size ≤ maxLen := by
  intro k
  rw [List.getD_eq_getElem?_getD]
  cases hk : ss[k]? with
  | none => exact Nat.zero_le _
  | some s => exact h s (List.mem_of_getElem? hk)
end Go.Proofs.Ytcmjambbdfangaa.Tape
