/-
  For all texts a, b, c the law CrcAdds answers true: of three texts of one length, XORed, the sum is their sums XORed. No condition.
-/
import Derived.Test.YtmmbjgmcgijolaaRows
import Derived.Test.YtmmbjgmcgijolaaCrcB
import Derived.Test.YtmmbjgmcgijolaaCommon
import Derived.Test.YtmmbjgmcgijolaaBytes
import Derived.Test.YtmmbjgmcgijolaaRegion
import Derived.ProofKit
import Derived.OpenShut
import Derived.ShutString
import Derived.ChangeOld
import Derived.SizedLaws
import Derived.RegionTactic
import Derived.BigRegion
namespace Go.Proofs.Ytmmbjgmcgijolaa.crcAdds
open Go.ChangeShapes Go.WideShapes Go.ChangeAt Go.RowKit
open Go.ChangeMaps (open_string shut_string)
open Crc Common Bytes
open Go.Proofs.Ytmmbjgmcgijolaa.Region (fill Then Deps Each wp_region_each)
open CrcM (W)

theorem info8 : (Try.prog.info? 5).map (fun i => (i.zero, i.size, i.bytes)) = some (some (.int .u8 0), 1, 1) := by kernel_rfl

theorem min3 {P : Program} (w : World) (ts : Array TypeId) (t : TypeId) (x y z n : Nat) (hn : n = min x (min y z)) : (Builtin.min_ ts t #[.int .i64 x, .int .i64 y, .int .i64 z]).run P w = .ok (.int .i64 n) w := by
  have e (x y z : Int) : (Builtin.min_ ts t #[.int .i64 x, .int .i64 y, .int .i64 z]).run P w = .ok (.int .i64 (if z < (if y < x then y else x) then z else (if y < x then y else x))) w := by
    simp [Builtin.min_, Builtin.min2]
  rw [e]
  congr 2
  split <;> split <;> omega

/-- the i-th byte of the three texts, XORed -/
def mixAt (a b c : ByteArray) (i : Nat) : UInt8 := a.data.toList.getD i 0 ^^^ b.data.toList.getD i 0 ^^^ c.data.toList.getD i 0
/-- behind k rounds -/
def mix (a b c : ByteArray) (n k : Nat) : List UInt8 := (List.range n).map fun i => if i < k then mixAt a b c i else 0
theorem mix_length (a b c : ByteArray) (n k : Nat) : (mix a b c n k).length = n := by simp [mix]
theorem mix_zero (a b c : ByteArray) (n : Nat) : mix a b c n 0 = List.replicate n 0 := by
  simp [mix, List.map_const']
theorem mix_succ (a b c : ByteArray) (n k : Nat) (_h : k < n) : (mix a b c n k).set k (mixAt a b c k) = mix a b c n (k + 1) := by
  apply List.ext_getElem
  · simp [mix]
  · intro i h1 h2
    simp only [mix, List.getElem_set, List.getElem_map, List.getElem_range]
    by_cases e : k = i
    · subst e; simp
    · rw [if_neg e]
      by_cases g : i < k
      · rw [if_pos g, if_pos (by omega)]
      · rw [if_neg g, if_neg (by omega)]
theorem mix_full (a b c : ByteArray) (n : Nat) : mix a b c n n = (List.range n).map fun i => a.data.toList.getD i 0 ^^^ b.data.toList.getD i 0 ^^^ c.data.toList.getD i 0 := by
  unfold mix
  apply List.map_congr_left
  intro i hi
  rw [if_pos (by simpa using hi)]; rfl
theorem take_range (l : List UInt8) (n : Nat) (h : n ≤ l.length) : l.take n = (List.range n).map fun i => l.getD i 0 := by
  apply List.ext_getElem
  · simp; omega
  · intro i h1 h2
    have : i < n := by simpa using h2
    simp [List.getD, show i < l.length by omega]
theorem extract_list (a : ByteArray) (n : Nat) : (a.extract 0 n).data.toList = a.data.toList.take n := by
  simp [ByteArray.data_extract]
theorem xor_sums (a b c : ByteArray) (n : Nat) (ha : n ≤ a.size) (hb : n ≤ b.size) (hc : n ≤ c.size) :
    bits .xor .u32 (bits .xor .u32 (sumOf (a.extract 0 n).data.toList) (sumOf (b.extract 0 n).data.toList)) (sumOf (c.extract 0 n).data.toList) = sumOf (mix a b c n n) := by
  rw [mix_full]
  unfold sumOf
  rw [vl_xor, vl_xor, CrcM.sum_xor3, extract_list, extract_list, extract_list, take_range _ n (by simpa using ha), take_range _ n (by simpa using hb), take_range _ n (by simpa using hc)]

/-- a text's sum -/
def sumS (s : ByteArray) : Int := sumOf s.data.toList
theorem sum_oneS (s : ByteArray) (b cap : Nat) (w : World) (hs : s.size ≤ maxLen) (hc : w.cell? ⟨b, 0, none⟩ = some (.string s)) :
    Calls Try.prog 10 #[.slice (some ⟨b, 0, none⟩) 1 cap] w fun e w' => e = .returned (.int .u32 (sumS s)) ∧ w = w' := sum_one s b cap w hs hc
/-- a slot holds just this -/
def Is (x : Value) : Value → World → Prop := fun v _ => v = x
/-- a slot holds a slice of one text -/
def One (t : ByteArray) : Value → World → Prop := fun v w => ∃ g, v = .slice (some ⟨g, 0, none⟩) 1 1 ∧ w.cell? ⟨g, 0, none⟩ = some (.string t)
theorem one_mono {t : ByteArray} {v : Value} {w w' : World} (h : One t v w) (hb : Below w.heap.size w w') : One t v w' := by
  obtain ⟨g, h1, h2⟩ := h
  exact ⟨g, h1, by rw [hb.cell (p := ⟨g, 0, none⟩) (block_lt_of_cell h2)]; exact h2⟩
/-- what the last statement's operations leave, one by one -/
def left (a b c t : ByteArray) (B n : Nat) : List (Value → World → Prop) :=
  [Is (.bool true), Is (.bool true), Is (.slice (some ⟨B, 0, none⟩) n n), Is (.string t), One t, Is (.int .u32 (sumS t)),
   Is (.string a), Is (.int .i64 n), Is (.string (a.extract 0 n)), One (a.extract 0 n), Is (.int .u32 (sumS (a.extract 0 n))),
   Is (.string b), Is (.int .i64 n), Is (.string (b.extract 0 n)), One (b.extract 0 n), Is (.int .u32 (sumS (b.extract 0 n))),
   Is (.int .u32 (bits .xor .u32 (sumS (a.extract 0 n)) (sumS (b.extract 0 n)))),
   Is (.string c), Is (.int .i64 n), Is (.string (c.extract 0 n)), One (c.extract 0 n), Is (.int .u32 (sumS (c.extract 0 n))),
   Is (.int .u32 (sumS t)), Is (.bool true), Is (.bool true), Is (.bool true)]
def leftAt (a b c t : ByteArray) (B n i : Nat) : Value → World → Prop := (left a b c t B n).getD i (fun _ _ => True)
theorem left_mono (a b c t : ByteArray) (B n : Nat) : ∀ i v w w', leftAt a b c t B n i v w → Below w.heap.size w w' → leftAt a b c t B n i v w' := by
  intro i v w w' h hb
  unfold leftAt at h ⊢
  have : ∀ V ∈ left a b c t B n, V v w → V v w' := by
    intro V hV
    unfold left at hV
    simp only [List.mem_cons, List.not_mem_nil, or_false] at hV
    rcases hV with rfl | rfl | rfl | rfl | rfl | rfl | rfl | rfl | rfl | rfl | rfl | rfl | rfl | rfl | rfl | rfl | rfl | rfl | rfl | rfl | rfl | rfl | rfl | rfl | rfl | rfl
    all_goals first | exact fun h => h | exact fun h => one_mono h hb
  rw [List.getD] at h ⊢
  cases hg : (left a b c t B n)[i]? with
  | none => rw [hg] at h; exact h
  | some V => rw [hg] at h; exact this V (List.mem_of_getElem? hg) h

set_option maxRecDepth 100000 in
set_option maxHeartbeats 4000000 in
theorem walk (a b c : ByteArray) (ha : a.size ≤ reachBytes) (_hb : b.size ≤ reachBytes) (_hc : c.size ≤ reachBytes) (w : World) :
    Calls Try.prog 8 #[.string a, .string b, .string c] w fun e w' => e = .returned (.bool true) ∧ Below w.heap.size w w' := by
  have hr : reachBytes < 140737488355328 := reachBytes_lt
  obtain ⟨i0, hi0, hz0, hz1, hz2⟩ := info_parts info8
  obtain ⟨n, hn⟩ : ∃ n, n = min a.size (min b.size c.size) := ⟨_, rfl⟩
  have hmin := fun w ts t => min3 (P := Try.prog) w ts t a.size b.size c.size n hn
  have na : n ≤ a.size := by omega
  have nb : n ≤ b.size := by omega
  have nc : n ≤ c.size := by omega
  clear hn
  go_enter Try.func8, Try.ntmps8
  go_wp2_with (at_make; refine wpList_make_full _ rfl _ _ 36 rfl w.heap.size 5 i0 (.int .u8 0) 1 Try.underlying36 hi0 hz0 hz1 .i64 .i64 _ _ n rfl rfl (by omega) (by omega) (by rw [hz2]; omega) (by simp [maxLen]; omega) (Nat.le_refl _) ?_; intro w2 hown hgrow)
  have hstart : Below w.heap.size w w2 ∧ Row8 w2 w.heap.size (mix a b c n 0) := ⟨below_make hgrow, by rw [mix_zero]; exact Row8.of_make hown⟩
  clear hown hgrow hmin
  go_loopw [9] (fun i wr => ∃ k : Nat, k ≤ n ∧ i = .int .i64 k ∧ Below w.heap.size w wr ∧ Row8 wr w.heap.size (mix a b c n k)) (fun i _ => n - (intOf i).toNat)
  case atStart => exact ⟨0, Nat.zero_le _, rfl, hstart⟩
  case round =>
    obtain ⟨k, hk, rfl, hB, hR⟩ := hrel
    by_cases hlt : k < n
    · obtain ⟨g1, g2⟩ := hR k (by rw [mix_length]; exact hlt)
      have hset := hR.set k (mixAt a b c k) (by rw [mix_length]; exact hlt)
      rw [mix_succ a b c n k hlt] at hset
      have l1 : (k : Int) < (a.size : Int) := by omega
      have l2 : (k : Int) < (b.size : Int) := by omega
      have l3 : (k : Int) < (c.size : Int) := by omega
      have l4 : (k : Int) < (n : Int) := by omega
      have m1 : k < a.size := by omega
      have m2 : k < b.size := by omega
      have m3 : k < c.size := by omega
      have x1 := xor_u8 a[k] b[k]
      have x2 := xor_u8 (a[k] ^^^ b[k]) c[k]
      have e3 : (a[k] ^^^ b[k] ^^^ c[k]) = mixAt a b c k := by
        unfold mixAt; rw [getD_byte a k m1, getD_byte b k m2, getD_byte c k m3]
      rw [e3] at x2
      generalize (mixAt a b c k).toNat = r at x2 hset
      generalize (a[k] ^^^ b[k]).toNat = q at x1 x2
      have HS := Lib.hid hset
      have HB := Lib.hid hB
      clear hset hR e3 hB hstart
      go_wp2
      go_region
      all_goals go_wp2
      all_goals go_roundw
      case rel => exact ⟨k + 1, by omega, by go_num, (HB.out.setCell (Nat.le_refl _) _).drew, HS.out.drew⟩
      case measure => simp [intOf]; omega
    · obtain rfl : k = n := by omega
      have hx : bits .xor .u32 (bits .xor .u32 (sumS (a.extract 0 k)) (sumS (b.extract 0 k))) (sumS (c.extract 0 k)) = sumS ⟨(mix a b c k k).toArray⟩ := xor_sums a b c k na nb nc
      have hsa : (a.extract 0 k).size ≤ maxLen := by simp [maxLen]; omega
      have hsb : (b.extract 0 k).size ≤ maxLen := by simp [maxLen]; omega
      have hsc : (c.extract 0 k).size ≤ maxLen := by simp [maxLen]; omega
      have hst : (⟨(mix a b c k k).toArray⟩ : ByteArray).size ≤ maxLen := by
        have e : (⟨(mix a b c k k).toArray⟩ : ByteArray).size = (mix a b c k k).length := rfl
        rw [e, mix_length]; simp [maxLen]; omega
      have hS : ∀ w', Row8 w' w.heap.size (mix a b c k k) → Row8 w' w.heap.size (mix a b c k k) ∧ (convert 36 9 (.slice (some ⟨w.heap.size, 0, none⟩) k k)).run Try.prog w' = .ok (.string ⟨(mix a b c k k).toArray⟩) w' :=
        fun w' h => ⟨h, h.text 36 9 5 k Try.underlying36 Try.underlying5 Try.underlying9 k (mix_length ..)⟩
      have HS := Lib.hid hS
      clear hS hstart hlt hk
      generalize (⟨(mix a b c k k).toArray⟩ : ByteArray) = t at HS hst hx
      go_wp2
      refine wp_region_each [38, 39, 40, 41, 42, 43, 44, 45, 46, 47, 48, 49, 50, 51, 52, 53, 54, 55, 56, 57, 58, 59, 60, 61, 62, 6] (fun w' => Below w.heap.size w w' ∧ Row8 w' w.heap.size (mix a b c k k))
        (leftAt a b c t w.heap.size k) (by kernel_rfl) (by kernel_rfl) rfl (by decide) (by simp) (left_mono a b c t w.heap.size k) ⟨hB.drew, hR.drew⟩ ?each ?done
      case each =>
        simp only [Each]
        refine ⟨?s0, ?s1, ?s2, ?s3, ?s4, ?s5, ?s6, ?s7, ?s8, ?s9, ?s10, ?s11, ?s12, ?s13, ?s14, ?s15, ?s16, ?s17, ?s18, ?s19, ?s20, ?s21, ?s22, ?s23, ?s24, ?s25, trivial⟩
        case s0 =>
          intro ys wx hBx hdeps
          clear hdeps
          simp only [fill, List.foldl_cons, List.foldl_nil, Act.put, List.setIfInBounds_toArray, List.set_cons_succ, List.set_cons_zero]
          go_wp2_with (go_at_call 9; (with_reducible refine (alive_any _).mono ?_); rintro e w3 ⟨rfl, hn⟩)
          exact ⟨_, rfl, rfl, ⟨bel0 hBx.1 hn, hBx.2.below hn⟩, hn⟩
        case s1 =>
          intro ys wx hBx hdeps
          simp only [Deps, Region.binds, leftAt, left, Is, List.getD_cons_zero, forall_const, and_true] at hdeps
          simp only [hdeps, fill, List.foldl_cons, List.foldl_nil, Act.put, List.setIfInBounds_toArray, List.set_cons_succ, List.set_cons_zero]
          go_wp2
          exact ⟨_, rfl, rfl, hBx, Below.refl _ _⟩
        case s2 =>
          intro ys wx hBx hdeps
          simp only [Deps, Region.binds, leftAt, left, Is, List.getD_cons_zero, List.getD_cons_succ, forall_const, and_true] at hdeps
          simp only [hdeps, fill, List.foldl_cons, List.foldl_nil, Act.put, List.setIfInBounds_toArray, List.set_cons_succ, List.set_cons_zero]
          go_wp2
          exact ⟨_, rfl, rfl, hBx, Below.refl _ _⟩
        case s3 =>
          intro ys wx hBx hdeps
          simp only [Deps, Region.binds, leftAt, left, Is, List.getD_cons_zero, List.getD_cons_succ, forall_const, and_true] at hdeps
          have hcv := (HS.out _ hBx.2).2
          simp only [hdeps, fill, List.foldl_cons, List.foldl_nil, Act.put, List.setIfInBounds_toArray, List.set_cons_succ, List.set_cons_zero]
          go_wp2
          exact ⟨_, rfl, rfl, hBx, Below.refl _ _⟩
        case s4 =>
          intro ys wx hBx hdeps
          simp only [Deps, Region.binds, leftAt, left, Is, List.getD_cons_zero, List.getD_cons_succ, forall_const, and_true] at hdeps
          simp only [hdeps, fill, List.foldl_cons, List.foldl_nil, Act.put, List.setIfInBounds_toArray, List.set_cons_succ, List.set_cons_zero]
          go_wp2
          exact ⟨_, rfl, ⟨_, rfl, by simp⟩, ⟨hBx.1.alloc hBx.1.size _, hBx.2.alloc _⟩, (Below.refl _ _).alloc (Nat.le_refl _) _⟩
        case s5 =>
          intro ys wx hBx hdeps
          simp only [Deps, Region.binds, leftAt, left, Is, List.getD_cons_zero, List.getD_cons_succ, forall_const, and_true] at hdeps
          have hone : ∃ g, ys 42 = .slice (some ⟨g, 0, none⟩) 1 1 ∧ wx.cell? ⟨g, 0, none⟩ = some (.string t) := by
            have h : One t (ys 42) wx := by simp only [hdeps]
            exact h
          with_reducible refine Exists.elim hone ?_
          intro g hh
          have hg := hh.1
          have hcell := hh.2
          clear hh hone
          simp only [hg, hdeps, fill, List.foldl_cons, List.foldl_nil, Act.put, List.setIfInBounds_toArray, List.set_cons_succ, List.set_cons_zero]
          go_wp2_with (go_at_call 10; (with_reducible refine (sum_oneS t _ _ _ hst hcell).mono ?_); rintro e w' ⟨rfl, rfl⟩)
          exact ⟨_, rfl, rfl, hBx, Below.refl _ _⟩
        case s6 =>
          intro ys wx hBx hdeps
          simp only [Deps, Region.binds, leftAt, left, Is, List.getD_cons_zero, List.getD_cons_succ, forall_const, and_true] at hdeps
          simp only [hdeps, fill, List.foldl_cons, List.foldl_nil, Act.put, List.setIfInBounds_toArray, List.set_cons_succ, List.set_cons_zero]
          go_wp2
          exact ⟨_, rfl, rfl, hBx, Below.refl _ _⟩
        case s7 =>
          intro ys wx hBx hdeps
          simp only [Deps, Region.binds, leftAt, left, Is, List.getD_cons_zero, List.getD_cons_succ, forall_const, and_true] at hdeps
          simp only [hdeps, fill, List.foldl_cons, List.foldl_nil, Act.put, List.setIfInBounds_toArray, List.set_cons_succ, List.set_cons_zero]
          go_wp2
          exact ⟨_, rfl, rfl, hBx, Below.refl _ _⟩
        case s8 =>
          intro ys wx hBx hdeps
          simp only [Deps, Region.binds, leftAt, left, Is, List.getD_cons_zero, List.getD_cons_succ, forall_const, and_true] at hdeps
          simp only [hdeps, fill, List.foldl_cons, List.foldl_nil, Act.put, List.setIfInBounds_toArray, List.set_cons_succ, List.set_cons_zero]
          go_wp2
          exact ⟨_, rfl, rfl, hBx, Below.refl _ _⟩
        case s9 =>
          intro ys wx hBx hdeps
          simp only [Deps, Region.binds, leftAt, left, Is, List.getD_cons_zero, List.getD_cons_succ, forall_const, and_true] at hdeps
          simp only [hdeps, fill, List.foldl_cons, List.foldl_nil, Act.put, List.setIfInBounds_toArray, List.set_cons_succ, List.set_cons_zero]
          go_wp2
          exact ⟨_, rfl, ⟨_, rfl, by simp⟩, ⟨hBx.1.alloc hBx.1.size _, hBx.2.alloc _⟩, (Below.refl _ _).alloc (Nat.le_refl _) _⟩
        case s10 =>
          intro ys wx hBx hdeps
          simp only [Deps, Region.binds, leftAt, left, Is, List.getD_cons_zero, List.getD_cons_succ, forall_const, and_true] at hdeps
          have hone : ∃ g, ys 47 = .slice (some ⟨g, 0, none⟩) 1 1 ∧ wx.cell? ⟨g, 0, none⟩ = some (.string (a.extract 0 k)) := by
            have h : One (a.extract 0 k) (ys 47) wx := by simp only [hdeps]
            exact h
          with_reducible refine Exists.elim hone ?_
          intro g hh
          have hg := hh.1
          have hcell := hh.2
          clear hh hone
          simp only [hg, hdeps, fill, List.foldl_cons, List.foldl_nil, Act.put, List.setIfInBounds_toArray, List.set_cons_succ, List.set_cons_zero]
          go_wp2_with (go_at_call 10; (with_reducible refine (sum_oneS (a.extract 0 k) _ _ _ hsa hcell).mono ?_); rintro e w' ⟨rfl, rfl⟩)
          exact ⟨_, rfl, rfl, hBx, Below.refl _ _⟩
        case s11 =>
          intro ys wx hBx hdeps
          simp only [Deps, Region.binds, leftAt, left, Is, List.getD_cons_zero, List.getD_cons_succ, forall_const, and_true] at hdeps
          simp only [hdeps, fill, List.foldl_cons, List.foldl_nil, Act.put, List.setIfInBounds_toArray, List.set_cons_succ, List.set_cons_zero]
          go_wp2
          exact ⟨_, rfl, rfl, hBx, Below.refl _ _⟩
        case s12 =>
          intro ys wx hBx hdeps
          simp only [Deps, Region.binds, leftAt, left, Is, List.getD_cons_zero, List.getD_cons_succ, forall_const, and_true] at hdeps
          simp only [hdeps, fill, List.foldl_cons, List.foldl_nil, Act.put, List.setIfInBounds_toArray, List.set_cons_succ, List.set_cons_zero]
          go_wp2
          exact ⟨_, rfl, rfl, hBx, Below.refl _ _⟩
        case s13 =>
          intro ys wx hBx hdeps
          simp only [Deps, Region.binds, leftAt, left, Is, List.getD_cons_zero, List.getD_cons_succ, forall_const, and_true] at hdeps
          simp only [hdeps, fill, List.foldl_cons, List.foldl_nil, Act.put, List.setIfInBounds_toArray, List.set_cons_succ, List.set_cons_zero]
          go_wp2
          exact ⟨_, rfl, rfl, hBx, Below.refl _ _⟩
        case s14 =>
          intro ys wx hBx hdeps
          simp only [Deps, Region.binds, leftAt, left, Is, List.getD_cons_zero, List.getD_cons_succ, forall_const, and_true] at hdeps
          simp only [hdeps, fill, List.foldl_cons, List.foldl_nil, Act.put, List.setIfInBounds_toArray, List.set_cons_succ, List.set_cons_zero]
          go_wp2
          exact ⟨_, rfl, ⟨_, rfl, by simp⟩, ⟨hBx.1.alloc hBx.1.size _, hBx.2.alloc _⟩, (Below.refl _ _).alloc (Nat.le_refl _) _⟩
        case s15 =>
          intro ys wx hBx hdeps
          simp only [Deps, Region.binds, leftAt, left, Is, List.getD_cons_zero, List.getD_cons_succ, forall_const, and_true] at hdeps
          have hone : ∃ g, ys 52 = .slice (some ⟨g, 0, none⟩) 1 1 ∧ wx.cell? ⟨g, 0, none⟩ = some (.string (b.extract 0 k)) := by
            have h : One (b.extract 0 k) (ys 52) wx := by simp only [hdeps]
            exact h
          with_reducible refine Exists.elim hone ?_
          intro g hh
          have hg := hh.1
          have hcell := hh.2
          clear hh hone
          simp only [hg, hdeps, fill, List.foldl_cons, List.foldl_nil, Act.put, List.setIfInBounds_toArray, List.set_cons_succ, List.set_cons_zero]
          go_wp2_with (go_at_call 10; (with_reducible refine (sum_oneS (b.extract 0 k) _ _ _ hsb hcell).mono ?_); rintro e w' ⟨rfl, rfl⟩)
          exact ⟨_, rfl, rfl, hBx, Below.refl _ _⟩
        case s16 =>
          intro ys wx hBx hdeps
          simp only [Deps, Region.binds, leftAt, left, Is, List.getD_cons_zero, List.getD_cons_succ, forall_const, and_true] at hdeps
          simp only [hdeps, fill, List.foldl_cons, List.foldl_nil, Act.put, List.setIfInBounds_toArray, List.set_cons_succ, List.set_cons_zero]
          go_wp2
          exact ⟨_, rfl, rfl, hBx, Below.refl _ _⟩
        case s17 =>
          intro ys wx hBx hdeps
          simp only [Deps, Region.binds, leftAt, left, Is, List.getD_cons_zero, List.getD_cons_succ, forall_const, and_true] at hdeps
          simp only [hdeps, fill, List.foldl_cons, List.foldl_nil, Act.put, List.setIfInBounds_toArray, List.set_cons_succ, List.set_cons_zero]
          go_wp2
          exact ⟨_, rfl, rfl, hBx, Below.refl _ _⟩
        case s18 =>
          intro ys wx hBx hdeps
          simp only [Deps, Region.binds, leftAt, left, Is, List.getD_cons_zero, List.getD_cons_succ, forall_const, and_true] at hdeps
          simp only [hdeps, fill, List.foldl_cons, List.foldl_nil, Act.put, List.setIfInBounds_toArray, List.set_cons_succ, List.set_cons_zero]
          go_wp2
          exact ⟨_, rfl, rfl, hBx, Below.refl _ _⟩
        case s19 =>
          intro ys wx hBx hdeps
          simp only [Deps, Region.binds, leftAt, left, Is, List.getD_cons_zero, List.getD_cons_succ, forall_const, and_true] at hdeps
          simp only [hdeps, fill, List.foldl_cons, List.foldl_nil, Act.put, List.setIfInBounds_toArray, List.set_cons_succ, List.set_cons_zero]
          go_wp2
          exact ⟨_, rfl, rfl, hBx, Below.refl _ _⟩
        case s20 =>
          intro ys wx hBx hdeps
          simp only [Deps, Region.binds, leftAt, left, Is, List.getD_cons_zero, List.getD_cons_succ, forall_const, and_true] at hdeps
          simp only [hdeps, fill, List.foldl_cons, List.foldl_nil, Act.put, List.setIfInBounds_toArray, List.set_cons_succ, List.set_cons_zero]
          go_wp2
          exact ⟨_, rfl, ⟨_, rfl, by simp⟩, ⟨hBx.1.alloc hBx.1.size _, hBx.2.alloc _⟩, (Below.refl _ _).alloc (Nat.le_refl _) _⟩
        case s21 =>
          intro ys wx hBx hdeps
          simp only [Deps, Region.binds, leftAt, left, Is, List.getD_cons_zero, List.getD_cons_succ, forall_const, and_true] at hdeps
          have hone : ∃ g, ys 58 = .slice (some ⟨g, 0, none⟩) 1 1 ∧ wx.cell? ⟨g, 0, none⟩ = some (.string (c.extract 0 k)) := by
            have h : One (c.extract 0 k) (ys 58) wx := by simp only [hdeps]
            exact h
          with_reducible refine Exists.elim hone ?_
          intro g hh
          have hg := hh.1
          have hcell := hh.2
          clear hh hone
          simp only [hg, hdeps, fill, List.foldl_cons, List.foldl_nil, Act.put, List.setIfInBounds_toArray, List.set_cons_succ, List.set_cons_zero]
          go_wp2_with (go_at_call 10; (with_reducible refine (sum_oneS (c.extract 0 k) _ _ _ hsc hcell).mono ?_); rintro e w' ⟨rfl, rfl⟩)
          exact ⟨_, rfl, rfl, hBx, Below.refl _ _⟩
        case s22 =>
          intro ys wx hBx hdeps
          simp only [Deps, Region.binds, leftAt, left, Is, List.getD_cons_zero, List.getD_cons_succ, forall_const, and_true] at hdeps
          simp only [hdeps, fill, List.foldl_cons, List.foldl_nil, Act.put, List.setIfInBounds_toArray, List.set_cons_succ, List.set_cons_zero]
          go_wp2
          exact ⟨_, rfl, rfl, hBx, Below.refl _ _⟩
        case s23 =>
          intro ys wx hBx hdeps
          simp only [Deps, Region.binds, leftAt, left, Is, List.getD_cons_zero, List.getD_cons_succ, forall_const, and_true] at hdeps
          simp only [hdeps, fill, List.foldl_cons, List.foldl_nil, Act.put, List.setIfInBounds_toArray, List.set_cons_succ, List.set_cons_zero]
          go_wp2
          exact ⟨_, rfl, rfl, hBx, Below.refl _ _⟩
        case s24 =>
          intro ys wx hBx hdeps
          simp only [Deps, Region.binds, leftAt, left, Is, List.getD_cons_zero, List.getD_cons_succ, forall_const, and_true] at hdeps
          simp only [hdeps, fill, List.foldl_cons, List.foldl_nil, Act.put, List.setIfInBounds_toArray, List.set_cons_succ, List.set_cons_zero]
          go_wp2
          exact ⟨_, rfl, rfl, hBx, Below.refl _ _⟩
        case s25 =>
          intro ys wx hBx hdeps
          simp only [Deps, Region.binds, leftAt, left, Is, List.getD_cons_zero, List.getD_cons_succ, forall_const, and_true] at hdeps
          simp only [hdeps, fill, List.foldl_cons, List.foldl_nil, Act.put, List.setIfInBounds_toArray, List.set_cons_succ, List.set_cons_zero]
          go_wp2
          exact ⟨_, rfl, rfl, hBx, Below.refl _ _⟩
      case done =>
        intro ys wx hBx hV
        have h6 : ys 6 = .bool true := hV 25 (by decide)
        simp only [h6, fill, List.foldl_cons, List.foldl_nil, Act.put, List.setIfInBounds_toArray, List.set_cons_succ, List.set_cons_zero]
        go_wp2
        go_ret
        exact ⟨rfl, hBx.1⟩

theorem own : ownKnob Try.prog.godebug = none := by kernel_rfl
theorem laidOut : laidOutB Try.prog = true := by kernel_rfl
set_option linter.unusedVariables false
set_option maxRecDepth 100000 in
theorem contract (H : Type) (enc : TypeId × Value → H) (W : World) (base : Nat) (args : Array Value) (ds gs : List (DataW H)) (before : List MemPlace)
    (hval0 : ∀ (j : Nat) t v, Try.f8.params[j]? = some t → args[j]? = some v → Value.okWide Try.prog W .any base t v)
    (hW : DataW.Whole enc Try.prog Try.f8.params.toList Rows.crcAddsSpec.vars false W args.toList ds gs before)
    (hsz : (DataW.weightsEach Try.prog (Try.f8.params.toList ++ Rows.crcAddsSpec.plain.varTypes Try.prog) (ds ++ gs)).all (· ≤ reachBytes) = true) :
    Calls Try.prog 8 args W fun e W' => ∃ v, e = .returned v ∧ Rows.crcAddsSpec.post enc Try.prog Try.f8 false true false false W args v W' := by
  have hval : ∀ (j : Nat) t v, Try.f8.params[j]? = some t → args[j]? = some v → Value.okWide Try.prog W .any base t v := hval0
  have hW' := hW
  obtain ⟨p, q, hA0, hV, rfl, hfz, hnd⟩ := hW
  have hA : DataW.TrodAll enc Try.prog W 0 (fun _ => true) true Try.f8.params.toList args.toList ds p := hA0
  rw [Try.params8] at hA hval
  obtain ⟨v0, vs0, d0, ds0, p0, q0, hargs, rfl, rfl, h0, r0⟩ := trodAll_cons hA
  obtain ⟨v1, vs1, d1, ds1, p1, q1, rfl, rfl, rfl, h1, r1⟩ := trodAll_cons r0
  obtain ⟨v2, vs2, d2, ds2, p2, q2, rfl, rfl, rfl, h2, r2⟩ := trodAll_cons r1
  obtain ⟨rfl, rfl, rfl⟩ := trodAll_nil r2
  obtain rfl : args = #[v0, v1, v2] := by cases args; simp_all
  obtain ⟨rfl, rfl⟩ := trodVars_none hV
  obtain ⟨a0, rfl, rfl, rfl, w0⟩ := open_string Try.underlying9 (hval 0 9 v0 rfl rfl) h0
  have z0 : a0.size ≤ reachBytes := by have := sized_string hsz (j := 0) (t := 9) rfl rfl; simpa using this
  obtain ⟨a1, rfl, rfl, rfl, w1⟩ := open_string Try.underlying9 (hval 1 9 v1 rfl rfl) h1
  have z1 : a1.size ≤ reachBytes := by have := sized_string hsz (j := 1) (t := 9) rfl rfl; simpa using this
  obtain ⟨a2, rfl, rfl, rfl, w2⟩ := open_string Try.underlying9 (hval 2 9 v2 rfl rfl) h2
  have z2 : a2.size ≤ reachBytes := by have := sized_string hsz (j := 2) (t := 9) rfl rfl; simpa using this
  clear hA0 hval0
  refine (walk a0 a1 a2 z0 z1 z2 W).mono fun e W' ⟨he, bel⟩ => ?_
  subst he
  exact ⟨_, rfl, _, _, _, [], _, [], hW', trodAll_mk1 (shut_bool Try.underlying4 _), (trodAll_cons_mk (shut_string Try.underlying9 w0) (trodAll_cons_mk (shut_string Try.underlying9 w1) (trodAll_cons_mk (shut_string Try.underlying9 w2) trodAll_mk0))), rfl, bel.frame _, fun h => by cases h⟩

set_option maxRecDepth 100000 in
theorem lifted (os : Os) (started : os.Started) (H : Type) (enc : TypeId × Value → H) :
    ReturnsInHanded {} Try.checked os 8 .any (Rows.crcAddsSpec.pre6 enc Try.prog Try.f8 Rows.crcAddsRow.domain false) (Rows.crcAddsSpec.post enc Try.prog Try.f8 false true false false) := by
  refine returnsInHanded_of_change_sized (C := Try.checked) own started (by kernel_rfl) Try.func8
    (ChangeSpec.witness6 (enc := enc) (C := Try.checked) false ⟨#[], #[.string ByteArray.empty, .string ByteArray.empty, .string ByteArray.empty], []⟩ 8 (by kernel_rfl) (by kernel_rfl) (by kernel_rfl) (by kernel_rfl)) ?_
  intro W base args ds gs before hval0 hW _ hsz _
  exact contract H enc W base args ds gs before hval0 hW hsz

theorem over : Rows.crcAddsRow.holds Try.pinned (OpenSpec.ofChange Rows.crcAddsSpec) :=
  OpenClaim.holds_of_wide 8 Try.f8 rfl rfl rfl rfl rfl rfl rfl ⟨rfl, rfl, rfl, rfl, rfl⟩ rfl rfl rfl rfl rfl (by kernel_rfl) Try.func8 (by kernel_rfl)
    (of_decide_eq_true (by kernel_rfl)) (by unfold Func.isWrapper; first | (rw [if_pos (by decide +kernel)]; kernel_rfl) | (rw [if_neg (by decide +kernel)]; exact ⟨rfl, rfl⟩))
    (fun os started H enc _ => lifted os started H enc)

theorem proved : Rows.CrcAddsSaid := over
#print axioms proved
end Go.Proofs.Ytmmbjgmcgijolaa.crcAdds
