/-
  What Text and GetText answer, package lay's and the document's own, for every text, place and bound.
-/
import Derived.Test.YtjbgiolcfammkaaDoorLayB
import Derived.WalkSmall
namespace Go.Proofs.YtjbgiolcfammkaaDoor.Lay
open Go.RowKit
open LayM Own

/-- a text's bytes, and ahead of them their number's -/
def textS (s : ByteArray) : ByteArray := numS (s.size % 4294967296) ++ s
theorem numS_size (v : Nat) : (numS v).size = (numL v).length := by simp [numS, numU, numFU, numL, ByteArray.size]
theorem numS_len (v : Nat) : 1 ≤ (numS v).size ∧ (numS v).size ≤ 5 := by rw [numS_size]; exact numL_len v
/-- what is told of a text at a place -/
def getT (s : ByteArray) (a most : Int) : ByteArray × Nat × Nat :=
  if (getN s a).2.2 ≠ 0 then (ByteArray.empty, 0, (getN s a).2.2)
  else if max most 0 < ((getN s a).1 : Int) then (ByteArray.empty, 0, 4)
  else if s.size - (getN s a).2.1 < (getN s a).1 then (ByteArray.empty, 0, 3)
  else (s.extract (getN s a).2.1 ((getN s a).2.1 + (getN s a).1), (getN s a).2.1 + (getN s a).1, 0)
def tupT (r : ByteArray × Nat × Nat) : Value := .tuple #[.string r.1, .int .i64 (r.2.1 : Int), .int .i64 (r.2.2 : Int)]
theorem getN_ok {s : ByteArray} {a : Int} (h : (getN s a).2.2 = 0) : ∃ k v n : Nat, a = k ∧ k ≤ s.size ∧ gn ((nb s).drop k) = .ok v n ∧ getN s a = (v, k + n, 0) ∧ v < 4294967296 ∧ k + n ≤ s.size ∧ 1 ≤ n ∧ n ≤ 5 := by
  unfold getN at h
  split at h
  · simp at h
  rename_i hc
  obtain ⟨k, rfl⟩ : ∃ k : Nat, a = k := ⟨a.toNat, by omega⟩
  rw [Int.toNat_natCast] at h
  cases hr : gn ((nb s).drop k) with
  | ok v n =>
    have ho := once hr (fun c hc => nb_lt s c (List.mem_of_mem_drop hc))
    have hl : ((nb s).drop k).length = s.size - k := by rw [List.length_drop, nb_length]
    have h5 := numL_len v
    refine ⟨k, v, n, rfl, by omega, hr, by rw [getN_in s (by omega), hr]; rfl, ho.1, by omega, by omega, by omega⟩
  | short => rw [hr] at h; simp [toldN] at h
  | form => rw [hr] at h; simp [toldN] at h
theorem getN_code (s : ByteArray) (a : Int) : (getN s a).2.2 < 4 := by
  unfold getN; split
  · simp
  · cases gn ((nb s).drop a.toNat) <;> simp [toldN]

theorem text_any (s : ByteArray) (hs : s.size ≤ 9000000000000000000) (w : World) : Calls Tryd.prog 62 #[.string s] w fun e w' => e = .returned (.string (textS s)) ∧ Below w.heap.size w w' := by
  have HN := Lib.hid (fun w => num_any (s.size % 4294967296) (Nat.mod_lt _ (by decide)) w)
  have hl := (numS_len (s.size % 4294967296)).2
  have he : ((s.size % 4294967296 : Nat) : Int) = (s.size : Int) % 4294967296 := by omega
  rw [he] at HN
  clear he
  go_enter Tryd.func62, Tryd.ntmps62
  go_wp2_with fail
  go_at_call 37
  with_reducible refine (HN.out _).mono ?_
  rintro e w2 ⟨rfl, hb⟩
  go_wp2
  go_ret
  exact ⟨rfl, hb⟩
theorem refText_any (s : ByteArray) (hs : s.size ≤ 9000000000000000000) (w : World) : Calls Tryd.prog 41 #[.string s] w fun e w' => e = .returned (.string (textS s)) ∧ Below w.heap.size w w' := by
  have HN := Lib.hid (fun w => refNum_any (s.size % 4294967296) (Nat.mod_lt _ (by decide)) w)
  have hl := (numS_len (s.size % 4294967296)).2
  have he : ((s.size % 4294967296 : Nat) : Int) = (s.size : Int) % 4294967296 := by omega
  rw [he] at HN
  clear he
  go_enter Tryd.func41, Tryd.ntmps41
  go_wp2_with fail
  go_at_call 40
  with_reducible refine (HN.out _).mono ?_
  rintro e w2 ⟨rfl, hb⟩
  go_wp2
  go_ret
  exact ⟨rfl, hb⟩

theorem ret_tupT {a a' : ByteArray} {b b' c c' : Int} (h1 : a = a') (h2 : b = b') (h3 : c = c') : Ending.returned (.tuple #[.string a, .int .i64 b, .int .i64 c]) = .returned (.tuple #[.string a', .int .i64 b', .int .i64 c']) := by rw [h1, h2, h3]
theorem max2 {P : Program} (w : World) (ts : Array TypeId) (t : TypeId) (x m : Int) (hm : m = max x 0) : (Builtin.max_ ts t #[.int .i64 x, .int .i64 0]).run P w = .ok (.int .i64 m) w := by
  have e : (Builtin.max_ ts t #[.int .i64 x, .int .i64 0]).run P w = .ok (.int .i64 (if x < 0 then 0 else x)) w := by
    simp [Builtin.max_, Builtin.max2]
  rw [e, hm]; congr 2; split <;> omega
set_option maxRecDepth 100000 in
theorem getText_any (s : ByteArray) (hs : s.size ≤ maxLen) (a most : Int) (w : World) : Calls Tryd.prog 64 #[.string s, .int .i64 a, .int .i64 most] w fun e w' => e = .returned (tupT (getT s a most)) ∧ w = w' := by
  have HC := Lib.hid (fun w => getNum_any s hs a w)
  unfold maxLen at hs
  by_cases h0 : (getN s a).2.2 = 0
  · obtain ⟨k, v, n, -, -, -, hr, hv, hp, hn1, hn5⟩ := getN_ok h0
    clear h0
    have HT : Hid (getT s a most = if max most 0 < (v : Int) then (ByteArray.empty, 0, 4) else if s.size - (k + n) < v then (ByteArray.empty, 0, 3) else (s.extract (k + n) (k + n + v), k + n + v, 0)) := by
      unfold getT; rw [hr, if_neg (by simp)]; rfl
    rw [hr] at HC
    obtain ⟨p, hpe⟩ : ∃ p, p = k + n := ⟨_, rfl⟩
    rw [← hpe] at HC HT hp
    clear hr hpe
    have HC' : Hid (∀ w, Calls Tryd.prog 42 #[.string s, .int .i64 a] w fun e w' => e = .returned (.tuple #[.int .u32 (v : Int), .int .i64 (p : Int), .int .i64 0]) ∧ w = w') := HC.out
    clear HC
    obtain ⟨m, hm⟩ : ∃ m, m = max most 0 := ⟨_, rfl⟩
    have hmx := fun w ts t => max2 (P := Tryd.prog) w ts t most m hm
    rw [← hm] at HT
    clear hm
    by_cases hl : m < (v : Int)
    · go_enter Tryd.func64, Tryd.ntmps64
      go_wp2_with (go_at_call 42; (with_reducible refine (HC'.out _).mono ?_); rintro e w' ⟨rfl, rfl⟩)
      go_ret3
      rw [HT.out, if_pos hl]; exact ⟨rfl, rfl⟩
    · by_cases hs2 : s.size - p < v
      · have e2 : decide ((s.size : Int) - (p : Int) < (v : Int)) = true := by simp; omega
        go_enter Tryd.func64, Tryd.ntmps64
        go_wp2_with (go_at_call 42; (with_reducible refine (HC'.out _).mono ?_); rintro e w' ⟨rfl, rfl⟩)
        go_ret3
        rw [HT.out, if_neg (by omega), if_pos (by omega)]; exact ⟨rfl, rfl⟩
      · have e2 : decide ((s.size : Int) - (p : Int) < (v : Int)) = false := by simp; omega
        have hsl : ∀ w, (Instr.slice 9 (.string s) (some (.int .i64 (p : Int))) (some (.int .i64 ((p : Int) + (v : Int)))) none).run Tryd.prog w = .ok (.string (s.extract p (p + v))) w := fun w => by
          rw [run_slice_string (P := Tryd.prog) w 9 s .i64 .i64 (p : Int) ((p : Int) + v) Tryd.underlying9 (by omega) (by omega) (by omega)]
          congr 3
        go_enter Tryd.func64, Tryd.ntmps64
        go_wp2_with (go_at_call 42; (with_reducible refine (HC'.out _).mono ?_); rintro e w' ⟨rfl, rfl⟩)
        go_ret3
        rw [HT.out, if_neg (by omega), if_neg (by omega)]; exact ⟨ret_tupT rfl (by simp) rfl, rfl⟩
  · obtain ⟨r, hr⟩ : ∃ r, r = getN s a := ⟨_, rfl⟩
    have HT : Hid (getT s a most = (ByteArray.empty, 0, r.2.2)) := by
      unfold getT; rw [if_pos h0, ← hr]; rfl
    rw [← hr] at HC h0
    clear hr
    have HC' : Hid (∀ w, Calls Tryd.prog 42 #[.string s, .int .i64 a] w fun e w' => e = .returned (.tuple #[.int .u32 (r.1 : Int), .int .i64 (r.2.1 : Int), .int .i64 (r.2.2 : Int)]) ∧ w = w') := HC.out
    clear HC
    have e1 : ((r.2.2 : Int) == 0) = false := by simpa using h0
    go_enter Tryd.func64, Tryd.ntmps64
    go_wp2_with (go_at_call 42; (with_reducible refine (HC'.out _).mono ?_); rintro e w' ⟨rfl, rfl⟩)
    go_ret3
    rw [HT.out]; exact ⟨rfl, rfl⟩
set_option maxRecDepth 100000 in
theorem refGetText_any (s : ByteArray) (hs : s.size ≤ maxLen) (a most : Int) (w : World) : Calls Tryd.prog 45 #[.string s, .int .i64 a, .int .i64 most] w fun e w' => e = .returned (tupT (getT s a most)) ∧ w = w' := by
  have HC := Lib.hid (fun w => refGetNum_any s hs a w)
  unfold maxLen at hs
  by_cases h0 : (getN s a).2.2 = 0
  · obtain ⟨k, v, n, -, -, -, hr, hv, hp, hn1, hn5⟩ := getN_ok h0
    clear h0
    have HT : Hid (getT s a most = if max most 0 < (v : Int) then (ByteArray.empty, 0, 4) else if s.size - (k + n) < v then (ByteArray.empty, 0, 3) else (s.extract (k + n) (k + n + v), k + n + v, 0)) := by
      unfold getT; rw [hr, if_neg (by simp)]; rfl
    rw [hr] at HC
    obtain ⟨p, hpe⟩ : ∃ p, p = k + n := ⟨_, rfl⟩
    rw [← hpe] at HC HT hp
    clear hr hpe
    have HC' : Hid (∀ w, Calls Tryd.prog 44 #[.string s, .int .i64 a] w fun e w' => e = .returned (.tuple #[.int .u32 (v : Int), .int .i64 (p : Int), .int .i64 0]) ∧ w = w') := HC.out
    clear HC
    obtain ⟨m, hm⟩ : ∃ m, m = max most 0 := ⟨_, rfl⟩
    have hmx := fun w ts t => max2 (P := Tryd.prog) w ts t most m hm
    rw [← hm] at HT
    clear hm
    by_cases hl : m < (v : Int)
    · go_enter Tryd.func45, Tryd.ntmps45
      go_wp2_with (go_at_call 44; (with_reducible refine (HC'.out _).mono ?_); rintro e w' ⟨rfl, rfl⟩)
      go_ret3
      rw [HT.out, if_pos hl]; exact ⟨rfl, rfl⟩
    · by_cases hs2 : s.size - p < v
      · have e2 : decide ((s.size : Int) - (p : Int) < (v : Int)) = true := by simp; omega
        go_enter Tryd.func45, Tryd.ntmps45
        go_wp2_with (go_at_call 44; (with_reducible refine (HC'.out _).mono ?_); rintro e w' ⟨rfl, rfl⟩)
        go_ret3
        rw [HT.out, if_neg (by omega), if_pos (by omega)]; exact ⟨rfl, rfl⟩
      · have e2 : decide ((s.size : Int) - (p : Int) < (v : Int)) = false := by simp; omega
        have hsl : ∀ w, (Instr.slice 9 (.string s) (some (.int .i64 (p : Int))) (some (.int .i64 ((p : Int) + (v : Int)))) none).run Tryd.prog w = .ok (.string (s.extract p (p + v))) w := fun w => by
          rw [run_slice_string (P := Tryd.prog) w 9 s .i64 .i64 (p : Int) ((p : Int) + v) Tryd.underlying9 (by omega) (by omega) (by omega)]
          congr 3
        go_enter Tryd.func45, Tryd.ntmps45
        go_wp2_with (go_at_call 44; (with_reducible refine (HC'.out _).mono ?_); rintro e w' ⟨rfl, rfl⟩)
        go_ret3
        rw [HT.out, if_neg (by omega), if_neg (by omega)]; exact ⟨ret_tupT rfl (by simp) rfl, rfl⟩
  · obtain ⟨r, hr⟩ : ∃ r, r = getN s a := ⟨_, rfl⟩
    have HT : Hid (getT s a most = (ByteArray.empty, 0, r.2.2)) := by
      unfold getT; rw [if_pos h0, ← hr]; rfl
    rw [← hr] at HC h0
    clear hr
    have HC' : Hid (∀ w, Calls Tryd.prog 44 #[.string s, .int .i64 a] w fun e w' => e = .returned (.tuple #[.int .u32 (r.1 : Int), .int .i64 (r.2.1 : Int), .int .i64 (r.2.2 : Int)]) ∧ w = w') := HC.out
    clear HC
    have e1 : ((r.2.2 : Int) == 0) = false := by simpa using h0
    go_enter Tryd.func45, Tryd.ntmps45
    go_wp2_with (go_at_call 44; (with_reducible refine (HC'.out _).mono ?_); rintro e w' ⟨rfl, rfl⟩)
    go_ret3
    rw [HT.out]; exact ⟨rfl, rfl⟩
end Go.Proofs.YtjbgiolcfammkaaDoor.Lay
