/-
  The walks of LayBack and LayLong, for texts of less than 2 to the 32nd bytes.
-/
import Derived.Test.YtapjgodhpkbfiaaLayLaws
import Derived.Test.YtapjgodhpkbfiaaLayD
namespace Go.Proofs.Ytapjgodhpkbfiaa.Lay
open Go.RowKit
open LayM Own
theorem read_whole (s : ByteArray) (hs : s.size < 4294967296) (most : Int) : getT (textS s) 0 most = if max most 0 < (s.size : Int) then (ByteArray.empty, 0, 4) else (s, (textS s).size, 0) := by
  have := read_text ByteArray.empty ByteArray.empty s hs most
  simpa using this
theorem long_any (s : ByteArray) (hs : s.size < 4294967296) (m : Int) (w : World) : Calls Try.prog 8 #[.string s, .int .i64 m] w fun e w' => e = .returned (.bool true) ∧ Below w.heap.size w w' := by
  have H1 := Lib.hid alive_any
  have H2 := Lib.hid (fun w => text_any s (by omega) w)
  have H3 := Lib.hid (fun w => getText_any (textS s) (by have := textS_size hs; have := numS_len s.size; simp only [maxLen]; omega) 0 m w)
  rw [read_whole s hs m] at H3
  obtain ⟨x, hx⟩ : ∃ x, x = max m 0 := ⟨_, rfl⟩
  have hmx := fun w ts t => max2 (P := Try.prog) w ts t m x hx
  rw [← hx] at H3
  clear hx
  have hB := Below.refl w.heap.size w
  by_cases h : x < (s.size : Int)
  all_goals
    first | rw [if_pos h] at H3 | rw [if_neg h] at H3
    unfold tupT at H3
    go_enter Try.func8, Try.ntmps8
    go_wp2_with (first
      | (go_at_call 9; (with_reducible refine (H1.out _).mono ?_); rintro e w2 ⟨rfl, hn⟩; replace hB := bel0 hB hn; clear hn)
      | (go_at_call 12; (with_reducible refine (H2.out _).mono ?_); rintro e w2 ⟨rfl, hn⟩; replace hB := bel0 hB hn; clear hn)
      | (go_at_call 16; (with_reducible refine (H3.out _).mono ?_); rintro e w2 ⟨rfl, rfl⟩))
    go_ret
    exact ⟨by simp, hB⟩
set_option maxRecDepth 100000 in
set_option maxHeartbeats 4000000 in
theorem back_any (v : Nat) (hv : v < 4294967296) (s a b : ByteArray) (hs : s.size < 4294967296) (ha : a.size ≤ reachBytes) (hb : b.size ≤ reachBytes) (c : Int) (w : World) :
    Calls Try.prog 6 #[.int .u32 (v : Int), .string s, .string a, .string b, .int .i64 c] w fun e w' => e = .returned (.bool true) ∧ Below w.heap.size w w' := by
  have hr : reachBytes < 140737488355328 := reachBytes_lt
  have l1 := numS_len v
  have l2 := numS_len s.size
  have l3 := textS_size hs
  have H1 := Lib.hid alive_any
  have H2 := Lib.hid (fun w => num_any v hv w)
  have H3 := Lib.hid (fun w => text_any s (by omega) w)
  have hz : (a ++ numS v ++ textS s).size = a.size + (numS v).size + (textS s).size := by simp
  have H4 : Hid (∀ w, Calls Try.prog 14 #[.string (a ++ numS v ++ textS s ++ b), .int .i64 (a.size : Int)] w fun e w' => e = .returned (.tuple #[.int .u32 (v : Int), .int .i64 ((a.size + (numS v).size : Nat) : Int), .int .i64 0]) ∧ w = w') := fun w => by
    have := getNum_any (a ++ numS v ++ textS s ++ b) (by rw [ByteArray.size_append, hz]; simp only [maxLen]; omega) a.size w
    have e : a ++ numS v ++ textS s ++ b = a ++ numS v ++ (textS s ++ b) := ByteArray.append_assoc
    rw [e, read_num a _ hv] at this
    rw [e]; exact this
  have H5 : Hid (∀ w, Calls Try.prog 16 #[.string (a ++ numS v ++ textS s ++ b), .int .i64 ((a.size + (numS v).size : Nat) : Int), .int .i64 (s.size : Int)] w fun e w' => e = .returned (.tuple #[.string s, .int .i64 ((a ++ numS v ++ textS s).size : Int), .int .i64 0]) ∧ w = w') := fun w => by
    have := getText_any (a ++ numS v ++ textS s ++ b) (by rw [ByteArray.size_append, hz]; simp only [maxLen]; omega) (a ++ numS v).size s.size w
    rw [read_text (a ++ numS v) b s hs, if_neg (by omega)] at this
    rw [hz]
    rw [ByteArray.size_append] at this
    exact this
  have H6 : Hid (∀ k, k < (numS v).size → ∀ w, Calls Try.prog 14 #[.string ((a ++ numS v ++ textS s).extract 0 (a.size + k)), .int .i64 (a.size : Int)] w fun e w' => e = .returned (.tuple #[.int .u32 0, .int .i64 0, .int .i64 3]) ∧ w = w') := fun k hk w => by
    have e : (a ++ numS v ++ textS s).extract 0 (a.size + k) = a ++ (numS v).extract 0 k := by
      apply nb_inj
      rw [nb_extract, nb_append, nb_append, nb_append, nb_extract]
      simp only [List.drop_zero, Nat.sub_zero]
      rw [List.append_assoc, List.take_append, nb_length, List.take_of_length_le (by rw [nb_length]; omega), Nat.add_sub_cancel_left, List.take_append_of_le_length (by rw [nb_length]; omega)]
    have := getNum_any (a ++ (numS v).extract 0 k) (by simp [maxLen]; omega) a.size w
    rw [read_cut a hv hk] at this
    rw [e]; exact this
  have H7 : Hid (∀ w, Calls Try.prog 16 #[.string ((a ++ numS v ++ textS s).extract 0 ((a ++ numS v ++ textS s).size - 1)), .int .i64 ((a.size + (numS v).size : Nat) : Int), .int .i64 (s.size : Int)] w fun e w' => e = .returned (.tuple #[.string ByteArray.empty, .int .i64 0, .int .i64 3]) ∧ w = w') := fun w => by
    have := getText_any ((a ++ numS v ++ textS s).extract 0 ((a ++ numS v ++ textS s).size - 1)) (by rw [ByteArray.size_extract, hz]; simp only [maxLen]; omega) (a ++ numS v).size s.size w
    rw [read_text_cut (a ++ numS v) s hs] at this
    rw [ByteArray.size_append (a := a)] at this
    exact this
  have hB := Below.refl w.heap.size w
  generalize numS v = N at *
  generalize textS s = T at *
  have h61 : Hid (∀ w, Calls Try.prog 14 #[.string ((a ++ N ++ T).extract 0 a.size), .int .i64 (a.size : Int)] w fun e w' => e = .returned (.tuple #[.int .u32 0, .int .i64 0, .int .i64 3]) ∧ w = w') := H6.out 0 (by omega)
  generalize hBe : a ++ N ++ T = B at *
  obtain ⟨p, hp⟩ : ∃ p, p = a.size + N.size := ⟨_, rfl⟩
  rw [← hp] at H4 H5 H7 hz
  obtain ⟨z, hzz⟩ : ∃ z, z = B.size := ⟨_, rfl⟩
  have b1 : 1 ≤ B.size := by omega
  have b2 : a.size + N.size ≤ B.size := by omega
  have b3 : B.size + b.size ≤ 9000000000000000000 := by omega
  have b4 : N.size ≤ 5 := l1.2
  have b5 : a.size ≤ B.size := by omega
  have b6 : a.size + N.size + T.size ≤ 9000000000000000000 := by omega
  clear hz hzz l1 l2 l3 hp hr ha hb
  have hs1 : ∀ w, (Instr.slice 9 (.string B) none (some (.int .i64 (a.size : Int))) none).run Try.prog w = .ok (.string (B.extract 0 a.size)) w := fun w => by
    rw [run_slice_string_to_if (P := Try.prog) w 9 B .i64 (a.size : Int) Try.underlying9, if_pos (by omega)]; rfl
  have hs2 : ∀ w, (Instr.slice 9 (.string B) none (some (.int .i64 ((B.size : Int) - 1))) none).run Try.prog w = .ok (.string (B.extract 0 (B.size - 1))) w := fun w => by
    rw [run_slice_string_to_if (P := Try.prog) w 9 B .i64 ((B.size : Int) - 1) Try.underlying9, if_pos (by omega)]
    congr 3; omega
  by_cases hc0 : c < 0
  · have d1 : decide (c < 0) = true := by simpa using hc0
    go_enter Try.func6, Try.ntmps6
    go_wp2_with (first
      | (go_at_call 9; (with_reducible refine (H1.out _).mono ?_); rintro e w2 ⟨rfl, hn⟩; replace hB := bel0 hB hn; clear hn)
      | (go_at_call 10; (with_reducible refine (H2.out _).mono ?_); rintro e w2 ⟨rfl, hn⟩; replace hB := bel0 hB hn; clear hn)
      | (go_at_call 12; (with_reducible refine (H3.out _).mono ?_); rintro e w2 ⟨rfl, hn⟩; replace hB := bel0 hB hn; clear hn)
      | (go_at_call 14; (with_reducible refine (H4.out _).mono ?_); rintro e w2 ⟨rfl, rfl⟩)
      | (go_at_call 16; (with_reducible refine (H5.out _).mono ?_); rintro e w2 ⟨rfl, rfl⟩)
      | (go_at_call 14; (with_reducible refine (h61.out _).mono ?_); rintro e w2 ⟨rfl, rfl⟩)
      | (go_at_call 16; (with_reducible refine (H7.out _).mono ?_); rintro e w2 ⟨rfl, rfl⟩))
    go_ret
    exact ⟨by simp, hB⟩
  · have d1 : decide (c < 0) = false := by simpa using hc0
    by_cases hc1 : (N.size : Int) ≤ c
    · have d2 : decide ((N.size : Int) ≤ c) = true := by simpa using hc1
      go_enter Try.func6, Try.ntmps6
      go_wp2_with (first
        | (go_at_call 9; (with_reducible refine (H1.out _).mono ?_); rintro e w2 ⟨rfl, hn⟩; replace hB := bel0 hB hn; clear hn)
        | (go_at_call 10; (with_reducible refine (H2.out _).mono ?_); rintro e w2 ⟨rfl, hn⟩; replace hB := bel0 hB hn; clear hn)
        | (go_at_call 12; (with_reducible refine (H3.out _).mono ?_); rintro e w2 ⟨rfl, hn⟩; replace hB := bel0 hB hn; clear hn)
        | (go_at_call 14; (with_reducible refine (H4.out _).mono ?_); rintro e w2 ⟨rfl, rfl⟩)
        | (go_at_call 16; (with_reducible refine (H5.out _).mono ?_); rintro e w2 ⟨rfl, rfl⟩)
        | (go_at_call 14; (with_reducible refine (h61.out _).mono ?_); rintro e w2 ⟨rfl, rfl⟩)
        | (go_at_call 16; (with_reducible refine (H7.out _).mono ?_); rintro e w2 ⟨rfl, rfl⟩))
      go_ret
      exact ⟨by simp, hB⟩
    · have d2 : decide ((N.size : Int) ≤ c) = false := by simpa using hc1
      obtain ⟨k, rfl⟩ : ∃ k : Nat, c = k := ⟨c.toNat, by omega⟩
      have d3 : decide (N.size ≤ k) = false := by simp; omega
      clear h61 hs1
      have h61 := Lib.hid (H6.out k (by omega))
      have hs1 : ∀ w, (Instr.slice 9 (.string B) none (some (.int .i64 ((a.size : Int) + (k : Int)))) none).run Try.prog w = .ok (.string (B.extract 0 (a.size + k))) w := fun w => by
        rw [run_slice_string_to_if (P := Try.prog) w 9 B .i64 ((a.size : Int) + k) Try.underlying9, if_pos (by omega)]; rfl
      go_enter Try.func6, Try.ntmps6
      go_wp2_with (first
        | (go_at_call 9; (with_reducible refine (H1.out _).mono ?_); rintro e w2 ⟨rfl, hn⟩; replace hB := bel0 hB hn; clear hn)
        | (go_at_call 10; (with_reducible refine (H2.out _).mono ?_); rintro e w2 ⟨rfl, hn⟩; replace hB := bel0 hB hn; clear hn)
        | (go_at_call 12; (with_reducible refine (H3.out _).mono ?_); rintro e w2 ⟨rfl, hn⟩; replace hB := bel0 hB hn; clear hn)
        | (go_at_call 14; (with_reducible refine (H4.out _).mono ?_); rintro e w2 ⟨rfl, rfl⟩)
        | (go_at_call 16; (with_reducible refine (H5.out _).mono ?_); rintro e w2 ⟨rfl, rfl⟩)
        | (go_at_call 14; (with_reducible refine (h61.out _).mono ?_); rintro e w2 ⟨rfl, rfl⟩)
        | (go_at_call 16; (with_reducible refine (H7.out _).mono ?_); rintro e w2 ⟨rfl, rfl⟩))
      go_ret
      exact ⟨by simp, hB⟩
end Go.Proofs.Ytapjgodhpkbfiaa.Lay
