/-
  What is written is read again, and the other way round, as texts. No walk.
-/
import Derived.Test.YtjbgiolcfammkaaDoorLayC
namespace Go.Proofs.YtjbgiolcfammkaaDoor.Lay
open LayM

theorem nb_append (a b : ByteArray) : nb (a ++ b) = nb a ++ nb b := by simp [nb]
theorem nb_inj {a b : ByteArray} (h : nb a = nb b) : a = b := by
  apply ByteArray.ext
  apply Array.ext'
  have h : a.data.toList.map UInt8.toNat = b.data.toList.map UInt8.toNat := h
  exact List.map_inj_right (fun x y e => UInt8.toNat_inj.1 e) |>.1 h
theorem nb_extract (s : ByteArray) (i j : Nat) : nb (s.extract i j) = ((nb s).drop i).take (j - i) := by
  simp only [nb, ByteArray.data_extract, Array.toList_extract, List.extract_eq_take_drop, List.map_take, List.map_drop]
theorem numF_lt : ∀ f v, v < 16 * 128 ^ f → ∀ c ∈ numF f v, c < 256
  | 0, v, h, c, hc => by simp [numF] at hc h; omega
  | f + 1, v, h, c, hc => by
    simp only [numF] at hc
    split at hc
    · simp at hc; omega
    · simp only [List.mem_cons] at hc
      rcases hc with rfl | hc
      · omega
      · exact numF_lt f (v / 128) (lt_step h) c hc
theorem nb_num {v : Nat} (hv : v < 4294967296) : nb (numS v) = numL v := by
  have hl := numF_lt 4 v (by rw [show 16 * 128 ^ 4 = 4294967296 by decide]; exact hv)
  simp only [nb, numS, numU, numFU, List.map_map]
  have : (numF 4 v).map (UInt8.toNat ∘ UInt8.ofNat) = (numF 4 v).map id := by
    apply List.map_congr_left
    intro c hc
    simp [Nat.mod_eq_of_lt (hl c hc)]
  rw [this, List.map_id]; rfl
/-- a number's bytes at a place are read as it -/
theorem read_num (a b : ByteArray) {v : Nat} (hv : v < 4294967296) : getN (a ++ numS v ++ b) a.size = (v, a.size + (numS v).size, 0) := by
  rw [getN_in _ (by simp; omega)]
  have : (nb (a ++ numS v ++ b)).drop a.size = numL v ++ nb b := by
    rw [nb_append, nb_append, nb_num hv, List.append_assoc]
    exact List.drop_left' (nb_length a)
  rw [this, back v _ hv, numS_size]; rfl
/-- cut off they are not there -/
theorem read_cut (a : ByteArray) {v k : Nat} (hv : v < 4294967296) (hk : k < (numS v).size) : getN (a ++ (numS v).extract 0 k) a.size = (0, 0, 3) := by
  rw [getN_in _ (by simp)]
  have : (nb (a ++ (numS v).extract 0 k)).drop a.size = (numL v).take k := by
    rw [nb_append, nb_extract, nb_num hv]
    rw [List.drop_left' (nb_length a)]; simp
  rw [this, cut v k hv (by rw [← numS_size]; exact hk)]; rfl
/-- what is read has just those bytes -/
theorem once_num {s : ByteArray} {k v n : Nat} (h : gn ((nb s).drop k) = .ok v n) : s.extract k (k + n) = numS v := by
  obtain ⟨h1, h2, h3, h4⟩ := once h (fun c hc => nb_lt s c (List.mem_of_mem_drop hc))
  apply nb_inj
  rw [nb_extract, nb_num h1, ← h3]; congr 1; omega
theorem extract_split (s : ByteArray) {i j k : Nat} (h1 : i ≤ j) (h2 : j ≤ k) : s.extract i k = s.extract i j ++ s.extract j k := by
  apply nb_inj
  rw [nb_append, nb_extract, nb_extract, nb_extract]
  rw [show k - i = (j - i) + (k - j) by omega, List.take_add, List.drop_drop]
  congr 3; omega
theorem once_text {s : ByteArray} {k v n : Nat} (h : gn ((nb s).drop k) = .ok v n) (hl : k + n + v ≤ s.size) : s.extract k (k + n + v) = textS (s.extract (k + n) (k + n + v)) := by
  have hv := (once h (fun c hc => nb_lt s c (List.mem_of_mem_drop hc))).1
  have hz : (s.extract (k + n) (k + n + v)).size = v := by simp; omega
  rw [extract_split s (Nat.le_add_right k n) (Nat.le_add_right (k + n) v), once_num h, textS, hz, Nat.mod_eq_of_lt hv]
/-- a text's bytes at a place are read as it -/
theorem read_text (a b s : ByteArray) (hs : s.size < 4294967296) (most : Int) : getT (a ++ textS s ++ b) a.size most = if max most 0 < (s.size : Int) then (ByteArray.empty, 0, 4) else (s, a.size + (textS s).size, 0) := by
  have hr := read_num a (s ++ b) hs
  have e : a ++ numS s.size ++ (s ++ b) = a ++ textS s ++ b := by
    rw [textS, Nat.mod_eq_of_lt hs]; apply nb_inj; simp [nb_append]
  rw [e] at hr
  have hz : (textS s).size = (numS s.size).size + s.size := by rw [textS, Nat.mod_eq_of_lt hs]; simp
  unfold getT
  rw [hr, if_neg (by simp)]
  simp only
  split
  · rfl
  · rw [if_neg (by simp [hz]; omega)]
    have : (a ++ textS s ++ b).extract (a.size + (numS s.size).size) (a.size + (numS s.size).size + s.size) = s := by
      rw [← e]
      apply nb_inj
      rw [nb_extract, nb_append, nb_append, nb_append, ← List.append_assoc, List.append_assoc, List.drop_left' (by simp [nb_length]), Nat.add_sub_cancel_left, List.take_left' (nb_length s)]
    rw [this, hz]
    simp; omega
theorem textS_size {s : ByteArray} (hs : s.size < 4294967296) : (textS s).size = (numS s.size).size + s.size := by rw [textS, Nat.mod_eq_of_lt hs]; simp
/-- a text that lacks its last byte -/
theorem read_text_cut (a s : ByteArray) (hs : s.size < 4294967296) : getT ((a ++ textS s).extract 0 ((a ++ textS s).size - 1)) a.size s.size = (ByteArray.empty, 0, 3) := by
  have hz := textS_size hs
  by_cases h0 : s.size = 0
  · have e : (a ++ textS s).extract 0 ((a ++ textS s).size - 1) = a ++ (numS 0).extract 0 0 := by
      have h1 : (numS 0).size = 1 := by decide +kernel
      apply nb_inj
      rw [nb_extract, nb_append, nb_append, nb_extract, ByteArray.size_append, hz, h0, h1]
      simp only [List.drop_zero, Nat.sub_zero, Nat.add_zero, Nat.add_sub_cancel, List.take_zero, List.append_nil]
      exact List.take_left' (nb_length a)
    rw [e]
    unfold getT
    rw [read_cut a (v := 0) (k := 0) (by decide) (by decide +kernel), if_pos (by simp)]
  · have e : (a ++ textS s).extract 0 ((a ++ textS s).size - 1) = a ++ numS s.size ++ s.extract 0 (s.size - 1) := by
      apply nb_inj
      rw [nb_extract, nb_append, nb_append, nb_append, nb_extract, textS, Nat.mod_eq_of_lt hs, nb_append]
      simp only [List.drop_zero, Nat.sub_zero, ByteArray.size_append]
      have hl : (nb a ++ nb (numS s.size)).length = a.size + (numS s.size).size := by rw [List.length_append, nb_length, nb_length]
      rw [← List.append_assoc, List.take_append, hl, List.take_of_length_le (by rw [hl]; omega)]
      congr 2; omega
    rw [e]
    unfold getT
    rw [read_num a _ hs, if_neg (by simp)]
    simp only
    rw [if_neg (by omega), if_pos (by simp; omega)]
end Go.Proofs.YtjbgiolcfammkaaDoor.Lay
