/-
  Joined texts: KeysA, KeysB.
-/
import Derived.Test.YtligapgjdpdihaaDoorRunRefRunes
import Derived.Lib.OthersKept
/-
  What package keys answers of one text: Count, Head, Right, for every text.
-/
set_option linter.unusedVariables false
set_option linter.unusedSimpArgs false
namespace Go.Proofs.YtligapgjdpdihaaDoor.Keys
open Go.RowKit
open RuneM RefRune Own RefKeys

/-- how long texts may be here -/
def lim : Nat := 140737488355328
/-- a text gone through up to a place -/
structure Part (s : ByteArray) (pos : Nat) (done : List (Nat × Nat)) : Prop where
  le : pos ≤ s.size
  all : runes s = done ++ rest s pos
theorem Part.start (s : ByteArray) : Part s 0 [] := ⟨Nat.zero_le _, rfl⟩
theorem Part.next {s : ByteArray} {pos : Nat} {done : List (Nat × Nat)} (h : Part s pos done) (hp : pos < s.size) : Part s (pos + (Utf8.decode s pos).2) (done ++ [Utf8.decode s pos]) := by
  have hw := dec_width s pos hp
  refine ⟨by omega, ?_⟩
  rw [h.all, rest_cons s pos hp]; simp
theorem Part.done {s : ByteArray} {pos : Nat} {done : List (Nat × Nat)} (h : Part s pos done) (hp : ¬ pos < s.size) : runes s = done := by
  rw [h.all, rest_end s pos (by omega), List.append_nil]
theorem Part.width {s : ByteArray} {pos : Nat} {done : List (Nat × Nat)} (h : Part s pos done) : width done = pos := by
  have h1 := runes_width s
  rw [h.all, width_append, rest_width s pos h.le] at h1
  have := h.le; omega
theorem Part.length {s : ByteArray} {pos : Nat} {done : List (Nat × Nat)} (h : Part s pos done) : done.length ≤ s.size := by
  have h1 := runes_length s
  rw [h.all, List.length_append] at h1; omega
theorem Part.more {s : ByteArray} {pos : Nat} {done : List (Nat × Nat)} (h : Part s pos done) (hp : pos < s.size) : done.length + 1 ≤ (runes s).length := by
  rw [h.all, List.length_append, rest_cons s pos hp, List.length_cons]; omega

theorem iter_below (w : World) (s : ByteArray) (pos : Nat) : Below w.heap.size w (w.iter s pos) := (Below.refl _ _).alloc (Nat.le_refl _) _

end Go.Proofs.YtligapgjdpdihaaDoor.Keys
/-
  What package keys answers of one text: Right, for every text.
-/
set_option linter.unusedVariables false
set_option linter.unusedSimpArgs false
namespace Go.Proofs.YtligapgjdpdihaaDoor.Keys
open Go.RowKit
open RuneM RefRune Own RefKeys

/-- may a key have a rune? -/
def rr (r : Nat) : Bool := decide (33 ≤ r) && (decide (r < 127) || decide (160 < r))
theorem rightRune_any (r : Nat) (w : World) : Calls Tryd.prog 105 #[.int .i32 (r : Int)] w fun e w' => e = .returned (.bool (rr r)) ∧ w' = w := by
  have HB : Hid (rr r = (decide (33 ≤ r) && (decide (r < 127) || decide (160 < r)))) := rfl
  by_cases h1 : 33 ≤ r
  · have d1 : decide ((33 : Int) ≤ (r : Int)) = true := by simp; omega
    by_cases h2 : r < 127
    · have d2 : decide ((r : Int) < 127) = true := by simp; omega
      go_enter Tryd.func105, Tryd.ntmps105
      go_wp2
      go_ret
      exact ⟨ret_bool (by rw [HB.out]; simp [h1, h2]), rfl⟩
    · have d2 : decide ((r : Int) < 127) = false := by simp; omega
      go_enter Tryd.func105, Tryd.ntmps105
      go_wp2
      go_ret
      exact ⟨ret_bool (by rw [HB.out]; simp [h1, h2]; omega), rfl⟩
  · have d1 : decide ((33 : Int) ≤ (r : Int)) = false := by simp; omega
    go_enter Tryd.func105, Tryd.ntmps105
    go_wp2
    go_ret
    exact ⟨ret_bool (by rw [HB.out]; simp [h1]), rfl⟩
/-- does the text begin with U+FFFD's own bytes? -/
def begins (s : ByteArray) : Bool := decide (3 ≤ s.size) && ((s.extract 0 3).toList == [239, 191, 189])
theorem hasPrefix_any (s : ByteArray) (hs : s.size ≤ lim) (w : World) : Calls Tryd.prog 111 #[.string s, .string ⟨#[239, 191, 189]⟩] w fun e w' => e = .returned (.bool (begins s)) ∧ w' = w := by
  unfold lim at hs
  have HB : Hid (begins s = (decide (3 ≤ s.size) && ((s.extract 0 3).toList == [239, 191, 189]))) := rfl
  by_cases h : 3 ≤ s.size
  · have d : decide ((3 : Int) ≤ (s.size : Int)) = true := by simp; omega
    go_enter Tryd.func111, Tryd.ntmps111
    go_wp2
    go_ret
    exact ⟨ret_bool (by rw [HB.out]; simp [h]), rfl⟩
  · have d : decide ((3 : Int) ≤ (s.size : Int)) = false := by simp; omega
    go_enter Tryd.func111, Tryd.ntmps111
    go_wp2
    go_ret
    exact ⟨ret_bool (by rw [HB.out]; simp [h]), rfl⟩
theorem stands_any (r : Nat) (s : ByteArray) (hs : s.size ≤ lim) (w : World) : Calls Tryd.prog 106 #[.int .i32 (r : Int), .string s] w fun e w' => e = .returned (.bool (!decide (r = 65533) || begins s)) ∧ w' = w := by
  by_cases h : r = 65533
  · have d : ((r : Int) != 65533) = false := by simp; omega
    go_enter Tryd.func106, Tryd.ntmps106
    go_wp2_with (go_at_call 111; (with_reducible refine (hasPrefix_any s hs _).mono ?_); rintro e w2 ⟨rfl, rfl⟩)
    go_ret
    exact ⟨ret_bool (by simp [h]), rfl⟩
  · have d : ((r : Int) != 65533) = true := by simp; omega
    go_enter Tryd.func106, Tryd.ntmps106
    go_wp2
    go_ret
    exact ⟨ret_bool (by simp [h]), rfl⟩
theorem fffd (n b0 b1 b2 b3 : Nat) (h0 : b0 < 256) (h1 : b1 < 256) (h2 : b2 < 256) (h : (Lib.decodeN n b0 b1 b2 b3).1 = 65533) :
    (Lib.decodeN n b0 b1 b2 b3).2 = 1 ↔ ¬ (3 ≤ n ∧ b0 = 239 ∧ b1 = 191 ∧ b2 = 189) := by
  revert h
  unfold Lib.decodeN
  repeat' split
  all_goals (intro h; simp only [] at h ⊢; refine ⟨fun _ => ?_, fun _ => ?_⟩ <;> omega)
theorem toList_extract (s : ByteArray) (i j : Nat) : (s.extract i j).toList = (s.data.toList.drop i).take (j - i) := by
  rw [ByteArray.toList_eq]; simp [List.drop_take]
theorem begins_at (s : ByteArray) (pos : Nat) (h : pos < s.size) : begins (s.extract pos s.size) = decide (3 ≤ s.size - pos ∧ (s.get! pos).toNat = 239 ∧ (s.get! (pos + 1)).toNat = 191 ∧ (s.get! (pos + 2)).toNat = 189) := by
  unfold begins
  have hz : (s.extract pos s.size).size = s.size - pos := by simp
  rw [hz]
  by_cases h3 : 3 ≤ s.size - pos
  · rw [get_bang s pos h, get_bang s (pos + 1) (by omega), get_bang s (pos + 2) (by omega)]
    have hl : s.data.toList.length = s.size := rfl
    have e : ((s.extract pos s.size).extract 0 3).toList = [s[pos], s[pos + 1], s[pos + 2]] := by
      rw [toList_extract]
      have e2 : (s.extract pos s.size).data.toList = s.data.toList.drop pos := by simp [List.drop_take, List.take_of_length_le]
      rw [e2, List.drop_zero, List.drop_eq_getElem_cons (by omega), List.drop_eq_getElem_cons (by omega), List.drop_eq_getElem_cons (by omega)]
      rfl
    rw [e]
    have t : ∀ (b : UInt8) (n : UInt8), b.toNat = n.toNat ↔ b = n := fun b n => ⟨fun h => UInt8.toNat_inj.1 h, fun h => by rw [h]⟩
    have t1 := t s[pos] 239
    have t2 := t s[pos + 1] 191
    have t3 := t s[pos + 2] 189
    simp only [h3, decide_true, Bool.true_and, true_and]
    rw [Bool.eq_iff_iff]
    simp
    rw [← t1, ← t2, ← t3]
    rfl
  · simp [h3]
theorem plain_split (s : ByteArray) (pos : Nat) (h : pos < s.size) : plainB (Utf8.decode s pos) = (rr (Utf8.decode s pos).1 && (!decide ((Utf8.decode s pos).1 = 65533) || begins (s.extract pos s.size))) := by
  rw [begins_at s pos h]
  have hf := fffd (s.size - pos) (s.get! pos).toNat (s.get! (pos + 1)).toNat (s.get! (pos + 2)).toNat (s.get! (pos + 3)).toNat (UInt8.toNat_lt _) (UInt8.toNat_lt _) (UInt8.toNat_lt _)
  rw [← Lib.decode_at] at hf
  unfold plainB rr
  generalize Utf8.decode s pos = d at hf
  by_cases e : d.1 = 65533
  · have hf := hf e
    by_cases e2 : d.2 = 1
    · have := hf.1 e2
      simp [e, e2, this]
    · have := mt hf.2 e2
      simp only [Classical.not_not] at this
      simp [e, e2, this]
  · have e1 : (decide (127 ≤ d.1) && decide (d.1 ≤ 160)) = !(decide (d.1 < 127) || decide (160 < d.1)) := by
      rw [Bool.eq_iff_iff]; simp
    simp [e, e1]

theorem right_end {s : ByteArray} {pos : Nat} {done : List (Nat × Nat)} (h : Part s pos done) (hp : ¬ pos < s.size) (hd : done.length ≤ 12) (ha : done.all plainB = true) : keyRight s = decide (0 < done.length) := by
  unfold keyRight; rw [h.done hp, ha]; simp [hd]; omega
theorem right_no {s : ByteArray} {pos : Nat} {done : List (Nat × Nat)} (h : Part s pos done) (hp : pos < s.size) (hb : 12 ≤ done.length ∨ plainB (Utf8.decode s pos) = false) : keyRight s = false := by
  unfold keyRight
  rcases hb with hb | hb
  · have := h.more hp
    have : ¬ (runes s).length ≤ 12 := by omega
    simp [this]
  · have : (runes s).all plainB = false := by rw [h.all, rest_cons s pos hp]; simp [hb]
    simp [this]
set_option maxHeartbeats 1000000 in
theorem right_any (s : ByteArray) (hs : s.size ≤ lim) (w : World) : Calls Tryd.prog 96 #[.string s] w fun e w' => e = .returned (.bool (keyRight s)) ∧ Below w.heap.size w w' := by
  have hsl := hs
  unfold lim at hs
  go_enter Tryd.func96, Tryd.ntmps96
  go_wp2
  go_loopw [3] (fun n w' => ∃ (pos : Nat) (done : List (Nat × Nat)), w' = w.iter s pos ∧ n = .int .i64 (done.length : Int) ∧ Part s pos done ∧ done.length ≤ 12 ∧ done.all plainB = true) (fun _ w' => s.size - w'.iterPos w.heap.size)
  case atStart => exact ⟨0, [], rfl, rfl, Part.start s, by simp, rfl⟩
  case round =>
    obtain ⟨pos, done, rfl, rfl, hp, hd, ha⟩ := hrel
    by_cases hlt : pos < s.size
    · have hps := Lib.hid (plain_split s pos hlt)
      have hno := Lib.hid (right_no hp hlt)
      have hnxt := Lib.hid (hp.next hlt)
      have hHA := Lib.hid ha
      have hw := dec_width s pos hlt
      have hsub : (s.extract pos s.size).size ≤ lim := by simp; omega
      have hpz : pos ≤ s.size := by omega
      clear ha hp
      have hnx : ∀ ty, (Instr.next (.pointer (some ⟨w.heap.size, 0, none⟩)) true ty).run Tryd.prog (w.iter s pos) = _ := fun ty => run_next_any w s pos ty hlt
      generalize Utf8.decode s pos = d at hps hno hnxt hw hnx
      have HS := Lib.hid (fun w => stands_any d.1 _ hsub w)
      have HR := Lib.hid (fun w => rightRune_any d.1 w)
      generalize hb1 : rr d.1 = b1 at HR
      generalize hb2 : (!decide (d.1 = 65533) || begins (s.extract pos s.size)) = b2 at HS
      have hpl : Hid (plainB d = (b1 && b2)) := by rw [← hb1, ← hb2]; exact hps.out
      clear hps hb1 hb2 hsub
      by_cases h12 : 12 ≤ done.length
      · have hx := Lib.hid (hno.out (.inl h12))
        have h13 : (12 : Int) < (done.length : Int) + 1 := by omega
        go_wp2
        go_ret
        exact ⟨by rw [hx.out]; rfl, iter_below w s _⟩
      · have h13 : ¬ (12 : Int) < (done.length : Int) + 1 := by omega
        cases b1 with
        | false =>
          have hx := Lib.hid (hno.out (.inr (by rw [hpl.out]; rfl)))
          go_wp2_with (first
            | (go_at_call 105; (with_reducible refine (HR.out _).mono ?_); rintro e w2 ⟨rfl, rfl⟩)
            | (go_at_call 106; (with_reducible refine (HS.out _).mono ?_); rintro e w2 ⟨rfl, rfl⟩))
          go_ret
          exact ⟨by rw [hx.out]; rfl, iter_below w s _⟩
        | true =>
          cases b2 with
          | false =>
            have hx := Lib.hid (hno.out (.inr (by rw [hpl.out]; rfl)))
            go_wp2_with (first
              | (go_at_call 105; (with_reducible refine (HR.out _).mono ?_); rintro e w2 ⟨rfl, rfl⟩)
              | (go_at_call 106; (with_reducible refine (HS.out _).mono ?_); rintro e w2 ⟨rfl, rfl⟩))
            go_ret
            exact ⟨by rw [hx.out]; rfl, iter_below w s _⟩
          | true =>
            have hpl2 := Lib.hid (show plainB d = true by rw [hpl.out]; rfl)
            go_wp2_with (first
              | (go_at_call 105; (with_reducible refine (HR.out _).mono ?_); rintro e w2 ⟨rfl, rfl⟩)
              | (go_at_call 106; (with_reducible refine (HS.out _).mono ?_); rintro e w2 ⟨rfl, rfl⟩))
            go_roundw
            case rel => exact ⟨_, _, rfl, by simp, hnxt.out, by simp; omega, by rw [List.all_append, hHA.out]; simp [hpl2.out]⟩
            case measure => simp; omega
    · have hnx : ∀ ty, (Instr.next (.pointer (some ⟨w.heap.size, 0, none⟩)) true ty).run Tryd.prog (w.iter s pos) = _ := fun ty => run_next_end w s pos ty hlt
      have hr := Lib.hid (right_end hp hlt hd ha)
      clear ha hp
      go_wp2
      go_ret
      exact ⟨by rw [hr.out]; simp, iter_below w s pos⟩
end Go.Proofs.YtligapgjdpdihaaDoor.Keys
