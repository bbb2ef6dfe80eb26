/-
  What crc.Put and crc.Get answer, for every argument.
-/
import Derived.Test.YtcmjambbdfangaaGreatCrc
import Derived.Laws.BytesArg
import Derived.Deep.QuietTactic
import Derived.BigQuiet
import Derived.WalkSmall
set_option linter.unusedVariables false
set_option linter.unusedSimpArgs false
namespace Go.Proofs.YtcmjambbdfangaaGreat.Crc
open Go.RowKit
open CrcM (W)
/-- one call behind another: what was there is as it was -/
theorem bel0 {a w1 w2 : World} (h : Below a.heap.size a w1) (k : Below w1.heap.size w1 w2) : Below a.heap.size a w2 := h.trans (k.mono h.size)
theorem bel1 {a w1 w2 : World} {o : Obj} (h : Below a.heap.size a w1) (k : Below (w1.alloc o).heap.size (w1.alloc o) w2) : Below a.heap.size a w2 := bel0 (h.alloc h.size o) k
theorem belD {w w' : World} (h : ∃ n, w' = w.drewN n) : Below w.heap.size w w' := by
  obtain ⟨n, rfl⟩ := h; exact below_drewN (Below.refl _ _) n
theorem word_of {c : Int} (h : (Lit.int .u32 c).wf = true) : ∃ x : W, c = vl x := by
  have : 0 ≤ c ∧ c ≤ 4294967295 := by simpa [Lit.wf, IntKind.min, IntKind.max, IntKind.signed, IntKind.bits] using h
  exact ⟨wd c, (vl_wd this.1 this.2).symm⟩
theorem byte_of {b : Int} (h : (Lit.int .u8 b).wf = true) : 0 ≤ b ∧ b ≤ 255 := by
  simpa [Lit.wf, IntKind.min, IntKind.max, IntKind.signed, IntKind.bits] using h
theorem int_of {b : Int} (h : (Lit.int .i64 b).wf = true) : -9223372036854775808 ≤ b ∧ b ≤ 9223372036854775807 := by
  simpa [Lit.wf, IntKind.min, IntKind.max, IntKind.signed, IntKind.bits] using h
/-- a word's four bytes as a text -/
def putS (x : W) : ByteArray := ⟨(CrcM.put x.toNat).toArray⟩
theorem putS_nums (x : W) : strOfNums [vl x % 256, vl x / 256 % 256, vl x / 65536 % 256, vl x / 16777216] = putS x := by
  have := x.isLt
  unfold strOfNums putS CrcM.put vl
  simp only [List.map_cons, List.map_nil]
  rw [show ((x.toNat : Int) % 256).toNat = x.toNat % 256 by omega, show ((x.toNat : Int) / 256 % 256).toNat = x.toNat / 256 % 256 by omega, show ((x.toNat : Int) / 65536 % 256).toNat = x.toNat / 65536 % 256 by omega,
    show ((x.toNat : Int) / 16777216).toNat = x.toNat / 16777216 % 256 by omega]
theorem four_cells (w : World) (a b c d : Int) (t : TypeId) : ∀ i, i < 4 → (w.alloc (.cells #[.int .u8 a, .int .u8 b, .int .u8 c, .int .u8 d] t)).cell? ⟨w.heap.size, 0 + i, none⟩ = some (.int .u8 ([a, b, c, d].getD i 0)) := by
  intro i hi
  match i, hi with
  | 0, _ => simp
  | 1, _ => simp
  | 2, _ => simp
  | 3, _ => simp
theorem put_any (x : W) (w : World) :
    Calls Tryz.prog 67 #[.int .u32 (vl x)] w fun e w' => e = .returned (.string (putS x)) ∧ Below w.heap.size w w' := by
  have hx := vl_range x
  have hcv := run_convert_bytes_arg (P := Tryz.prog) (w.alloc (.cells #[.int .u8 (vl x % 256), .int .u8 (vl x / 256 % 256), .int .u8 (vl x / 65536 % 256), .int .u8 (vl x / 16777216)] 5)) 55 5
    Tryz.underlying55 Tryz.underlying5 w.heap.size 0 4 4 [vl x % 256, vl x / 256 % 256, vl x / 65536 % 256, vl x / 16777216] rfl (four_cells _ _ _ _ _ _) 9 Tryz.underlying9
  rw [putS_nums] at hcv
  go_enter Tryz.func67, Tryz.ntmps67
  go_wp2
  go_ret
  exact ⟨rfl, by go_grown⟩
theorem get_neg (b : ByteArray) (at_ : Int) (h : at_ < 0) (w : World) :
    Calls Tryz.prog 98 #[.string b, .int .i64 at_] w fun e w' => e = .returned (.tuple #[.int .u32 0, .bool false]) ∧ w = w' := by
  go_enter Tryz.func98, Tryz.ntmps98
  go_wp2
  go_ret2
  exact ⟨rfl, rfl⟩
theorem get_few (b : ByteArray) (hs : b.size ≤ maxLen) (at_ : Int) (h0 : 0 ≤ at_) (h1 : at_ ≤ 9223372036854775807) (h : (b.size : Int) - at_ < 4) (w : World) :
    Calls Tryz.prog 98 #[.string b, .int .i64 at_] w fun e w' => e = .returned (.tuple #[.int .u32 0, .bool false]) ∧ w = w' := by
  unfold maxLen at hs
  have hd : decide (at_ < 0) = false := by simpa using h0
  go_enter Tryz.func98, Tryz.ntmps98
  go_wp2
  go_ret2
  exact ⟨rfl, rfl⟩
/-- four bytes as a number, the lowest first -/
def le4 (l : List UInt8) (k : Nat) : Int := (l.getD k 0).toNat + 256 * (l.getD (k + 1) 0).toNat + 65536 * (l.getD (k + 2) 0).toNat + 16777216 * (l.getD (k + 3) 0).toNat
theorem getD_byte (b : ByteArray) (k : Nat) (h : k < b.size) : b.data.toList.getD k 0 = b[k] := by
  have : k < b.data.toList.length := by simpa using h
  rw [List.getD, List.getElem?_eq_getElem this]; rfl
theorem or4 (a b c d : UInt8) : bits BinOp.or IntKind.u32 (bits BinOp.or IntKind.u32 (bits BinOp.or IntKind.u32 ((a.toNat : Int) % 4294967296) ((b.toNat : Int) % 4294967296 * 256 % 4294967296)) ((c.toNat : Int) % 4294967296 * 65536 % 4294967296))
    ((d.toNat : Int) % 4294967296 * 16777216 % 4294967296) = a.toNat + 256 * b.toNat + 65536 * c.toNat + 16777216 * d.toNat := by
  have ha := a.toNat_lt; have hb := b.toNat_lt; have hc := c.toNat_lt; have hd := d.toNat_lt
  have e0 : (a.toNat : Int) % 4294967296 = (a.toNat : Int) := by omega
  have e1 : (b.toNat : Int) % 4294967296 * 256 % 4294967296 = ((b.toNat * 256 : Nat) : Int) := by omega
  have e2 : (c.toNat : Int) % 4294967296 * 65536 % 4294967296 = ((c.toNat * 65536 : Nat) : Int) := by omega
  have e3 : (d.toNat : Int) % 4294967296 * 16777216 % 4294967296 = ((d.toNat * 16777216 : Nat) : Int) := by omega
  rw [e0, e1, e2, e3, u32_or_nat _ _ (by omega) (by omega)]
  have j1 : a.toNat ||| b.toNat * 256 = b.toNat * 256 + a.toNat := by rw [Nat.or_comm]; exact nat_join 8 _ _ (by omega) (by omega)
  rw [j1, u32_or_nat _ _ (by omega) (by omega)]
  have j2 : (b.toNat * 256 + a.toNat) ||| c.toNat * 65536 = c.toNat * 65536 + (b.toNat * 256 + a.toNat) := by rw [Nat.or_comm]; exact nat_join 16 _ _ (by omega) (by omega)
  rw [j2, u32_or_nat _ _ (by omega) (by omega)]
  have j3 : (c.toNat * 65536 + (b.toNat * 256 + a.toNat)) ||| d.toNat * 16777216 = d.toNat * 16777216 + (c.toNat * 65536 + (b.toNat * 256 + a.toNat)) := by rw [Nat.or_comm]; exact nat_join 24 _ _ (by omega) (by omega)
  rw [j3]; omega
theorem or4_le (b : ByteArray) (k : Nat) (h0 : k < b.size) (h1 : k + 1 < b.size) (h2 : k + 2 < b.size) (h3 : k + 3 < b.size) :
    bits BinOp.or IntKind.u32 (bits BinOp.or IntKind.u32 (bits BinOp.or IntKind.u32 ((b[k].toNat : Int) % 4294967296) ((b[k + 1].toNat : Int) % 4294967296 * 256 % 4294967296)) ((b[k + 2].toNat : Int) % 4294967296 * 65536 % 4294967296))
    ((b[k + 3].toNat : Int) % 4294967296 * 16777216 % 4294967296) = le4 b.data.toList k := by
  rw [or4]; unfold le4; rw [getD_byte b k h0, getD_byte b _ h1, getD_byte b _ h2, getD_byte b _ h3]
theorem ret_pair {a b : Int} (h : a = b) (t : Bool) : Ending.returned (.tuple #[.int .u32 a, .bool t]) = .returned (.tuple #[.int .u32 b, .bool t]) := by rw [h]
theorem get_yes (b : ByteArray) (hs : b.size ≤ maxLen) (k : Nat) (h : k + 4 ≤ b.size) (w : World) :
    Calls Tryz.prog 98 #[.string b, .int .i64 k] w fun e w' => e = .returned (.tuple #[.int .u32 (le4 b.data.toList k), .bool true]) ∧ ∃ n, w' = w.drewN n := by
  unfold maxLen at hs
  have hd : decide ((k : Int) < 0) = false := by simp
  have hd : decide ((b.size : Int) - k < 4) = false := by simp; omega
  have g0 : k < b.size := by omega
  have g1 : k + 1 < b.size := by omega
  have g2 : k + 2 < b.size := by omega
  have g3 : k + 3 < b.size := by omega
  have l0 : (k : Int) < (b.size : Int) := by omega
  have l1 : (k : Int) + 1 < (b.size : Int) := by omega
  have l2 : (k : Int) + 2 < (b.size : Int) := by omega
  have l3 : (k : Int) + 3 < (b.size : Int) := by omega
  have w1 : IntKind.i64.wrap ((k : Int) + 1) = (k : Int) + 1 := IntWalk.i64_in _ (by omega)
  have w2 : IntKind.i64.wrap ((k : Int) + 2) = (k : Int) + 2 := IntWalk.i64_in _ (by omega)
  have w3 : IntKind.i64.wrap ((k : Int) + 3) = (k : Int) + 3 := IntWalk.i64_in _ (by omega)
  have n1 : 0 ≤ (k : Int) + 1 := by omega
  have n2 : 0 ≤ (k : Int) + 2 := by omega
  have n3 : 0 ≤ (k : Int) + 3 := by omega
  have t1 : ((k : Int) + 1).toNat = k + 1 := by omega
  have t2 : ((k : Int) + 2).toNat = k + 2 := by omega
  have t3 : ((k : Int) + 3).toNat = k + 3 := by omega
  go_enter Tryz.func98, Tryz.ntmps98
  go_wp2
  go_quiet (fail)
  go_wp2
  go_ret2
  exact ⟨ret_pair (or4_le b k g0 g1 g2 g3) true, nq, rfl⟩
/-- a text alone -/
theorem sum_one (s : ByteArray) (b cap : Nat) (w : World) (hs : s.size ≤ maxLen) (hc : w.cell? ⟨b, 0, none⟩ = some (.string s)) :
    Calls Tryz.prog 68 #[.slice (some ⟨b, 0, none⟩) 1 cap] w fun e w' => e = .returned (.int .u32 (sumOf s.data.toList)) ∧ w = w' := by
  have := sum_any [s] b 0 cap w (by simp [maxLen]) (fun i hi => by
    have : i = 0 := by simpa using hi
    subst this; exact hs) (fun i hi => by
    have : i = 0 := by simpa using hi
    subst this; exact hc)
  have e : bytesOf [s] = s.data.toList := by simp [bytesOf]
  rw [e] at this; exact this
/-- two texts, one behind the other -/
theorem sum_two (s t : ByteArray) (b cap : Nat) (w : World) (hs : s.size ≤ maxLen) (ht : t.size ≤ maxLen) (hc : w.cell? ⟨b, 0, none⟩ = some (.string s)) (hd : w.cell? ⟨b, 1, none⟩ = some (.string t)) :
    Calls Tryz.prog 68 #[.slice (some ⟨b, 0, none⟩) 2 cap] w fun e w' => e = .returned (.int .u32 (sumOf (s.data.toList ++ t.data.toList))) ∧ w = w' := by
  have := sum_any [s, t] b 0 cap w (by simp [maxLen]) (fun i hi => by
    have : i = 0 ∨ i = 1 := by simp at hi; omega
    rcases this with rfl | rfl
    · exact hs
    · exact ht) (fun i hi => by
    have : i = 0 ∨ i = 1 := by simp at hi; omega
    rcases this with rfl | rfl
    · exact hc
    · exact hd)
  have e : bytesOf [s, t] = s.data.toList ++ t.data.toList := by simp [bytesOf]
  rw [e] at this; exact this
theorem known : sumOf [49, 50, 51, 52, 53, 54, 55, 56, 57] = 3421780262 := by
  have : CrcM.sum [49, 50, 51, 52, 53, 54, 55, 56, 57] = 3421780262#32 := by decide +kernel
  unfold sumOf; rw [this]; rfl
theorem sum_known (b cap : Nat) (w : World) (hc : w.cell? ⟨b, 0, none⟩ = some (.string ⟨#[49, 50, 51, 52, 53, 54, 55, 56, 57]⟩)) :
    Calls Tryz.prog 68 #[.slice (some ⟨b, 0, none⟩) 1 cap] w fun e w' => e = .returned (.int .u32 3421780262) ∧ w = w' := by
  have := sum_one _ b cap w (by simp [maxLen, ByteArray.size]) hc
  rw [show sumOf (ByteArray.mk #[49, 50, 51, 52, 53, 54, 55, 56, 57]).data.toList = 3421780262 from known] at this; exact this
theorem put_one (w : World) : Calls Tryz.prog 67 #[.int .u32 1] w fun e w' => e = .returned (.string ⟨#[1, 0, 0, 0]⟩) ∧ Below w.heap.size w w' := by
  have := put_any 1#32 w
  rw [show vl 1#32 = 1 from rfl, show putS 1#32 = ⟨#[1, 0, 0, 0]⟩ by decide +kernel] at this; exact this
end Go.Proofs.YtcmjambbdfangaaGreat.Crc
