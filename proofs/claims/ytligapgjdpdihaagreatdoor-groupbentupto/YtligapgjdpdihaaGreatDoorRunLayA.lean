/-
  Joined texts: LayA, LayB, LayC, LayD.
-/
import Derived.Test.YtligapgjdpdihaaGreatDoorOwn
import Derived.Test.YtligapgjdpdihaaGreatDoorLayMath
import Derived.Test.YtligapgjdpdihaaGreatDoorBytes
import Derived.WalkSmall
/-
  What Num answers, package lay's and the document's own, for every number.
-/
set_option linter.unusedVariables false
set_option linter.unusedSimpArgs false
namespace Go.Proofs.YtligapgjdpdihaaGreatDoor.Lay
open Go.RowKit
open LayM Own

theorem infoU8 : (Tryz.prog.info? 5).map (fun i => (i.zero, i.size, i.bytes)) = some (some (.int .u8 0), 1, 1) := by kernel_rfl
/-- bytes as values -/
def u8s (l : List UInt8) : List Value := l.map fun c => .int .u8 (c.toNat : Int)
theorem u8s_snoc (l : List UInt8) (c : UInt8) : u8s (l ++ [c]) = u8s l ++ [.int .u8 (c.toNat : Int)] := by simp [u8s]
theorem u8s_length (l : List UInt8) : (u8s l).length = l.length := by simp [u8s]
/-- a number's bytes, as a row, as a text -/
def numFU (f v : Nat) : List UInt8 := (numF f v).map UInt8.ofNat
def numU (v : Nat) : List UInt8 := numFU 4 v
def numS (v : Nat) : ByteArray := ⟨(numU v).toArray⟩
theorem numFU_small {f x : Nat} (h : x < 128) : numFU f x = [UInt8.ofNat x] := by
  cases f with
  | zero => rfl
  | succ f => simp [numFU, numF, h]
theorem numFU_great {f x : Nat} (h : ¬ x < 128) : numFU (f + 1) x = UInt8.ofNat (x % 128 + 128) :: numFU f (x / 128) := by
  simp [numFU, numF, h]
theorem ofNat_toNat {c : Nat} (h : c < 256) : ((UInt8.ofNat c).toNat : Int) = (c : Int) := by
  rw [UInt8.toNat_ofNat', Nat.mod_eq_of_lt h]
theorem or128 (x : Nat) : bits .or .u8 ((x : Int) % 256) 128 = ((x % 128 + 128 : Nat) : Int) := by
  have := u8_or_nat (x % 256) 128 (by omega) (by decide)
  rw [show ((x % 256 : Nat) : Int) = (x : Int) % 256 by omega] at this
  rw [show ((128 : Nat) : Int) = 128 from rfl] at this
  rw [this]
  have h1 : x % 256 = (x / 128 % 2) * 128 + x % 128 := by omega
  have h2 : (x / 128 % 2) * 128 ||| 128 = 128 := by
    rcases (show x / 128 % 2 = 0 ∨ x / 128 % 2 = 1 by omega) with h | h <;> rw [h] <;> decide
  have h3 : (x / 128 % 2) * 128 ||| x % 128 = (x / 128 % 2) * 128 + x % 128 := nat_join 7 _ _ (by omega) (by omega)
  have h4 : 128 ||| x % 128 = 128 + x % 128 := nat_join 7 128 (x % 128) (by omega) (by omega)
  rw [h1, ← h3, Nat.or_assoc, Nat.or_comm (x % 128) 128, ← Nat.or_assoc, h2, h4]
  congr 1; omega
theorem _root_.Go.Proofs.YtligapgjdpdihaaGreatDoor.Own.Mine.text {w : World} {base : Nat} {g n cap : Nat} {l : List UInt8} (h : Mine w base 5 (.slice (some ⟨g, 0, none⟩) n cap) (u8s l)) (hn : n = l.length) :
    (convert 77 9 (.slice (some ⟨g, 0, none⟩) n cap)).run Tryz.prog w = .ok (.string ⟨l.toArray⟩) w := by
  subst hn
  refine run_convert_bytes_back (P := Tryz.prog) w 77 9 5 ⟨g, 0, none⟩ cap l Tryz.underlying77 Tryz.underlying5 Tryz.underlying9 (fun j hj => ?_)
  obtain ⟨a, c, he, hl | ⟨g', ha, hc⟩⟩ := h.row
  · have : l = [] := by simpa [u8s] using hl
    subst this; simp at hj
  · simp only [Value.slice.injEq] at he
    rw [ha] at he
    obtain rfl : g = g' := by simpa using he.1
    rw [show (⟨g, 0, none⟩ : Addr).add j = ⟨g, j, none⟩ by unfold Addr.add; split <;> simp_all]
    exact hc j _ (by simp [u8s, hj])
theorem own_snoc {w : World} {base : Nat} {v : Value} {l : List UInt8} {c : Nat} (h : Mine w base 5 v (u8s l ++ [.int .u8 (c : Int)])) (hc : c < 256) : Mine w base 5 v (u8s (l ++ [UInt8.ofNat c])) := by
  rw [u8s_snoc, ofNat_toNat hc]; exact h
theorem text_snoc {w : World} {base : Nat} {g n cap : Nat} {l : List UInt8} {c : Nat} (h : Mine w base 5 (.slice (some ⟨g, 0, none⟩) n cap) (u8s l ++ [.int .u8 (c : Int)])) (hc : c < 256) (hn : n = (u8s l).length + 1) :
    (convert 77 9 (.slice (some ⟨g, 0, none⟩) n cap)).run Tryz.prog w = .ok (.string ⟨(l ++ [UInt8.ofNat c]).toArray⟩) w :=
  (own_snoc h hc).text (by rw [hn, u8s_length]; simp)
/-- what holds at the head of a round -/
structure NumAt (v : Nat) (w : World) (b : Value) (f x : Nat) (done : List UInt8) (wr : World) : Prop where
  all : numU v = done ++ numFU f x
  lt : x < 16 * 128 ^ f
  len : done.length + f = 4
  own : Mine wr w.heap.size 5 b (u8s done)
  below : Below w.heap.size w wr
theorem lt_step {f x : Nat} (h : x < 16 * 128 ^ (f + 1)) : x / 128 < 16 * 128 ^ f := by
  rw [Nat.pow_succ, ← Nat.mul_assoc] at h
  exact Nat.div_lt_of_lt_mul (by rw [Nat.mul_comm]; exact h)
theorem lt_u32 {f x : Nat} (h : x < 16 * 128 ^ f) (hf : f ≤ 4) : x < 4294967296 := by
  have h1 : 16 * 128 ^ f ≤ 16 * 128 ^ 4 := Nat.mul_le_mul_left _ (Nat.pow_le_pow_right (by omega) hf)
  have h2 : 16 * 128 ^ 4 = 4294967296 := by decide
  omega

set_option maxRecDepth 100000 in
set_option maxHeartbeats 2000000 in
theorem num_any (v : Nat) (hv : v < 4294967296) (w : World) : Calls Tryz.prog 60 #[.int .u32 (v : Int)] w fun e w' => e = .returned (.string (numS v)) ∧ Below w.heap.size w w' := by
  go_enter Tryz.func60, Tryz.ntmps60
  go_wp2
  go_loopw [0, 3] (fun x b wr => ∃ f n done, x = .int .u32 ((n : Nat) : Int) ∧ NumAt v w b f n done wr) (fun x _ _ => (intOf x).toNat)
  case atStart => exact ⟨4, v, [], rfl, ⟨rfl, by rw [show 16 * 128 ^ 4 = 4294967296 by decide]; exact hv, rfl, Mine.nil _ _ _, Below.refl _ _⟩⟩
  case round =>
    obtain ⟨f, n, done, rfl, hall, hlt, hlen, hown, hbel⟩ := hrel
    have hn := lt_u32 hlt (by omega)
    have hbs := hbel.size
    have hul := u8s_length done
    have b1 : ((u8s done).length + 1) * 1 ≤ 140737488355328 := by omega
    have b2 : (u8s done).length + 1 ≤ maxLen := by simp only [maxLen]; omega
    have HN := Lib.hid hall
    have HL := Lib.hid hlt
    have HO := Lib.hid hown
    have HB := Lib.hid hbel
    have HU := Lib.hid hul
    clear hall hlt hul hbel
    by_cases hsm : n < 128
    · have HS := Lib.hid (numFU_small (f := f) hsm)
      have hw : IntKind.u8.wrap (n : Int) = (n : Int) := IntWalk.u8_in _ (by omega)
      go_wp2_with (at_builtin; (refine append_one rfl _ _ 77 rfl w.heap.size 5 (.int .u8 0) 1 Tryz.underlying77 infoU8 rfl u3 (u8s done) rfl (Mine.alloc hown _) wr.heap.size (.int .u8 (n : Int)) rfl ?c1 rfl b1 b2 ?c2 ?_); (case c1 => simp); (case c2 => (simp; omega)); intro g cap w2 hown2 hgrow2 hat2 hlt2; have hcv := text_snoc hown2 (by omega) rfl)
      go_ret
      have hbel2 := below_append (HB.out.alloc hbs (.cells #[.int .u8 (n : Int)] 5)) hgrow2 (by simp; omega) (fun k hk => (hown.lt k hk).2)
      exact ⟨by rw [numS, HN.out, HS.out]; rfl, hbel2⟩
    · obtain ⟨f, rfl⟩ : ∃ k, f = k + 1 := ⟨f - 1, by have := HL.out; cases f with | zero => simp at this; omega | succ k => rfl⟩
      have HS := Lib.hid (numFU_great (f := f) hsm)
      have hor := or128 n
      go_wp2_with (at_builtin; (refine append_one rfl _ _ 77 rfl w.heap.size 5 (.int .u8 0) 1 Tryz.underlying77 infoU8 rfl u3 (u8s done) rfl (Mine.alloc hown _) wr.heap.size (.int .u8 ((n % 128 + 128 : Nat) : Int)) rfl ?c1 rfl b1 b2 ?c2 ?_); (case c1 => simp); (case c2 => (simp; omega)); intro g cap w2 hown2 hgrow2 hat2 hlt2)
      have hbel2 := below_append (HB.out.alloc hbs (.cells #[.int .u8 ((n % 128 + 128 : Nat) : Int)] 5)) hgrow2 (by simp; omega) (fun k hk => (hown.lt k hk).2)
      go_roundw
      case rel => exact ⟨f, n / 128, done ++ [UInt8.ofNat (n % 128 + 128)], by go_num, ⟨by rw [HN.out, HS.out]; simp, lt_step HL.out, by simp; omega, own_snoc hown2 (by omega), hbel2⟩⟩
      case measure => simp [intOf]; omega
set_option maxRecDepth 100000 in
set_option maxHeartbeats 2000000 in
theorem refNum_any (v : Nat) (hv : v < 4294967296) (w : World) : Calls Tryz.prog 53 #[.int .u32 (v : Int)] w fun e w' => e = .returned (.string (numS v)) ∧ Below w.heap.size w w' := by
  go_enter Tryz.func53, Tryz.ntmps53
  go_wp2
  go_loopw [0, 3] (fun x b wr => ∃ f n done, x = .int .u32 ((n : Nat) : Int) ∧ NumAt v w b f n done wr) (fun x _ _ => (intOf x).toNat)
  case atStart => exact ⟨4, v, [], rfl, ⟨rfl, by rw [show 16 * 128 ^ 4 = 4294967296 by decide]; exact hv, rfl, Mine.nil _ _ _, Below.refl _ _⟩⟩
  case round =>
    obtain ⟨f, n, done, rfl, hall, hlt, hlen, hown, hbel⟩ := hrel
    have hn := lt_u32 hlt (by omega)
    have hbs := hbel.size
    have hul := u8s_length done
    have b1 : ((u8s done).length + 1) * 1 ≤ 140737488355328 := by omega
    have b2 : (u8s done).length + 1 ≤ maxLen := by simp only [maxLen]; omega
    have HN := Lib.hid hall
    have HL := Lib.hid hlt
    have HO := Lib.hid hown
    have HB := Lib.hid hbel
    have HU := Lib.hid hul
    clear hall hlt hul hbel
    by_cases hsm : n < 128
    · have HS := Lib.hid (numFU_small (f := f) hsm)
      have hw : IntKind.u8.wrap (n : Int) = (n : Int) := IntWalk.u8_in _ (by omega)
      go_wp2_with (at_builtin; (refine append_one rfl _ _ 77 rfl w.heap.size 5 (.int .u8 0) 1 Tryz.underlying77 infoU8 rfl u3 (u8s done) rfl (Mine.alloc hown _) wr.heap.size (.int .u8 (n : Int)) rfl ?c1 rfl b1 b2 ?c2 ?_); (case c1 => simp); (case c2 => (simp; omega)); intro g cap w2 hown2 hgrow2 hat2 hlt2; have hcv := text_snoc hown2 (by omega) rfl)
      go_ret
      have hbel2 := below_append (HB.out.alloc hbs (.cells #[.int .u8 (n : Int)] 5)) hgrow2 (by simp; omega) (fun k hk => (hown.lt k hk).2)
      exact ⟨by rw [numS, HN.out, HS.out]; rfl, hbel2⟩
    · obtain ⟨f, rfl⟩ : ∃ k, f = k + 1 := ⟨f - 1, by have := HL.out; cases f with | zero => simp at this; omega | succ k => rfl⟩
      have HS := Lib.hid (numFU_great (f := f) hsm)
      have hw : IntKind.u8.wrap ((n : Int) % 128) = (n : Int) % 128 := IntWalk.u8_in _ (by omega)
      go_wp2_with (at_builtin; (refine append_one rfl _ _ 77 rfl w.heap.size 5 (.int .u8 0) 1 Tryz.underlying77 infoU8 rfl u3 (u8s done) rfl (Mine.alloc hown _) wr.heap.size (.int .u8 ((n % 128 + 128 : Nat) : Int)) rfl ?c1 rfl b1 b2 ?c2 ?_); (case c1 => simp); (case c2 => (simp; omega)); intro g cap w2 hown2 hgrow2 hat2 hlt2)
      have hbel2 := below_append (HB.out.alloc hbs (.cells #[.int .u8 ((n % 128 + 128 : Nat) : Int)] 5)) hgrow2 (by simp; omega) (fun k hk => (hown.lt k hk).2)
      go_roundw
      case rel => exact ⟨f, n / 128, done ++ [UInt8.ofNat (n % 128 + 128)], by go_num, ⟨by rw [HN.out, HS.out]; simp, lt_step HL.out, by simp; omega, own_snoc hown2 (by omega), hbel2⟩⟩
      case measure => simp [intOf]; omega
end Go.Proofs.YtligapgjdpdihaaGreatDoor.Lay
/-
  What GetNum answers, package lay's and the document's own, for every text and place.
-/
set_option linter.unusedVariables false
set_option linter.unusedSimpArgs false
namespace Go.Proofs.YtligapgjdpdihaaGreatDoor.Lay
open Go.RowKit
open LayM Own

/-- a text's bytes as numbers -/
def nb (s : ByteArray) : List Nat := s.data.toList.map UInt8.toNat
theorem nb_length (s : ByteArray) : (nb s).length = s.size := by simp [nb]
theorem nb_drop (s : ByteArray) (k : Nat) (h : k < s.size) : (nb s).drop k = s[k].toNat :: (nb s).drop (k + 1) := by
  rw [List.drop_eq_getElem_cons (by rw [nb_length]; exact h)]; simp [nb]; rfl
theorem nb_end (s : ByteArray) (k : Nat) (h : s.size ≤ k) : (nb s).drop k = [] := List.drop_of_length_le (by rw [nb_length]; exact h)
theorem nb_lt (s : ByteArray) : ∀ c ∈ nb s, c < 256 := by
  intro c hc; simp only [nb, List.mem_map] at hc; obtain ⟨x, _, rfl⟩ := hc; exact x.toNat_lt
/-- what is told: a number, the place behind, a code -/
def toldN (at_ : Nat) : R → Nat × Nat × Nat
  | .ok v n => (v, at_ + n, 0)
  | .short => (0, 0, 3)
  | .form => (0, 0, 2)
def getN (s : ByteArray) (at_ : Int) : Nat × Nat × Nat := if at_ < 0 ∨ (s.size : Int) < at_ then (0, 0, 1) else toldN at_.toNat (gn ((nb s).drop at_.toNat))
def tupN (r : Nat × Nat × Nat) : Value := .tuple #[.int .u32 (r.1 : Int), .int .i64 (r.2.1 : Int), .int .i64 (r.2.2 : Int)]
theorem getN_out {s : ByteArray} {a : Int} (h : a < 0 ∨ (s.size : Int) < a) : getN s a = (0, 0, 1) := by unfold getN; rw [if_pos h]
theorem getN_in (s : ByteArray) {a : Nat} (h : a ≤ s.size) : getN s (a : Int) = toldN a (gn ((nb s).drop a)) := by unfold getN; rw [if_neg (by omega)]; rfl

theorem ret_bool {a b : Bool} (h : a = b) : Ending.returned (.bool a) = .returned (.bool b) := by rw [h]
def fitsB (c k : Nat) : Bool := (decide (k < 4) || decide (c ≤ 15)) && (decide (k = 0) || !decide (c = 0))
theorem fitsB_form {c k : Nat} (hk : k ≤ 4) : fitsB c k = false ↔ (k = 4 ∧ 15 < c) ∨ (c = 0 ∧ 0 < k) := by
  unfold fitsB
  rw [Bool.and_eq_false_iff, Bool.or_eq_false_iff, Bool.or_eq_false_iff]
  simp only [decide_eq_false_iff_not, Bool.not_eq_false', decide_eq_true_eq]
  omega
theorem step_form {c k n : Nat} {t : List Nat} (hk : k ≤ 4) (h : fitsB c k = false) : gnF (5 - k) k n k (c :: t) = .form := by
  rw [fitsB_form hk] at h
  rw [show 5 - k = (4 - k) + 1 by omega, gnF, if_pos h]
theorem step_last {c k n : Nat} {t : List Nat} (hk : k ≤ 4) (h : fitsB c k = true) (hc : c < 128) : gnF (5 - k) k n k (c :: t) = .ok (n + c % 128 * 128 ^ k) (k + 1) := by
  have h : ¬ ((k = 4 ∧ 15 < c) ∨ (c = 0 ∧ 0 < k)) := by rw [← fitsB_form hk, h]; simp
  rw [show 5 - k = (4 - k) + 1 by omega, gnF, if_neg h, if_pos hc]
theorem step_more {c k n : Nat} {t : List Nat} (hk : k ≤ 4) (h : fitsB c k = true) (hc : ¬ c < 128) : k < 4 ∧ gnF (5 - k) k n k (c :: t) = gnF (5 - (k + 1)) (k + 1) (n + c % 128 * 128 ^ k) (k + 1) t := by
  have h : ¬ ((k = 4 ∧ 15 < c) ∨ (c = 0 ∧ 0 < k)) := by rw [← fitsB_form hk, h]; simp
  refine ⟨by omega, ?_⟩
  rw [show 5 - k = (4 - k) + 1 by omega, gnF, if_neg h, if_neg hc, show 5 - (k + 1) = 4 - k by omega]
theorem step_short {k n : Nat} (hk : k ≤ 4) : gnF (5 - k) k n k [] = .short := by
  rw [show 5 - k = (4 - k) + 1 by omega, gnF]
theorem low_lt {c k : Nat} (hk : k ≤ 4) (h : fitsB c k = true) : c % 128 * 128 ^ k < 4294967296 := by
  have h : ¬ ((k = 4 ∧ 15 < c) ∨ (c = 0 ∧ 0 < k)) := by rw [← fitsB_form hk, h]; simp
  have : k = 0 ∨ k = 1 ∨ k = 2 ∨ k = 3 ∨ k = 4 := by omega
  rcases this with rfl | rfl | rfl | rfl | rfl <;> simp <;> omega
theorem low_next {c k n : Nat} (hn : n < 128 ^ k) : n + c % 128 * 128 ^ k < 128 ^ (k + 1) := by
  have h1 : (c % 128) * 128 ^ k ≤ 127 * 128 ^ k := Nat.mul_le_mul_right _ (by omega)
  rw [Nat.pow_succ]; omega
theorem or_shift {c k n : Nat} (hn : n < 128 ^ k) (hk : k ≤ 4) (h : fitsB c k = true) : bits .or .u32 (n : Int) ((c : Int) % 128 * 2 ^ (7 * k) % 4294967296) = ((n + c % 128 * 128 ^ k : Nat) : Int) := by
  have hl := low_lt hk h
  have hp : (128 : Nat) ^ k = 2 ^ (7 * k) := by rw [Nat.pow_mul]
  have hm : (c : Int) % 128 * 2 ^ (7 * k) % 4294967296 = ((c % 128 * 128 ^ k : Nat) : Int) := by
    rw [hp] at hl ⊢
    have e : (c : Int) % 128 * 2 ^ (7 * k) = ((c % 128 * 2 ^ (7 * k) : Nat) : Int) := by
      rw [Int.natCast_mul, Int.natCast_pow]; rfl
    rw [e]; omega
  have hn4 : n < 4294967296 := by
    have h1 : (128 : Nat) ^ k ≤ 128 ^ 4 := Nat.pow_le_pow_right (by omega) hk
    have h2 : (128 : Nat) ^ 4 = 268435456 := by decide
    omega
  rw [hm, u32_or_nat _ _ hn4 hl, Nat.or_comm, hp, ← Nat.shiftLeft_eq, ← Nat.shiftLeft_add_eq_or_of_lt (by rw [← hp]; exact hn), Nat.shiftLeft_eq, Nat.add_comm]
theorem ret_tup {a a' b b' c c' : Int} (h1 : a = a') (h2 : b = b') (h3 : c = c') : Ending.returned (.tuple #[.int .u32 a, .int .i64 b, .int .i64 c]) = .returned (.tuple #[.int .u32 a', .int .i64 b', .int .i64 c']) := by rw [h1, h2, h3]
theorem fits_any (c k : Nat) (w : World) : Calls Tryz.prog 78 #[.int .u8 (c : Int), .int .i64 (k : Int)] w fun e w' => e = .returned (.bool (fitsB c k)) ∧ w = w' := by
  by_cases h1 : k < 4 <;> by_cases h2 : c ≤ 15 <;> by_cases h3 : k = 0 <;> by_cases h4 : c = 0
  all_goals first | omega | skip
  all_goals (try subst h3); (try subst h4)
  all_goals
    go_enter Tryz.func78, Tryz.ntmps78
    go_wp2
    go_ret
    exact ⟨ret_bool (by unfold fitsB; simp [*] <;> omega), rfl⟩
set_option maxRecDepth 100000 in
set_option maxHeartbeats 2000000 in
theorem getNum_in (s : ByteArray) (hs : s.size ≤ maxLen) (a : Nat) (ha : a ≤ s.size) (w : World) : Calls Tryz.prog 46 #[.string s, .int .i64 (a : Int)] w fun e w' => e = .returned (tupN (getN s a)) ∧ w = w' := by
  unfold maxLen at hs
  have d1 : decide ((a : Int) < 0) = false := by simp
  have d2 : decide ((s.size : Int) < (a : Int)) = false := by simp; omega
  have d3 : decide (s.size < a) = false := by simp; omega
  have HG := Lib.hid (getN_in s ha)
  go_enter Tryz.func46, Tryz.ntmps46
  go_wp2
  go_loop [7, 22] (fun x i => ∃ k n : Nat, k ≤ 4 ∧ k ≤ s.size - a ∧ i = .int .i64 (k : Int) ∧ x = .int .u32 (n : Int) ∧ n < 128 ^ k ∧ gn ((nb s).drop a) = gnF (5 - k) k n k ((nb s).drop (a + k))) (fun _ i => s.size - a - (intOf i).toNat)
  case atStart => exact ⟨0, 0, by omega, by omega, rfl, rfl, by simp, rfl⟩
  case round =>
    obtain ⟨k, n, hk, hka, rfl, rfl, hn, hg⟩ := hrel
    have HK := Lib.hid hg
    have HN := Lib.hid hn
    clear hg hn
    by_cases hlt : k < s.size - a
    · have hi : a + k < s.size := by omega
      have HD := Lib.hid (nb_drop s (a + k) hi)
      have hc := s[a + k].toNat_lt
      generalize hcc : s[a + k].toNat = c at HD hc
      have HF := Lib.hid (fun w => fits_any c k w)
      by_cases hf : fitsB c k = true
      · rw [hf] at HF
        have HO := Lib.hid (or_shift HN.out hk hf)
        by_cases hl : c < 128
        · have HS := Lib.hid (step_last (n := n) (t := (nb s).drop (a + k + 1)) hk hf hl)
          go_wp2_with (go_at_call 78; (with_reducible refine (HF.out _).mono ?_); rintro e w' ⟨rfl, rfl⟩)
          go_ret3
          rw [HG.out, HK.out, HD.out, HS.out]
          exact ⟨ret_tup HO.out (by simp [toldN]; omega) rfl, rfl⟩
        · have HS := Lib.hid (step_more (n := n) (t := (nb s).drop (a + k + 1)) hk hf hl).2
          have hk4 := (step_more (n := n) (t := (nb s).drop (a + k + 1)) hk hf hl).1
          go_wp2_with (go_at_call 78; (with_reducible refine (HF.out _).mono ?_); rintro e w' ⟨rfl, rfl⟩)
          go_round
          case rel => exact ⟨k + 1, n + c % 128 * 128 ^ k, by omega, by omega, by go_num, by rw [HO.out], low_next HN.out, by rw [HK.out, HD.out, HS.out, Nat.add_assoc]⟩
          case measure => simp [intOf]; omega
      · have hf : fitsB c k = false := by simpa using hf
        rw [hf] at HF
        have HS := Lib.hid (step_form (n := n) (t := (nb s).drop (a + k + 1)) hk hf)
        go_wp2_with (go_at_call 78; (with_reducible refine (HF.out _).mono ?_); rintro e w' ⟨rfl, rfl⟩)
        go_ret3
        rw [HG.out, HK.out, HD.out, HS.out]
        exact ⟨rfl, rfl⟩
    · have HS := Lib.hid (step_short (n := n) hk)
      have HD := Lib.hid (nb_end s (a + k) (by omega))
      go_wp2
      go_ret3
      rw [HG.out, HK.out, HD.out, HS.out]
      exact ⟨rfl, rfl⟩
theorem getNum_any (s : ByteArray) (hs : s.size ≤ maxLen) (a : Int) (w : World) : Calls Tryz.prog 46 #[.string s, .int .i64 a] w fun e w' => e = .returned (tupN (getN s a)) ∧ w = w' := by
  by_cases h0 : a < 0
  · have HG := Lib.hid (getN_out (s := s) (.inl h0))
    have d1 : decide (a < 0) = true := by simpa using h0
    go_enter Tryz.func46, Tryz.ntmps46
    go_wp2
    go_ret3
    rw [HG.out]; exact ⟨rfl, rfl⟩
  · by_cases h1 : (s.size : Int) < a
    · have HG := Lib.hid (getN_out (s := s) (.inr h1))
      have d1 : decide (a < 0) = false := by simpa using h0
      have d2 : decide ((s.size : Int) < a) = true := by simpa using h1
      go_enter Tryz.func46, Tryz.ntmps46
      go_wp2
      go_ret3
      rw [HG.out]; exact ⟨rfl, rfl⟩
    · obtain ⟨k, rfl⟩ : ∃ k : Nat, a = k := ⟨a.toNat, by omega⟩
      exact getNum_in s hs k (by omega) w
set_option maxRecDepth 100000 in
set_option maxHeartbeats 4000000 in
theorem refGetNum_in (s : ByteArray) (hs : s.size ≤ maxLen) (a : Nat) (ha : a ≤ s.size) (w : World) : Calls Tryz.prog 50 #[.string s, .int .i64 (a : Int)] w fun e w' => e = .returned (tupN (getN s a)) ∧ w = w' := by
  unfold maxLen at hs
  have d1 : decide ((a : Int) < 0) = false := by simp
  have d2 : decide ((s.size : Int) < (a : Int)) = false := by simp; omega
  have d3 : decide (s.size < a) = false := by simp; omega
  have HG := Lib.hid (getN_in s ha)
  go_enter Tryz.func50, Tryz.ntmps50
  go_wp2
  go_loop [1, 7, 8] (fun p x i => ∃ k n : Nat, k ≤ 4 ∧ k ≤ s.size - a ∧ p = .int .i64 ((a + k : Nat) : Int) ∧ i = .int .i64 (k : Int) ∧ x = .int .u32 (n : Int) ∧ n < 128 ^ k ∧ gn ((nb s).drop a) = gnF (5 - k) k n k ((nb s).drop (a + k))) (fun _ _ i => 5 - (intOf i).toNat)
  case atStart => exact ⟨0, 0, by omega, by omega, rfl, rfl, rfl, by simp, rfl⟩
  case round =>
    obtain ⟨k, n, hk, hka, rfl, rfl, rfl, hn, hg⟩ := hrel
    have HK := Lib.hid hg
    have HN := Lib.hid hn
    clear hg hn
    by_cases hlt : k < s.size - a
    · have hi : a + k < s.size := by omega
      have hi' : ((a + k : Nat) : Int) < (s.size : Int) := by omega
      have HD := Lib.hid (nb_drop s (a + k) hi)
      have hc := s[a + k].toNat_lt
      have e5 : decide ((s.size : Int) ≤ ((a + k : Nat) : Int)) = false := by simp; omega
      generalize hcc : s[a + k].toNat = c at HD hc
      by_cases hf : fitsB c k = true
      · have HO := Lib.hid (or_shift HN.out hk hf)
        have hf' : ¬ ((k = 4 ∧ 15 < c) ∨ (c = 0 ∧ 0 < k)) := by rw [← fitsB_form hk, hf]; simp
        by_cases hl : c < 128
        · have HS := Lib.hid (step_last (n := n) (t := (nb s).drop (a + k + 1)) hk hf hl)
          have hd : ((((k : Int) == 4) = true ∧ decide (15 < (c : Int)) = false ∧ ((c : Int) == 0) = false) ∨ (((k : Int) == 4) = false ∧ ((c : Int) == 0) = false)) ∨ (((k : Int) == 4) = false ∧ ((c : Int) == 0) = true ∧ decide (0 < k) = false) := by
            simp; omega
          clear hf hf'
          rcases hd with (⟨q1, q2, q3⟩ | ⟨q1, q2⟩) | ⟨q1, q2, q3⟩
          all_goals
            go_wp2
            go_ret3
            rw [HG.out, HK.out, HD.out, HS.out]
            exact ⟨ret_tup HO.out (by simp [toldN]; omega) rfl, rfl⟩
        · have HS := Lib.hid (step_more (n := n) (t := (nb s).drop (a + k + 1)) hk hf hl).2
          have hk4 := (step_more (n := n) (t := (nb s).drop (a + k + 1)) hk hf hl).1
          clear hf
          have n0 : ¬ c = 0 := by omega
          have n4 : ¬ k = 4 := by omega
          go_wp2
          go_round
          case rel => exact ⟨k + 1, n + c % 128 * 128 ^ k, by omega, by omega, by go_num, by go_num, by rw [HO.out], low_next HN.out, by rw [HK.out, HD.out, HS.out, Nat.add_assoc]⟩
          case measure => simp [intOf]; omega
      · have hf : fitsB c k = false := by simpa using hf
        have HS := Lib.hid (step_form (n := n) (t := (nb s).drop (a + k + 1)) hk hf)
        have hf' : ((k = 4 ∧ 15 < c) ∨ (c = 0 ∧ 0 < k)) := by rw [← fitsB_form hk, hf]
        have hd : ((((k : Int) == 4) = true ∧ decide (15 < (c : Int)) = true) ∨ (((k : Int) == 4) = true ∧ decide (15 < (c : Int)) = false ∧ ((c : Int) == 0) = true ∧ decide (0 < k) = true)) ∨ (((k : Int) == 4) = false ∧ ((c : Int) == 0) = true ∧ decide (0 < k) = true) := by
          simp; omega
        clear hf hf'
        rcases hd with (⟨q1, q2⟩ | ⟨q1, q2, q3, q4⟩) | ⟨q1, q2, q3⟩
        all_goals
          go_wp2
          go_ret3
          rw [HG.out, HK.out, HD.out, HS.out]
          exact ⟨rfl, rfl⟩
    · have HS := Lib.hid (step_short (n := n) hk)
      have HD := Lib.hid (nb_end s (a + k) (by omega))
      have e5 : decide ((s.size : Int) ≤ ((a + k : Nat) : Int)) = true := by simp; omega
      go_wp2
      go_ret3
      rw [HG.out, HK.out, HD.out, HS.out]
      exact ⟨rfl, rfl⟩
theorem refGetNum_any (s : ByteArray) (hs : s.size ≤ maxLen) (a : Int) (w : World) : Calls Tryz.prog 50 #[.string s, .int .i64 a] w fun e w' => e = .returned (tupN (getN s a)) ∧ w = w' := by
  by_cases h0 : a < 0
  · have HG := Lib.hid (getN_out (s := s) (.inl h0))
    have d1 : decide (a < 0) = true := by simpa using h0
    go_enter Tryz.func50, Tryz.ntmps50
    go_wp2
    go_ret3
    rw [HG.out]; exact ⟨rfl, rfl⟩
  · by_cases h1 : (s.size : Int) < a
    · have HG := Lib.hid (getN_out (s := s) (.inr h1))
      have d1 : decide (a < 0) = false := by simpa using h0
      have d2 : decide ((s.size : Int) < a) = true := by simpa using h1
      go_enter Tryz.func50, Tryz.ntmps50
      go_wp2
      go_ret3
      rw [HG.out]; exact ⟨rfl, rfl⟩
    · obtain ⟨k, rfl⟩ : ∃ k : Nat, a = k := ⟨a.toNat, by omega⟩
      exact refGetNum_in s hs k (by omega) w
end Go.Proofs.YtligapgjdpdihaaGreatDoor.Lay
/-
  What Text and GetText answer, package lay's and the document's own, for every text, place and bound.
-/
set_option linter.unusedVariables false
set_option linter.unusedSimpArgs false
namespace Go.Proofs.YtligapgjdpdihaaGreatDoor.Lay
open Go.RowKit
open LayM Own

/-- a text's bytes, and ahead of them their number's -/
def textS (s : ByteArray) : ByteArray := numS (s.size % 4294967296) ++ s
theorem numS_size (v : Nat) : (numS v).size = (numL v).length := by simp [numS, numU, numFU, numL, ByteArray.size]
theorem numS_len (v : Nat) : 1 ≤ (numS v).size ∧ (numS v).size ≤ 5 := by rw [numS_size]; exact numL_len v
/-- what is told of a text at a place -/
def getT (s : ByteArray) (a most : Int) : ByteArray × Nat × Nat :=
  if (getN s a).2.2 ≠ 0 then (ByteArray.empty, 0, (getN s a).2.2)
  else if max most 0 < ((getN s a).1 : Int) then (ByteArray.empty, 0, 4)
  else if s.size - (getN s a).2.1 < (getN s a).1 then (ByteArray.empty, 0, 3)
  else (s.extract (getN s a).2.1 ((getN s a).2.1 + (getN s a).1), (getN s a).2.1 + (getN s a).1, 0)
def tupT (r : ByteArray × Nat × Nat) : Value := .tuple #[.string r.1, .int .i64 (r.2.1 : Int), .int .i64 (r.2.2 : Int)]
theorem getN_ok {s : ByteArray} {a : Int} (h : (getN s a).2.2 = 0) : ∃ k v n : Nat, a = k ∧ k ≤ s.size ∧ gn ((nb s).drop k) = .ok v n ∧ getN s a = (v, k + n, 0) ∧ v < 4294967296 ∧ k + n ≤ s.size ∧ 1 ≤ n ∧ n ≤ 5 := by
  unfold getN at h
  split at h
  · simp at h
  rename_i hc
  obtain ⟨k, rfl⟩ : ∃ k : Nat, a = k := ⟨a.toNat, by omega⟩
  rw [Int.toNat_natCast] at h
  cases hr : gn ((nb s).drop k) with
  | ok v n =>
    have ho := once hr (fun c hc => nb_lt s c (List.mem_of_mem_drop hc))
    have hl : ((nb s).drop k).length = s.size - k := by rw [List.length_drop, nb_length]
    have h5 := numL_len v
    refine ⟨k, v, n, rfl, by omega, hr, by rw [getN_in s (by omega), hr]; rfl, ho.1, by omega, by omega, by omega⟩
  | short => rw [hr] at h; simp [toldN] at h
  | form => rw [hr] at h; simp [toldN] at h
theorem getN_code (s : ByteArray) (a : Int) : (getN s a).2.2 < 4 := by
  unfold getN; split
  · simp
  · cases gn ((nb s).drop a.toNat) <;> simp [toldN]

theorem text_any (s : ByteArray) (hs : s.size ≤ 9000000000000000000) (w : World) : Calls Tryz.prog 86 #[.string s] w fun e w' => e = .returned (.string (textS s)) ∧ Below w.heap.size w w' := by
  have HN := Lib.hid (fun w => num_any (s.size % 4294967296) (Nat.mod_lt _ (by decide)) w)
  have hl := (numS_len (s.size % 4294967296)).2
  have he : ((s.size % 4294967296 : Nat) : Int) = (s.size : Int) % 4294967296 := by omega
  rw [he] at HN
  clear he
  go_enter Tryz.func86, Tryz.ntmps86
  go_wp2_with fail
  go_at_call 60
  with_reducible refine (HN.out _).mono ?_
  rintro e w2 ⟨rfl, hb⟩
  go_wp2
  go_ret
  exact ⟨rfl, hb⟩
theorem refText_any (s : ByteArray) (hs : s.size ≤ 9000000000000000000) (w : World) : Calls Tryz.prog 54 #[.string s] w fun e w' => e = .returned (.string (textS s)) ∧ Below w.heap.size w w' := by
  have HN := Lib.hid (fun w => refNum_any (s.size % 4294967296) (Nat.mod_lt _ (by decide)) w)
  have hl := (numS_len (s.size % 4294967296)).2
  have he : ((s.size % 4294967296 : Nat) : Int) = (s.size : Int) % 4294967296 := by omega
  rw [he] at HN
  clear he
  go_enter Tryz.func54, Tryz.ntmps54
  go_wp2_with fail
  go_at_call 53
  with_reducible refine (HN.out _).mono ?_
  rintro e w2 ⟨rfl, hb⟩
  go_wp2
  go_ret
  exact ⟨rfl, hb⟩

theorem ret_tupT {a a' : ByteArray} {b b' c c' : Int} (h1 : a = a') (h2 : b = b') (h3 : c = c') : Ending.returned (.tuple #[.string a, .int .i64 b, .int .i64 c]) = .returned (.tuple #[.string a', .int .i64 b', .int .i64 c']) := by rw [h1, h2, h3]
theorem max2 {P : Program} (w : World) (ts : Array TypeId) (t : TypeId) (x m : Int) (hm : m = max x 0) : (Builtin.max_ ts t #[.int .i64 x, .int .i64 0]).run P w = .ok (.int .i64 m) w := by
  have e : (Builtin.max_ ts t #[.int .i64 x, .int .i64 0]).run P w = .ok (.int .i64 (if x < 0 then 0 else x)) w := by
    simp [Builtin.max_, Builtin.max2]
  rw [e, hm]; congr 2; split <;> omega
set_option maxRecDepth 100000 in
theorem getText_any (s : ByteArray) (hs : s.size ≤ maxLen) (a most : Int) (w : World) : Calls Tryz.prog 79 #[.string s, .int .i64 a, .int .i64 most] w fun e w' => e = .returned (tupT (getT s a most)) ∧ w = w' := by
  have HC := Lib.hid (fun w => getNum_any s hs a w)
  unfold maxLen at hs
  by_cases h0 : (getN s a).2.2 = 0
  · obtain ⟨k, v, n, -, -, -, hr, hv, hp, hn1, hn5⟩ := getN_ok h0
    clear h0
    have HT : Hid (getT s a most = if max most 0 < (v : Int) then (ByteArray.empty, 0, 4) else if s.size - (k + n) < v then (ByteArray.empty, 0, 3) else (s.extract (k + n) (k + n + v), k + n + v, 0)) := by
      unfold getT; rw [hr, if_neg (by simp)]; rfl
    rw [hr] at HC
    obtain ⟨p, hpe⟩ : ∃ p, p = k + n := ⟨_, rfl⟩
    rw [← hpe] at HC HT hp
    clear hr hpe
    have HC' : Hid (∀ w, Calls Tryz.prog 46 #[.string s, .int .i64 a] w fun e w' => e = .returned (.tuple #[.int .u32 (v : Int), .int .i64 (p : Int), .int .i64 0]) ∧ w = w') := HC.out
    clear HC
    obtain ⟨m, hm⟩ : ∃ m, m = max most 0 := ⟨_, rfl⟩
    have hmx := fun w ts t => max2 (P := Tryz.prog) w ts t most m hm
    rw [← hm] at HT
    clear hm
    by_cases hl : m < (v : Int)
    · go_enter Tryz.func79, Tryz.ntmps79
      go_wp2_with (go_at_call 46; (with_reducible refine (HC'.out _).mono ?_); rintro e w' ⟨rfl, rfl⟩)
      go_ret3
      rw [HT.out, if_pos hl]; exact ⟨rfl, rfl⟩
    · by_cases hs2 : s.size - p < v
      · have e2 : decide ((s.size : Int) - (p : Int) < (v : Int)) = true := by simp; omega
        go_enter Tryz.func79, Tryz.ntmps79
        go_wp2_with (go_at_call 46; (with_reducible refine (HC'.out _).mono ?_); rintro e w' ⟨rfl, rfl⟩)
        go_ret3
        rw [HT.out, if_neg (by omega), if_pos (by omega)]; exact ⟨rfl, rfl⟩
      · have e2 : decide ((s.size : Int) - (p : Int) < (v : Int)) = false := by simp; omega
        have hsl : ∀ w, (Instr.slice 9 (.string s) (some (.int .i64 (p : Int))) (some (.int .i64 ((p : Int) + (v : Int)))) none).run Tryz.prog w = .ok (.string (s.extract p (p + v))) w := fun w => by
          rw [run_slice_string (P := Tryz.prog) w 9 s .i64 .i64 (p : Int) ((p : Int) + v) Tryz.underlying9 (by omega) (by omega) (by omega)]
          congr 3
        go_enter Tryz.func79, Tryz.ntmps79
        go_wp2_with (go_at_call 46; (with_reducible refine (HC'.out _).mono ?_); rintro e w' ⟨rfl, rfl⟩)
        go_ret3
        rw [HT.out, if_neg (by omega), if_neg (by omega)]; exact ⟨ret_tupT rfl (by simp) rfl, rfl⟩
  · obtain ⟨r, hr⟩ : ∃ r, r = getN s a := ⟨_, rfl⟩
    have HT : Hid (getT s a most = (ByteArray.empty, 0, r.2.2)) := by
      unfold getT; rw [if_pos h0, ← hr]; rfl
    rw [← hr] at HC h0
    clear hr
    have HC' : Hid (∀ w, Calls Tryz.prog 46 #[.string s, .int .i64 a] w fun e w' => e = .returned (.tuple #[.int .u32 (r.1 : Int), .int .i64 (r.2.1 : Int), .int .i64 (r.2.2 : Int)]) ∧ w = w') := HC.out
    clear HC
    have e1 : ((r.2.2 : Int) == 0) = false := by simpa using h0
    go_enter Tryz.func79, Tryz.ntmps79
    go_wp2_with (go_at_call 46; (with_reducible refine (HC'.out _).mono ?_); rintro e w' ⟨rfl, rfl⟩)
    go_ret3
    rw [HT.out]; exact ⟨rfl, rfl⟩
set_option maxRecDepth 100000 in
theorem refGetText_any (s : ByteArray) (hs : s.size ≤ maxLen) (a most : Int) (w : World) : Calls Tryz.prog 51 #[.string s, .int .i64 a, .int .i64 most] w fun e w' => e = .returned (tupT (getT s a most)) ∧ w = w' := by
  have HC := Lib.hid (fun w => refGetNum_any s hs a w)
  unfold maxLen at hs
  by_cases h0 : (getN s a).2.2 = 0
  · obtain ⟨k, v, n, -, -, -, hr, hv, hp, hn1, hn5⟩ := getN_ok h0
    clear h0
    have HT : Hid (getT s a most = if max most 0 < (v : Int) then (ByteArray.empty, 0, 4) else if s.size - (k + n) < v then (ByteArray.empty, 0, 3) else (s.extract (k + n) (k + n + v), k + n + v, 0)) := by
      unfold getT; rw [hr, if_neg (by simp)]; rfl
    rw [hr] at HC
    obtain ⟨p, hpe⟩ : ∃ p, p = k + n := ⟨_, rfl⟩
    rw [← hpe] at HC HT hp
    clear hr hpe
    have HC' : Hid (∀ w, Calls Tryz.prog 50 #[.string s, .int .i64 a] w fun e w' => e = .returned (.tuple #[.int .u32 (v : Int), .int .i64 (p : Int), .int .i64 0]) ∧ w = w') := HC.out
    clear HC
    obtain ⟨m, hm⟩ : ∃ m, m = max most 0 := ⟨_, rfl⟩
    have hmx := fun w ts t => max2 (P := Tryz.prog) w ts t most m hm
    rw [← hm] at HT
    clear hm
    by_cases hl : m < (v : Int)
    · go_enter Tryz.func51, Tryz.ntmps51
      go_wp2_with (go_at_call 50; (with_reducible refine (HC'.out _).mono ?_); rintro e w' ⟨rfl, rfl⟩)
      go_ret3
      rw [HT.out, if_pos hl]; exact ⟨rfl, rfl⟩
    · by_cases hs2 : s.size - p < v
      · have e2 : decide ((s.size : Int) - (p : Int) < (v : Int)) = true := by simp; omega
        go_enter Tryz.func51, Tryz.ntmps51
        go_wp2_with (go_at_call 50; (with_reducible refine (HC'.out _).mono ?_); rintro e w' ⟨rfl, rfl⟩)
        go_ret3
        rw [HT.out, if_neg (by omega), if_pos (by omega)]; exact ⟨rfl, rfl⟩
      · have e2 : decide ((s.size : Int) - (p : Int) < (v : Int)) = false := by simp; omega
        have hsl : ∀ w, (Instr.slice 9 (.string s) (some (.int .i64 (p : Int))) (some (.int .i64 ((p : Int) + (v : Int)))) none).run Tryz.prog w = .ok (.string (s.extract p (p + v))) w := fun w => by
          rw [run_slice_string (P := Tryz.prog) w 9 s .i64 .i64 (p : Int) ((p : Int) + v) Tryz.underlying9 (by omega) (by omega) (by omega)]
          congr 3
        go_enter Tryz.func51, Tryz.ntmps51
        go_wp2_with (go_at_call 50; (with_reducible refine (HC'.out _).mono ?_); rintro e w' ⟨rfl, rfl⟩)
        go_ret3
        rw [HT.out, if_neg (by omega), if_neg (by omega)]; exact ⟨ret_tupT rfl (by simp) rfl, rfl⟩
  · obtain ⟨r, hr⟩ : ∃ r, r = getN s a := ⟨_, rfl⟩
    have HT : Hid (getT s a most = (ByteArray.empty, 0, r.2.2)) := by
      unfold getT; rw [if_pos h0, ← hr]; rfl
    rw [← hr] at HC h0
    clear hr
    have HC' : Hid (∀ w, Calls Tryz.prog 50 #[.string s, .int .i64 a] w fun e w' => e = .returned (.tuple #[.int .u32 (r.1 : Int), .int .i64 (r.2.1 : Int), .int .i64 (r.2.2 : Int)]) ∧ w = w') := HC.out
    clear HC
    have e1 : ((r.2.2 : Int) == 0) = false := by simpa using h0
    go_enter Tryz.func51, Tryz.ntmps51
    go_wp2_with (go_at_call 50; (with_reducible refine (HC'.out _).mono ?_); rintro e w' ⟨rfl, rfl⟩)
    go_ret3
    rw [HT.out]; exact ⟨rfl, rfl⟩
end Go.Proofs.YtligapgjdpdihaaGreatDoor.Lay
/-
  What is written is read again, and the other way round, as texts. No walk.
-/
set_option linter.unusedVariables false
set_option linter.unusedSimpArgs false
namespace Go.Proofs.YtligapgjdpdihaaGreatDoor.Lay
open LayM

theorem nb_append (a b : ByteArray) : nb (a ++ b) = nb a ++ nb b := by simp [nb]
theorem nb_inj {a b : ByteArray} (h : nb a = nb b) : a = b := by
  apply ByteArray.ext
  apply Array.ext'
  have h : a.data.toList.map UInt8.toNat = b.data.toList.map UInt8.toNat := h
  exact List.map_inj_right (fun x y e => UInt8.toNat_inj.1 e) |>.1 h
theorem nb_extract (s : ByteArray) (i j : Nat) : nb (s.extract i j) = ((nb s).drop i).take (j - i) := by
  simp only [nb, ByteArray.data_extract, Array.toList_extract, List.extract_eq_take_drop, List.map_take, List.map_drop]
theorem numF_lt : ∀ f v, v < 16 * 128 ^ f → ∀ c ∈ numF f v, c < 256
  | 0, v, h, c, hc => by simp [numF] at hc h; omega
  | f + 1, v, h, c, hc => by
    simp only [numF] at hc
    split at hc
    · simp at hc; omega
    · simp only [List.mem_cons] at hc
      rcases hc with rfl | hc
      · omega
      · exact numF_lt f (v / 128) (lt_step h) c hc
theorem nb_num {v : Nat} (hv : v < 4294967296) : nb (numS v) = numL v := by
  have hl := numF_lt 4 v (by rw [show 16 * 128 ^ 4 = 4294967296 by decide]; exact hv)
  simp only [nb, numS, numU, numFU, List.map_map]
  have : (numF 4 v).map (UInt8.toNat ∘ UInt8.ofNat) = (numF 4 v).map id := by
    apply List.map_congr_left
    intro c hc
    simp [Nat.mod_eq_of_lt (hl c hc)]
  rw [this, List.map_id]; rfl
/-- a number's bytes at a place are read as it -/
theorem read_num (a b : ByteArray) {v : Nat} (hv : v < 4294967296) : getN (a ++ numS v ++ b) a.size = (v, a.size + (numS v).size, 0) := by
  rw [getN_in _ (by simp; omega)]
  have : (nb (a ++ numS v ++ b)).drop a.size = numL v ++ nb b := by
    rw [nb_append, nb_append, nb_num hv, List.append_assoc]
    exact List.drop_left' (nb_length a)
  rw [this, back v _ hv, numS_size]; rfl
/-- cut off they are not there -/
theorem read_cut (a : ByteArray) {v k : Nat} (hv : v < 4294967296) (hk : k < (numS v).size) : getN (a ++ (numS v).extract 0 k) a.size = (0, 0, 3) := by
  rw [getN_in _ (by simp)]
  have : (nb (a ++ (numS v).extract 0 k)).drop a.size = (numL v).take k := by
    rw [nb_append, nb_extract, nb_num hv]
    rw [List.drop_left' (nb_length a)]; simp
  rw [this, cut v k hv (by rw [← numS_size]; exact hk)]; rfl
/-- what is read has just those bytes -/
theorem once_num {s : ByteArray} {k v n : Nat} (h : gn ((nb s).drop k) = .ok v n) : s.extract k (k + n) = numS v := by
  obtain ⟨h1, h2, h3, h4⟩ := once h (fun c hc => nb_lt s c (List.mem_of_mem_drop hc))
  apply nb_inj
  rw [nb_extract, nb_num h1, ← h3]; congr 1; omega
theorem extract_split (s : ByteArray) {i j k : Nat} (h1 : i ≤ j) (h2 : j ≤ k) : s.extract i k = s.extract i j ++ s.extract j k := by
  apply nb_inj
  rw [nb_append, nb_extract, nb_extract, nb_extract]
  rw [show k - i = (j - i) + (k - j) by omega, List.take_add, List.drop_drop]
  congr 3; omega
theorem once_text {s : ByteArray} {k v n : Nat} (h : gn ((nb s).drop k) = .ok v n) (hl : k + n + v ≤ s.size) : s.extract k (k + n + v) = textS (s.extract (k + n) (k + n + v)) := by
  have hv := (once h (fun c hc => nb_lt s c (List.mem_of_mem_drop hc))).1
  have hz : (s.extract (k + n) (k + n + v)).size = v := by simp; omega
  rw [extract_split s (Nat.le_add_right k n) (Nat.le_add_right (k + n) v), once_num h, textS, hz, Nat.mod_eq_of_lt hv]
/-- a text's bytes at a place are read as it -/
theorem read_text (a b s : ByteArray) (hs : s.size < 4294967296) (most : Int) : getT (a ++ textS s ++ b) a.size most = if max most 0 < (s.size : Int) then (ByteArray.empty, 0, 4) else (s, a.size + (textS s).size, 0) := by
  have hr := read_num a (s ++ b) hs
  have e : a ++ numS s.size ++ (s ++ b) = a ++ textS s ++ b := by
    rw [textS, Nat.mod_eq_of_lt hs]; apply nb_inj; simp [nb_append]
  rw [e] at hr
  have hz : (textS s).size = (numS s.size).size + s.size := by rw [textS, Nat.mod_eq_of_lt hs]; simp
  unfold getT
  rw [hr, if_neg (by simp)]
  simp only
  split
  · rfl
  · rw [if_neg (by simp [hz]; omega)]
    have : (a ++ textS s ++ b).extract (a.size + (numS s.size).size) (a.size + (numS s.size).size + s.size) = s := by
      rw [← e]
      apply nb_inj
      rw [nb_extract, nb_append, nb_append, nb_append, ← List.append_assoc, List.append_assoc, List.drop_left' (by simp [nb_length]), Nat.add_sub_cancel_left, List.take_left' (nb_length s)]
    rw [this, hz]
    simp; omega
theorem textS_size {s : ByteArray} (hs : s.size < 4294967296) : (textS s).size = (numS s.size).size + s.size := by rw [textS, Nat.mod_eq_of_lt hs]; simp
/-- a text that lacks its last byte -/
theorem read_text_cut (a s : ByteArray) (hs : s.size < 4294967296) : getT ((a ++ textS s).extract 0 ((a ++ textS s).size - 1)) a.size s.size = (ByteArray.empty, 0, 3) := by
  have hz := textS_size hs
  by_cases h0 : s.size = 0
  · have e : (a ++ textS s).extract 0 ((a ++ textS s).size - 1) = a ++ (numS 0).extract 0 0 := by
      have h1 : (numS 0).size = 1 := by decide +kernel
      apply nb_inj
      rw [nb_extract, nb_append, nb_append, nb_extract, ByteArray.size_append, hz, h0, h1]
      simp only [List.drop_zero, Nat.sub_zero, Nat.add_zero, Nat.add_sub_cancel, List.take_zero, List.append_nil]
      exact List.take_left' (nb_length a)
    rw [e]
    unfold getT
    rw [read_cut a (v := 0) (k := 0) (by decide) (by decide +kernel), if_pos (by simp)]
  · have e : (a ++ textS s).extract 0 ((a ++ textS s).size - 1) = a ++ numS s.size ++ s.extract 0 (s.size - 1) := by
      apply nb_inj
      rw [nb_extract, nb_append, nb_append, nb_append, nb_extract, textS, Nat.mod_eq_of_lt hs, nb_append]
      simp only [List.drop_zero, Nat.sub_zero, ByteArray.size_append]
      have hl : (nb a ++ nb (numS s.size)).length = a.size + (numS s.size).size := by rw [List.length_append, nb_length, nb_length]
      rw [← List.append_assoc, List.take_append, hl, List.take_of_length_le (by rw [hl]; omega)]
      congr 2; omega
    rw [e]
    unfold getT
    rw [read_num a _ hs, if_neg (by simp)]
    simp only
    rw [if_neg (by omega), if_pos (by simp; omega)]
end Go.Proofs.YtligapgjdpdihaaGreatDoor.Lay
