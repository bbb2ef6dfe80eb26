/-
  What Num answers, package lay's and the document's own, for every number.
-/
import Derived.Test.YtjbgiolcfammkaaDoorOwn
import Derived.Test.YtjbgiolcfammkaaDoorLayMath
import Derived.Test.YtjbgiolcfammkaaDoorBytes
namespace Go.Proofs.YtjbgiolcfammkaaDoor.Lay
open Go.RowKit
open LayM Own

theorem infoU8 : (Tryd.prog.info? 5).map (fun i => (i.zero, i.size, i.bytes)) = some (some (.int .u8 0), 1, 1) := by kernel_rfl
/-- bytes as values -/
def u8s (l : List UInt8) : List Value := l.map fun c => .int .u8 (c.toNat : Int)
theorem u8s_snoc (l : List UInt8) (c : UInt8) : u8s (l ++ [c]) = u8s l ++ [.int .u8 (c.toNat : Int)] := by simp [u8s]
theorem u8s_length (l : List UInt8) : (u8s l).length = l.length := by simp [u8s]
/-- a number's bytes, as a row, as a text -/
def numFU (f v : Nat) : List UInt8 := (numF f v).map UInt8.ofNat
def numU (v : Nat) : List UInt8 := numFU 4 v
def numS (v : Nat) : ByteArray := ⟨(numU v).toArray⟩
theorem numFU_small {f x : Nat} (h : x < 128) : numFU f x = [UInt8.ofNat x] := by
  cases f with
  | zero => rfl
  | succ f => simp [numFU, numF, h]
theorem numFU_great {f x : Nat} (h : ¬ x < 128) : numFU (f + 1) x = UInt8.ofNat (x % 128 + 128) :: numFU f (x / 128) := by
  simp [numFU, numF, h]
theorem ofNat_toNat {c : Nat} (h : c < 256) : ((UInt8.ofNat c).toNat : Int) = (c : Int) := by
  rw [UInt8.toNat_ofNat', Nat.mod_eq_of_lt h]
theorem or128 (x : Nat) : bits .or .u8 ((x : Int) % 256) 128 = ((x % 128 + 128 : Nat) : Int) := by
  have := u8_or_nat (x % 256) 128 (by omega) (by decide)
  rw [show ((x % 256 : Nat) : Int) = (x : Int) % 256 by omega] at this
  rw [show ((128 : Nat) : Int) = 128 from rfl] at this
  rw [this]
  have h1 : x % 256 = (x / 128 % 2) * 128 + x % 128 := by omega
  have h2 : (x / 128 % 2) * 128 ||| 128 = 128 := by
    rcases (show x / 128 % 2 = 0 ∨ x / 128 % 2 = 1 by omega) with h | h <;> rw [h] <;> decide
  have h3 : (x / 128 % 2) * 128 ||| x % 128 = (x / 128 % 2) * 128 + x % 128 := nat_join 7 _ _ (by omega) (by omega)
  have h4 : 128 ||| x % 128 = 128 + x % 128 := nat_join 7 128 (x % 128) (by omega) (by omega)
  rw [h1, ← h3, Nat.or_assoc, Nat.or_comm (x % 128) 128, ← Nat.or_assoc, h2, h4]
  congr 1; omega
theorem _root_.Go.Proofs.YtjbgiolcfammkaaDoor.Own.Mine.text {w : World} {base : Nat} {g n cap : Nat} {l : List UInt8} (h : Mine w base 5 (.slice (some ⟨g, 0, none⟩) n cap) (u8s l)) (hn : n = l.length) :
    (convert 44 9 (.slice (some ⟨g, 0, none⟩) n cap)).run Tryd.prog w = .ok (.string ⟨l.toArray⟩) w := by
  subst hn
  refine run_convert_bytes_back (P := Tryd.prog) w 44 9 5 ⟨g, 0, none⟩ cap l Tryd.underlying44 Tryd.underlying5 Tryd.underlying9 (fun j hj => ?_)
  obtain ⟨a, c, he, hl | ⟨g', ha, hc⟩⟩ := h.row
  · have : l = [] := by simpa [u8s] using hl
    subst this; simp at hj
  · simp only [Value.slice.injEq] at he
    rw [ha] at he
    obtain rfl : g = g' := by simpa using he.1
    rw [show (⟨g, 0, none⟩ : Addr).add j = ⟨g, j, none⟩ by unfold Addr.add; split <;> simp_all]
    exact hc j _ (by simp [u8s, hj])
theorem own_snoc {w : World} {base : Nat} {v : Value} {l : List UInt8} {c : Nat} (h : Mine w base 5 v (u8s l ++ [.int .u8 (c : Int)])) (hc : c < 256) : Mine w base 5 v (u8s (l ++ [UInt8.ofNat c])) := by
  rw [u8s_snoc, ofNat_toNat hc]; exact h
theorem text_snoc {w : World} {base : Nat} {g n cap : Nat} {l : List UInt8} {c : Nat} (h : Mine w base 5 (.slice (some ⟨g, 0, none⟩) n cap) (u8s l ++ [.int .u8 (c : Int)])) (hc : c < 256) (hn : n = (u8s l).length + 1) :
    (convert 44 9 (.slice (some ⟨g, 0, none⟩) n cap)).run Tryd.prog w = .ok (.string ⟨(l ++ [UInt8.ofNat c]).toArray⟩) w :=
  (own_snoc h hc).text (by rw [hn, u8s_length]; simp)
/-- what holds at the head of a round -/
structure NumAt (v : Nat) (w : World) (b : Value) (f x : Nat) (done : List UInt8) (wr : World) : Prop where
  all : numU v = done ++ numFU f x
  lt : x < 16 * 128 ^ f
  len : done.length + f = 4
  own : Mine wr w.heap.size 5 b (u8s done)
  below : Below w.heap.size w wr
theorem lt_step {f x : Nat} (h : x < 16 * 128 ^ (f + 1)) : x / 128 < 16 * 128 ^ f := by
  rw [Nat.pow_succ, ← Nat.mul_assoc] at h
  exact Nat.div_lt_of_lt_mul (by rw [Nat.mul_comm]; exact h)
theorem lt_u32 {f x : Nat} (h : x < 16 * 128 ^ f) (hf : f ≤ 4) : x < 4294967296 := by
  have h1 : 16 * 128 ^ f ≤ 16 * 128 ^ 4 := Nat.mul_le_mul_left _ (Nat.pow_le_pow_right (by omega) hf)
  have h2 : 16 * 128 ^ 4 = 4294967296 := by decide
  omega

set_option maxRecDepth 100000 in
set_option maxHeartbeats 2000000 in
theorem num_any (v : Nat) (hv : v < 4294967296) (w : World) : Calls Tryd.prog 37 #[.int .u32 (v : Int)] w fun e w' => e = .returned (.string (numS v)) ∧ Below w.heap.size w w' := by
  go_enter Tryd.func37, Tryd.ntmps37
  go_wp2
  go_loopw [0, 3] (fun x b wr => ∃ f n done, x = .int .u32 ((n : Nat) : Int) ∧ NumAt v w b f n done wr) (fun x _ _ => (intOf x).toNat)
  case atStart => exact ⟨4, v, [], rfl, ⟨rfl, by rw [show 16 * 128 ^ 4 = 4294967296 by decide]; exact hv, rfl, Mine.nil _ _ _, Below.refl _ _⟩⟩
  case round =>
    obtain ⟨f, n, done, rfl, hall, hlt, hlen, hown, hbel⟩ := hrel
    have hn := lt_u32 hlt (by omega)
    have hbs := hbel.size
    have hul := u8s_length done
    have b1 : ((u8s done).length + 1) * 1 ≤ 140737488355328 := by omega
    have b2 : (u8s done).length + 1 ≤ maxLen := by simp only [maxLen]; omega
    have HN := Lib.hid hall
    have HL := Lib.hid hlt
    have HO := Lib.hid hown
    have HB := Lib.hid hbel
    have HU := Lib.hid hul
    clear hall hlt hul hbel
    by_cases hsm : n < 128
    · have HS := Lib.hid (numFU_small (f := f) hsm)
      have hw : IntKind.u8.wrap (n : Int) = (n : Int) := IntWalk.u8_in _ (by omega)
      go_wp2_with (at_builtin; (refine append_one rfl _ _ 44 rfl w.heap.size 5 (.int .u8 0) 1 Tryd.underlying44 infoU8 rfl u3 (u8s done) rfl (Mine.alloc hown _) wr.heap.size (.int .u8 (n : Int)) rfl ?c1 rfl b1 b2 ?c2 ?_); (case c1 => simp); (case c2 => (simp; omega)); intro g cap w2 hown2 hgrow2 hat2 hlt2; have hcv := text_snoc hown2 (by omega) rfl)
      go_ret
      have hbel2 := below_append (HB.out.alloc hbs (.cells #[.int .u8 (n : Int)] 5)) hgrow2 (by simp; omega) (fun k hk => (hown.lt k hk).2)
      exact ⟨by rw [numS, HN.out, HS.out]; rfl, hbel2⟩
    · obtain ⟨f, rfl⟩ : ∃ k, f = k + 1 := ⟨f - 1, by have := HL.out; cases f with | zero => simp at this; omega | succ k => rfl⟩
      have HS := Lib.hid (numFU_great (f := f) hsm)
      have hor := or128 n
      go_wp2_with (at_builtin; (refine append_one rfl _ _ 44 rfl w.heap.size 5 (.int .u8 0) 1 Tryd.underlying44 infoU8 rfl u3 (u8s done) rfl (Mine.alloc hown _) wr.heap.size (.int .u8 ((n % 128 + 128 : Nat) : Int)) rfl ?c1 rfl b1 b2 ?c2 ?_); (case c1 => simp); (case c2 => (simp; omega)); intro g cap w2 hown2 hgrow2 hat2 hlt2)
      have hbel2 := below_append (HB.out.alloc hbs (.cells #[.int .u8 ((n % 128 + 128 : Nat) : Int)] 5)) hgrow2 (by simp; omega) (fun k hk => (hown.lt k hk).2)
      go_roundw
      case rel => exact ⟨f, n / 128, done ++ [UInt8.ofNat (n % 128 + 128)], by go_num, ⟨by rw [HN.out, HS.out]; simp, lt_step HL.out, by simp; omega, own_snoc hown2 (by omega), hbel2⟩⟩
      case measure => simp [intOf]; omega
set_option maxRecDepth 100000 in
set_option maxHeartbeats 2000000 in
theorem refNum_any (v : Nat) (hv : v < 4294967296) (w : World) : Calls Tryd.prog 40 #[.int .u32 (v : Int)] w fun e w' => e = .returned (.string (numS v)) ∧ Below w.heap.size w w' := by
  go_enter Tryd.func40, Tryd.ntmps40
  go_wp2
  go_loopw [0, 3] (fun x b wr => ∃ f n done, x = .int .u32 ((n : Nat) : Int) ∧ NumAt v w b f n done wr) (fun x _ _ => (intOf x).toNat)
  case atStart => exact ⟨4, v, [], rfl, ⟨rfl, by rw [show 16 * 128 ^ 4 = 4294967296 by decide]; exact hv, rfl, Mine.nil _ _ _, Below.refl _ _⟩⟩
  case round =>
    obtain ⟨f, n, done, rfl, hall, hlt, hlen, hown, hbel⟩ := hrel
    have hn := lt_u32 hlt (by omega)
    have hbs := hbel.size
    have hul := u8s_length done
    have b1 : ((u8s done).length + 1) * 1 ≤ 140737488355328 := by omega
    have b2 : (u8s done).length + 1 ≤ maxLen := by simp only [maxLen]; omega
    have HN := Lib.hid hall
    have HL := Lib.hid hlt
    have HO := Lib.hid hown
    have HB := Lib.hid hbel
    have HU := Lib.hid hul
    clear hall hlt hul hbel
    by_cases hsm : n < 128
    · have HS := Lib.hid (numFU_small (f := f) hsm)
      have hw : IntKind.u8.wrap (n : Int) = (n : Int) := IntWalk.u8_in _ (by omega)
      go_wp2_with (at_builtin; (refine append_one rfl _ _ 44 rfl w.heap.size 5 (.int .u8 0) 1 Tryd.underlying44 infoU8 rfl u3 (u8s done) rfl (Mine.alloc hown _) wr.heap.size (.int .u8 (n : Int)) rfl ?c1 rfl b1 b2 ?c2 ?_); (case c1 => simp); (case c2 => (simp; omega)); intro g cap w2 hown2 hgrow2 hat2 hlt2; have hcv := text_snoc hown2 (by omega) rfl)
      go_ret
      have hbel2 := below_append (HB.out.alloc hbs (.cells #[.int .u8 (n : Int)] 5)) hgrow2 (by simp; omega) (fun k hk => (hown.lt k hk).2)
      exact ⟨by rw [numS, HN.out, HS.out]; rfl, hbel2⟩
    · obtain ⟨f, rfl⟩ : ∃ k, f = k + 1 := ⟨f - 1, by have := HL.out; cases f with | zero => simp at this; omega | succ k => rfl⟩
      have HS := Lib.hid (numFU_great (f := f) hsm)
      have hw : IntKind.u8.wrap ((n : Int) % 128) = (n : Int) % 128 := IntWalk.u8_in _ (by omega)
      go_wp2_with (at_builtin; (refine append_one rfl _ _ 44 rfl w.heap.size 5 (.int .u8 0) 1 Tryd.underlying44 infoU8 rfl u3 (u8s done) rfl (Mine.alloc hown _) wr.heap.size (.int .u8 ((n % 128 + 128 : Nat) : Int)) rfl ?c1 rfl b1 b2 ?c2 ?_); (case c1 => simp); (case c2 => (simp; omega)); intro g cap w2 hown2 hgrow2 hat2 hlt2)
      have hbel2 := below_append (HB.out.alloc hbs (.cells #[.int .u8 ((n % 128 + 128 : Nat) : Int)] 5)) hgrow2 (by simp; omega) (fun k hk => (hown.lt k hk).2)
      go_roundw
      case rel => exact ⟨f, n / 128, done ++ [UInt8.ofNat (n % 128 + 128)], by go_num, ⟨by rw [HN.out, HS.out]; simp, lt_step HL.out, by simp; omega, own_snoc hown2 (by omega), hbel2⟩⟩
      case measure => simp [intOf]; omega
end Go.Proofs.YtjbgiolcfammkaaDoor.Lay
