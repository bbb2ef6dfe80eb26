/-
  order of package keys: what it answers, and that it only lays memory of its own and draws.
-/
import Derived.Test.YtjbgiolcfammkaaDoorKeysD
namespace Go.Proofs.YtjbgiolcfammkaaDoor.Keys
open Go.RowKit
open RuneM RefRune Own RefKeys SortM

set_option maxHeartbeats 1000000 in
theorem or_any (x y : Int) (b : Nat) (w : World) (hx : w.cell? ⟨b, 0, none⟩ = some (.int .i64 x)) (hy : w.cell? ⟨b, 1, none⟩ = some (.int .i64 y)) :
    Calls Tryd.prog 73 #[.slice (some ⟨b, 0, none⟩) 2 2] w fun e w' => e = .returned (.int .i64 (if x = 0 then y else x)) ∧ w' = w := by
  by_cases h0 : x = 0
  · rw [if_pos h0]
    subst h0
    go_enter Tryd.func73, Tryd.ntmps73
    go_wp2
    go_loop [8] (fun i => i = .int .i64 0 ∨ i = .int .i64 1 ∨ (i = .int .i64 2 ∧ y = 0)) (fun i => 2 - (intOf i).toNat)
    case atStart => exact .inl rfl
    case round =>
      rcases hrel with rfl | rfl | ⟨rfl, rfl⟩
      · go_wp2
        go_round
        case rel => exact .inr (.inl rfl)
        case measure => simp [intOf]
      · by_cases h1 : y = 0
        · have d : (y != 0) = false := by simp [h1]
          go_wp2
          go_round
          case rel => exact .inr (.inr ⟨rfl, h1⟩)
          case measure => simp [intOf]
        · have d : (y != 0) = true := by simp [h1]
          go_wp2
          go_ret
          exact ⟨rfl, rfl⟩
      · go_wp2
        go_ret
        exact ⟨rfl, rfl⟩
  · rw [if_neg h0]
    have d : (x != 0) = true := by simp [h0]
    go_enter Tryd.func73, Tryd.ntmps73
    go_wp2
    go_loop [8] (fun i => i = .int .i64 0) (fun i => 2 - (intOf i).toNat)
    case atStart => rfl
    case round =>
      subst hrel
      go_wp2
      go_ret
      exact ⟨rfl, rfl⟩

set_option maxHeartbeats 1000000 in
theorem order_grew (a b : ByteArray) (ha : a.size ≤ lim) (hb : b.size ≤ lim) (w : World) (hT : Tabs w) : Calls Tryd.prog 58 #[.string a, .string b] w fun e w' => e = .returned (.int .i64 (ordS a b)) ∧ Grew w w' := by
  have H1 := Lib.hid (cmp_grew a b ha hb w hT)
  have H2 := Lib.hid (fun w => Tryd.strings_Compare a b w)
  have HO : Hid (ordS a b = if cmpS a b = 0 then Lib.compareBytes a.data.toList b.data.toList else cmpS a b) := rfl
  generalize cmpS a b = c1 at H1 HO
  generalize Lib.compareBytes a.data.toList b.data.toList = c2 at H2 HO
  generalize hr : ordS a b = r at HO
  have HR := Lib.hid hr
  have H3 : Hid (∀ (g : Nat) (w : World), w.cell? ⟨g, 0, none⟩ = some (.int .i64 c1) → w.cell? ⟨g, 1, none⟩ = some (.int .i64 c2) → Calls Tryd.prog 73 #[.slice (some ⟨g, 0, none⟩) 2 2] w fun e w' => e = .returned (.int .i64 r) ∧ w' = w) := by
    intro g w h1 h2
    rw [HO.out]
    exact or_any c1 c2 g w h1 h2
  clear HO hr
  go_enter Tryd.func58, Tryd.ntmps58
  go_wp2_with (first
    | (go_at_call 29; (with_reducible refine H1.out.mono ?_); rintro e w2 ⟨rfl, hn⟩)
    | (go_at_call 74; (with_reducible refine (H2.out _).mono ?_); rintro e w3 ⟨rfl, rfl⟩)
    | (go_at_call 73; (with_reducible refine (H3.out _ _ ?_ ?_).mono ?_); (· simp); (· simp); rintro e w4 ⟨rfl, rfl⟩))
  go_ret
  exact ⟨rfl, hn.trans (Grew.alloc _ _)⟩
end Go.Proofs.YtjbgiolcfammkaaDoor.Keys
