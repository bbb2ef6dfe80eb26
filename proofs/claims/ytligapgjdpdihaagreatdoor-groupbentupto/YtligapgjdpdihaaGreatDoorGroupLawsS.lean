/-
  Rows and regions of the walks of chapter 10.
-/
import Derived.Test.YtligapgjdpdihaaGreatDoorGroupLawsC
set_option linter.unusedVariables false
set_option linter.unusedSimpArgs false
namespace Go.Proofs.YtligapgjdpdihaaGreatDoor.Group
open Go.RowKit
open CrcM (W)
open Crc (le4 sumOf vl wd putS)
open Flash (bs bs_size bs_list list_bs cut)
open Go.Proofs.YtligapgjdpdihaaGreatDoor.Frame (Fr zeroF fV fC bel2 below_drewN)
open Piece (pieceR isSeqB)
open Tup Bytes Own
open Geom (Gm gV rightG mostG needG Small right_small smallG small_small)
open Batch (Wr WAt WMine Tb bytesW layB rightW readW writesOf makeW)
open Go.Proofs.YtligapgjdpdihaaGreatDoor.Region (fill Then Deps Each wp_region_is wp_region_is_tail wp_region_each wp_region_tail)
/-- a group, its writes a slice of one's own -/
def gp2 (base : Nat) (s0 s1 s2 : W) (M : List Wr) : Sp := ⟨fun v w => ∃ u : Option Addr × Nat, v = .agg #[.int .u32 (vl s0), .int .u32 (vl s1), .int .u32 (vl s2), .slice u.1 M.length u.2] ∧ WMine w base (.slice u.1 M.length u.2) M, fun _ _ _ ⟨u, e, h⟩ hb => ⟨u, e, Batch.WMine.below h hb⟩⟩
/-- what Cut answers, its frames a slice of one's own -/
def cut2 (base : Nat) (PL : List Fr) (c : Int) : Sp := ⟨fun v w => ∃ u : Option Addr × Nat, v = .tuple #[.slice u.1 PL.length u.2, .int .i64 c] ∧ FMine w base (.slice u.1 PL.length u.2) PL, fun _ _ _ ⟨u, e, h⟩ hb => ⟨u, e, h.below hb⟩⟩
def row2 (base : Nat) (PL : List Fr) : Sp := ⟨fun v w => ∃ u : Option Addr × Nat, v = .slice u.1 PL.length u.2 ∧ FMine w base (.slice u.1 PL.length u.2) PL, fun _ _ _ ⟨u, e, h⟩ hb => ⟨u, e, h.below hb⟩⟩
theorem wat_mine {w : World} {base : Nat} {a : Option Addr} {n c : Nat} {M : List Wr} (h : WMine w base (.slice a n c) M) : WAt w a M := At.of_owns h
theorem fat_mine {w : World} {base : Nat} {a : Option Addr} {n c : Nat} {M : List Fr} (h : FMine w base (.slice a n c) M) : FAt w a M := At.of_owns h
/-- a row of frames of one's own that isn't empty lies at a block of its own -/
theorem fmine_some {w : World} {base : Nat} {a : Option Addr} {c : Nat} {l : List Fr} (h : FMine w base (.slice a l.length c) l) (h0 : 0 < l.length) : ∃ g, a = some ⟨g, 0, none⟩ ∧ base ≤ g := by
  rcases h.2 with ⟨_, h1⟩ | ⟨g, cap, cur, e, hg, _⟩
  · omega
  · simp only [Value.slice.injEq] at e
    exact ⟨g, e.1, hg⟩
/-- a row lying anywhere is appended to a row of one's own -/
theorem append_at {P : Program} {w : World} {ops : Array Oper} {rest : List Oper} {o : Oper} {a : Act} {Q : Exit → Act → World → Prop} (hgd : o.guard = none) (s x : Operand) (t : TypeId)
    (ho : o.op = .call { callee := .builtin .append, args := #[s, x], argTypes := #[t, t] })
    (base : Nat) (e : TypeId) (z : Value) (size bytes : Nat) (ht : P.underlying t = some (.slice e)) (hinfo : (P.info? e).map (fun i => (i.zero, i.size, i.bytes)) = some (some z, size, bytes)) (hz : z.cells.size = size) (h0 : 0 < size)
    (v : Value) (n : Nat) (xs : List Value) (hs : a.eval s = v) (hown : w.ownsRow base e size v n xs) (src : Addr) (m c : Nat) (news : List Value) (hx : a.eval x = .slice (some src) m c) (hlen0 : news.length = m * size) (hnews : ∀ j u, news[j]? = some u → w.cell? (src.add j) = some u) (hone : ∀ u ∈ news, u.oneCell' = true)
    (hlen : (n + m) * bytes ≤ 140737488355328) (hmax : n + m ≤ maxLen) (hbase : base ≤ w.heap.size)
    (h : ∀ v' w', w'.ownsRow base e size v' (n + m) (xs ++ news) → w.grownBy w' v.ownBlock → (v'.ownBlock = v.ownBlock ∨ v'.ownBlock = some w.heap.size) → wpList P ops Q rest (a.put o.dst v') w') :
    wpList P ops Q (o :: rest) a w := by
  have key : ∃ v' w', (Builtin.append_ #[t, t] o.type #[v, .slice (some src) m c]).run P w = .ok v' w' ∧ w'.ownsRow base e size v' (n + m) (xs ++ news) ∧ w.grownBy w' v.ownBlock ∧ (v'.ownBlock = v.ownBlock ∨ v'.ownBlock = some w.heap.size) := by
    obtain ⟨i, hi, hz0, hs1, hb⟩ := info_parts hinfo
    obtain ⟨v', w', hr, k2, k3, _, k5⟩ := run_append_own_at (P := P) w base t o.type e i z size bytes ht hi hz0 hs1 hb hz h0 v n xs hown src m c news hlen0 hnews hone hmax hlen hbase
    exact ⟨v', w', hr, k2, k3, k5⟩
  obtain ⟨v', w', hr, k1, k2, k3⟩ := key
  refine wpList_plain hgd fun K hK => ?_
  unfold Oper.wp
  simp only [execOp, ho, resolve, invoke, builtin, Sem.run_bind, Sem.run_pure, Result.andThen_ok, List.map_toArray, List.map_cons, List.map_nil, hs, hx, hr]
  exact hK _ _ (h v' w' k1 k2 k3)
theorem fat_news {w : World} {g off : Nat} {l : List Fr} (h : FAt w (some ⟨g, off, none⟩) l) : ∀ j u, (flatF l)[j]? = some u → w.cell? ((⟨g, off, none⟩ : Addr).add j) = some u := fun j u hj => by
  rcases h with hn | ⟨b, o, e, hl⟩
  · rw [hn] at hj; simp at hj
  · simp only [Option.some.injEq, Addr.mk.injEq, and_true] at e
    obtain ⟨rfl, rfl⟩ := e
    have := hl j u hj
    rwa [show (⟨g, off, none⟩ : Addr).add j = ⟨g, off + j, none⟩ by unfold Addr.add; split <;> simp_all]
theorem flat_one (l : List Fr) : ∀ u ∈ flatF l, u.oneCell' = true := by
  intro u hu
  obtain ⟨f, _, hf⟩ := List.mem_flatMap.1 hu
  simp only [fC, List.mem_cons, List.not_mem_nil, or_false] at hf
  rcases hf with rfl | rfl | rfl | rfl <;> rfl
theorem flatF_set : ∀ (l : List Fr) (i : Nat) (f : Fr) (b : List UInt8), l[i]? = some f → (flatF l).set (i * 4 + 3) (.string (bs b)) = flatF (l.set i ⟨f.kind, f.a, f.b, b⟩)
  | [], i, f, b, h => by simp at h
  | g :: r, 0, f, b, h => by simp at h; subst h; rfl
  | g :: r, i + 1, f, b, h => by
    have h1 := flatF_set r i f b (by simpa using h)
    rw [show (i + 1) * 4 + 3 = (i * 4 + 3) + 1 + 1 + 1 + 1 by omega]
    show Value.int .i64 g.kind :: Value.int .u32 (vl g.a) :: Value.int .u32 (vl g.b) :: Value.string (bs g.body) :: (flatF r).set (i * 4 + 3) (.string (bs b)) = _
    rw [h1]; rfl
theorem owns_frozen {w : World} {base : Nat} {e : TypeId} {size g n c : Nat} {xs : List Value} (h : w.ownsRow base e size (.slice (some ⟨g, 0, none⟩) n c) n xs) (j : Nat) : w.frozen? ⟨g, j, none⟩ = false := by
  rcases h.2 with ⟨e1, _⟩ | ⟨g', cap, cur, e1, _, hh, _⟩
  · simp at e1
  · simp only [Value.slice.injEq, Option.some.injEq, Addr.mk.injEq, and_true] at e1
    obtain ⟨rfl, _, _⟩ := e1
    simp [World.frozen?, hh]
theorem owns_cell {w : World} {base : Nat} {e : TypeId} {size g n c : Nat} {xs : List Value} (h : w.ownsRow base e size (.slice (some ⟨g, 0, none⟩) n c) n xs) {j : Nat} {u : Value} (hj : xs[j]? = some u) : w.cell? ⟨g, j, none⟩ = some u := by
  rcases At.of_owns h with hn | ⟨b, off, ha, hl⟩
  · rw [hn] at hj; simp at hj
  · simp only [Option.some.injEq, Addr.mk.injEq, and_true] at ha
    obtain ⟨rfl, rfl⟩ := ha
    have := hl j u hj
    rwa [Nat.zero_add] at this
theorem owns_lt' {w : World} {base : Nat} {e : TypeId} {size g n c : Nat} {xs : List Value} (h : w.ownsRow base e size (.slice (some ⟨g, 0, none⟩) n c) n xs) : g < w.heap.size := (owns_block h g 0 rfl).2.2.2
end Go.Proofs.YtligapgjdpdihaaGreatDoor.Group
