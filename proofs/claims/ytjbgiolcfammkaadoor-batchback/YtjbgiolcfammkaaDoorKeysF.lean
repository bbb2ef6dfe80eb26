/-
  Sorted of package keys: what it answers of any texts.
-/
import Derived.Test.YtjbgiolcfammkaaDoorKeysE
import Derived.Test.YtjbgiolcfammkaaDoorJoinS
import Derived.Test.YtjbgiolcfammkaaDoorRefSortB
namespace Go.Proofs.YtjbgiolcfammkaaDoor.Keys
open Go.RowKit
open RuneM RefRune Own RefKeys SortM RefSort
open Go.Sort (Holds putRow SWO PermIn SortedIn)

/-- texts that are not too long -/
structure Sub where
  v : ByteArray
  le : v.size ≤ lim
theorem Sub.same {x y : Sub} (h : x.v = y.v) : x = y := by cases x; cases y; cases h; rfl
instance : Inhabited Sub := ⟨⟨ByteArray.empty, by decide⟩⟩
instance : DecidableEq Sub := fun x y => if h : x.v = y.v then isTrue (Sub.same h) else isFalse (fun e => h (by rw [e]))
def sv (x : Sub) : Value := .string x.v
def so (x y : Sub) : Int := ordS x.v y.v
theorem so_ord : Ord so where
  swap := fun a b => ordS_ord.swap a.v b.v
  trans := fun a b c => ordS_ord.trans a.v b.v c.v
  zero := fun a b h => Sub.same (ordS_ord.zero _ _ h)
theorem sub_eq (x y : Sub) : (x.v.toList == y.v.toList) = decide (x = y) := by
  rw [str_neq, Bool.eq_iff_iff]
  simp only [decide_eq_true_eq]
  exact ⟨fun h => Sub.same h, fun h => by rw [h]⟩
theorem sub_eql : EqlAt Tryd.prog 9 sv (fun x y => decide (x = y)) :=
  ⟨fun x y w => by rw [show sv x = .string x.v from rfl, show sv y = .string y.v from rfl, (EqlAt.string Tryd.prog 9).1 x.v y.v w]; simp only [sub_eq], fun op a b x y w => GuardAt.string Tryd.prog 9 op a b x.v y.v w⟩
theorem sub_neq : NeqAt Tryd.prog 9 sv (fun x y => decide (x = y)) :=
  ⟨fun x y w => by rw [show sv x = .string x.v from rfl, show sv y = .string y.v from rfl, (NeqAt.string Tryd.prog 9).1 x.v y.v w]; simp only [sub_eq], fun op a b x y w => GuardAt.string Tryd.prog 9 op a b x.v y.v w⟩
/-- the texts, as such -/
def subs (l : List ByteArray) (hz : ∀ s ∈ l, s.size ≤ lim) : List Sub := l.pmap (fun s h => ⟨s, h⟩) hz
theorem subs_val (l : List ByteArray) (hz : ∀ s ∈ l, s.size ≤ lim) : (subs l hz).map (·.v) = l := by
  unfold subs; rw [List.map_pmap]; simp
theorem subs_len (l : List ByteArray) (hz : ∀ s ∈ l, s.size ≤ lim) : (subs l hz).length = l.length := by unfold subs; simp
theorem strs_subs (l : List Sub) : strsV (l.map (·.v)) = l.map sv := by unfold strsV; simp [sv]
theorem sorted_is (l : List ByteArray) (hz : ∀ s ∈ l, s.size ≤ lim) (d' : Array Sub) (hp : PermIn 0 (subs l hz).toArray.size (subs l hz).toArray d') (hs : SortedIn (ltOf so) 0 (subs l hz).toArray.size d') :
    (Lib.compactUpTo d' d'.size).map (·.v) = sortedL l := by
  obtain ⟨h1, _, h3⟩ := hp
  rw [← h1] at hs
  have hc := compact_mem so_ord d' hs
  have e1 : d'.extract 0 (subs l hz).toArray.size = d' := by rw [← h1]; exact Array.extract_size
  rw [e1, Array.extract_size] at h3
  obtain ⟨k1, k2⟩ := sortedL_rising l
  refine rising_eq ordS_ord _ _ (List.pairwise_map.2 hc.1) k1 fun x => ?_
  rw [k2]
  simp only [List.mem_map, hc.2]
  constructor
  · rintro ⟨y, hy, rfl⟩
    have := h3.mem_iff.1 hy
    have h4 : y.v ∈ (subs l hz).map (·.v) := List.mem_map.2 ⟨y, by simpa using this, rfl⟩
    rw [subs_val] at h4; exact h4
  · intro hx
    rw [← subs_val l hz] at hx
    obtain ⟨y, hy, e⟩ := List.mem_map.1 hx
    exact ⟨y, h3.mem_iff.2 (by simpa using hy), e⟩

theorem below_sort {B : Nat} {w w1 : World} (h : Below B w w1) {g : Nat} (hg : B ≤ g) (m : Nat) (dk : Array Sub) (os : Array Obj) (hB : B ≤ w1.heap.size) : Below B w (sortWorld sv w1 g 0 m dk os) := by
  refine h.trans ⟨rfl, rfl, rfl, by simp [sortWorld, Sort.grow, putRow, Sort.mapBlock, Sort.ahead], fun k hk => ?_⟩
  unfold sortWorld
  rw [Sort.heap_grow_old _ _ (by simp [putRow, Sort.mapBlock, Sort.ahead]; omega)]
  have : g ≠ k := by omega
  simp [putRow, Sort.mapBlock, Sort.ahead, Array.getElem?_modify, this]
theorem below_put {B : Nat} {w w1 : World} (h : Below B w w1) {g : Nat} (hg : B ≤ g) (m : Nat) (dk : Array Sub) : Below B w (putRow sv (Sort.ahead w1 m) g 0 dk) := by
  refine h.trans ⟨rfl, rfl, rfl, by simp [putRow, Sort.mapBlock, Sort.ahead], fun k hk => ?_⟩
  have : g ≠ k := by omega
  simp [putRow, Sort.mapBlock, Sort.ahead, Array.getElem?_modify, this]
theorem order_lays {w w1 : World} (hT : Tabs w) (hb : Below w.heap.size w w1) {g n : Nat} (hg : w.heap.size ≤ g) : CmpLays1 Tryd.prog 58 #[] sv so g 0 n w1 := by
  intro m os dk _ x y
  have hT2 := hT.below (below_sort hb hg m dk os hb.size)
  refine Calls.mono (R := fun e w' => e = .returned (.int .i64 (ordS x.v y.v)) ∧ Grew (sortWorld sv w1 g 0 m dk os) w') (order_grew x.v y.v x.le y.le _ hT2) ?_
  rintro e w' ⟨he, hgr⟩
  exact ⟨he, hgr.grow⟩
theorem holds_row {w : World} {g : Nat} {cur : Array Value} {e : TypeId} {l : List ByteArray} (hz : ∀ s ∈ l, s.size ≤ lim) (hb : w.heap[g]? = some (.cells cur e (0, 0))) (ht : cur.toList.take l.length = strsV l) : Holds sv w g 0 (subs l hz).toArray := by
  intro j hj
  have hj' : j < l.length := by rw [← subs_len l hz]; simpa using hj
  refine ⟨?_, by simp [World.frozen?, hb]⟩
  have h1 : (cur.toList.take l.length)[j]? = (strsV l)[j]? := by rw [ht]
  rw [List.getElem?_take_of_lt hj'] at h1
  simp only [World.cell?, hb, Nat.zero_add]
  simp only [Option.isSome_none, Bool.false_eq_true, if_false]
  rw [← Array.getElem?_toList, h1]
  have e2 : strsV l = (subs l hz).map sv := by rw [← strs_subs, subs_val]
  have hj2 : j < (subs l hz).length := by rw [subs_len]; exact hj'
  rw [e2, List.getElem?_map, List.getElem?_eq_getElem hj2]
  simp [getElem!_pos, hj2]
theorem infoS : ∃ i0, Tryd.prog.info? 9 = some i0 ∧ i0.zero = some (.string ⟨#[]⟩) ∧ i0.size = 1 ∧ i0.bytes = 16 := by
  obtain ⟨i, h1, h2, h3, h4⟩ := info_parts infoStr
  exact ⟨i, h1, h2, h3, h4⟩
/-- what Compact leaves -/
theorem row_compact {w1 w2 : World} {g cap n q : Nat} {d d' : Array Sub} {os : Array Obj} (hblk : g < w1.heap.size) (hH : Holds sv w1 g 0 d) (hs : d'.size = d.size) (hw : w2 = putRow sv (Sort.ahead (sortWorld sv w1 g 0 n d' os) q) g 0 (Lib.compactUpTo d' d'.size ++ List.replicate (d'.size - (Lib.compactUpTo d' d'.size).length) default).toArray) :
    Row w2 (.slice (some ⟨g, 0, none⟩) (Lib.compactUpTo d' d'.size).length cap) ((Lib.compactUpTo d' d'.size).map sv) := by
  have hl : (Lib.compactUpTo d' d'.size).length ≤ d'.size := by
    unfold Lib.compactUpTo
    rw [List.length_map]
    have := List.length_filter_le (Lib.keeps d') (List.range d'.size)
    simpa using this
  refine ⟨_, cap, by rw [List.length_map], .inr ⟨g, rfl, fun j x hx => ?_⟩⟩
  have hH2 : Holds sv (Sort.ahead (sortWorld sv w1 g 0 n d' os) q) g 0 d' := holds_sortWorld sv w1 g 0 n d d' os hblk hH hs
  have hj : j < (Lib.compactUpTo d' d'.size).length := by have := (List.getElem?_eq_some_iff.1 hx).1; simpa using this
  have hc := Go.Sort.cell?_putRow sv (Sort.ahead (sortWorld sv w1 g 0 n d' os) q) g 0 d' (Lib.compactUpTo d' d'.size ++ List.replicate (d'.size - (Lib.compactUpTo d' d'.size).length) default).toArray hH2 (by simp; omega) j (by simp; omega)
  rw [hw]
  rw [Nat.zero_add] at hc
  rw [hc]
  rw [List.getElem?_map, List.getElem?_eq_getElem hj] at hx
  have hj3 : j < (Lib.compactUpTo d' d'.size ++ List.replicate (d'.size - (Lib.compactUpTo d' d'.size).length) default).toArray.size := by simp; omega
  rw [getElem!_pos _ j hj3]
  simp only [Option.map_some, Option.some.injEq] at hx
  rw [← hx]
  simp [List.getElem_append_left hj]

set_option maxHeartbeats 2000000 in
theorem sort_any (v : Value) (l : List ByteArray) (B : Nat) (hl : l.length ≤ 1000000) (hz : ∀ s ∈ l, s.size ≤ lim) (w : World) (hT : Tabs w) (hM : Mine w B 9 v (strsV l)) :
    Calls Tryd.prog 34 #[v] w fun e w' => ∃ v', e = .returned v' ∧ Row w' v' (strsV (sortedL l)) ∧ Below w.heap.size w w' := by
  have hlen : (strsV l).length = l.length := by simp [strsV]
  rcases hM.2 with ⟨rfl, hn⟩ | ⟨g0, cap0, cur0, rfl, _, hb0, hc1, hc2, hc3, hc4⟩
  · have hl0 : l = [] := List.length_eq_zero_iff.1 (by omega)
    subst hl0
    go_enter Tryd.func34, Tryd.ntmps34
    go_wp2_with (first
      | (go_at_call 56; (with_reducible refine (Tryd.slices_Clone_nil _ _ _).mono ?_); rintro e w2 ⟨rfl, rfl⟩)
      | (go_at_call 57; (with_reducible refine (Tryd.slices_SortFunc_none (α := Sub) _ _ _ _).mono ?_); rintro e w2 ⟨rfl, rfl⟩)
      | (go_at_call 59; (with_reducible refine (Tryd.slices_Compact_string_empty _ _ _).mono ?_); rintro e w2 ⟨rfl, rfl⟩))
    go_ret
    exact ⟨_, rfl, Row.nil _, Below.refl _ _⟩
  · obtain ⟨i0, hi1, hi2, hi3, hi4⟩ := infoS
    rw [Nat.mul_one] at hc3 hc4
    rw [hlen] at hc1 hc4
    have hcell : ∀ j u, (strsV l)[j]? = some u → w.cell? ⟨g0, 0 + j, none⟩ = some u := by
      intro j u hu
      have hj : j < l.length := by rw [← hlen]; exact (List.getElem?_eq_some_iff.1 hu).1
      rw [← hc4, List.getElem?_take_of_lt hj] at hu
      have hu' : cur0[j]? = some u := by simpa using hu
      simp [World.cell?, hb0, hu']
    have HC := Lib.hid (Tryd.slices_Clone i0 (.string ⟨#[]⟩) 1 16 hi1 hi2 hi3 hi4 rfl (by decide) Tryd.sizeOf9 g0 0 l.length cap0 (strsV l) w (by simp [strsV]) (by unfold maxLen; omega) (by omega) hcell oneStr)
    clear hcell hi1 hi2 hi3 hi4 hb0 hc1 hc2 hc3 hc4 hM
    rw [hlen]
    go_enter Tryd.func34, Tryd.ntmps34
    go_wp2_with fail
    go_at_call 56
    with_reducible refine HC.out.mono ?_
    rintro e w1 ⟨v', rfl, ho, hne, hb1⟩
    rcases ho.2 with ⟨hnil, _⟩ | ⟨g, cap, cur, rfl, hg, hbg, k1, k2, k3, k4⟩
    · exact absurd hnil hne
    rw [Nat.mul_one] at k3 k4
    have hH := holds_row hz hbg k4
    have hgl : g < w1.heap.size := (Array.getElem?_eq_some_iff.1 hbg).1
    have hsz : (subs l hz).toArray.size = l.length := by simp [subs_len]
    have HS := Lib.hid (Tryd.slices_SortFunc sv (fun _ => rfl) so so_ord.swo 58 #[] g 0 cap (subs l hz).toArray w1 (enters_of Tryd.func58 (by kernel_rfl) rfl) (order_lays hT hb1 hg) hH hgl (by rw [hsz]; omega))
    rw [hsz] at HS
    clear ho hne hbg k2 k3 k4
    go_wp2_with fail
    go_at_call 57
    with_reducible refine HS.out.mono ?_
    rintro e w2 ⟨rfl, d', n, os, hp, hs, rfl⟩
    have hds : d'.size = (subs l hz).toArray.size := hp.1
    have hH2 := holds_sortWorld sv w1 g 0 n _ d' os hgl hH hds
    have hds2 : d'.size = l.length := by omega
    rw [← hsz] at hp hs
    have HF := Lib.hid (sorted_is l hz d' hp hs)
    have HK := Lib.hid (Tryd.slices_Compact sv (fun _ => rfl) sub_eql sub_neq default Tryd.zeroValue9 g 0 cap d' _ hH2 (by omega) (by omega))
    rw [hds2] at HK
    go_wp2_with fail
    go_at_call 59
    with_reducible refine HK.out.mono ?_
    rintro e w3 ⟨rfl, q, hw⟩
    rw [← hds2] at hw
    have hrow := row_compact (cap := cap) hgl hH hds hw
    have HB : Hid (Below w.heap.size w w3) := by
      rw [hw]; exact below_put (below_sort hb1 hg n d' os hb1.size) hg q _
    rw [hds2] at hrow HF
    have HR := Lib.hid hrow
    clear hrow hw hds2 hds HK HS HC hH hH2
    go_wp2
    go_ret
    exact ⟨_, rfl, by rw [← HF.out, strs_subs]; exact HR.out, HB.out⟩
end Go.Proofs.YtjbgiolcfammkaaDoor.Keys
