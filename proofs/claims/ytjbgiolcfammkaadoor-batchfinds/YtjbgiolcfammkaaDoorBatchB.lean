/-
  What the document's own Find, Keys and Make answer of any writes.
-/
import Derived.Test.YtjbgiolcfammkaaDoorBatchA
import Derived.Test.YtjbgiolcfammkaaDoorRefSortB
namespace Go.Proofs.YtjbgiolcfammkaaDoor.Batch
open Go.RowKit
open Own Tup RefKeys RefSort
open Go.Proofs.YtjbgiolcfammkaaDoor.Region (fill Then Deps Each wp_region_tail)

/-- the last write of a key -/
def findW (l : List Wr) (key : ByteArray) : Option Wr := l.reverse.find? fun x => decide (x.key = key)
theorem find_hit {l : List Wr} {key : ByteArray} {k : Nat} (hk : k < l.length) (h : l[k].key = key) (hn : ∀ x ∈ l.drop (k + 1), x.key ≠ key) : findW l key = some l[k] := by
  have e : l = l.take k ++ (l[k] :: l.drop (k + 1)) := by rw [← List.drop_eq_getElem_cons hk, List.take_append_drop]
  unfold findW
  conv => lhs; rw [e]
  rw [List.reverse_append, List.reverse_cons, List.append_assoc, List.find?_append]
  have : (l.drop (k + 1)).reverse.find? (fun x => decide (x.key = key)) = none := by
    rw [List.find?_eq_none]; intro x hx; simpa using hn x (by simpa using hx)
  rw [this]
  simp [h]
theorem find_none {l : List Wr} {key : ByteArray} (hn : ∀ x ∈ l, x.key ≠ key) : findW l key = none := by
  unfold findW
  rw [List.find?_eq_none]; intro x hx; simpa using hn x (by simpa using hx)
def zeroW : Wr := ⟨ByteArray.empty, false, ByteArray.empty⟩
/-- a write as a value -/
def aggW (x : Wr) : Value := .agg #[.string x.key, .bool x.del, .string x.val]
def foundV (o : Option Wr) : Value := .tuple #[aggW (o.getD zeroW), .bool o.isSome]
set_option maxRecDepth 100000 in
set_option maxHeartbeats 4000000 in
theorem find_any (a : Option Addr) (l : List Wr) (cap : Nat) (key : ByteArray) (hl : l.length ≤ 1000000) (w : World) (hr : WAt w a l) :
    Calls Tryd.prog 18 #[.slice a l.length cap, .string key] w fun e w' => e = .returned (foundV (findW l key)) ∧ Below w.heap.size w w' := by
  have HR := Lib.hid (Tup.At.alloc hr (.cells #[.string ⟨#[]⟩, .bool false, .string ⟨#[]⟩] 31))
  have HV := Lib.hid (Var.new w 31 [.string ⟨#[]⟩, .bool false, .string ⟨#[]⟩])
  have HB := Lib.hid ((Below.refl w.heap.size w).alloc (Nat.le_refl _) (.cells #[.string ⟨#[]⟩, .bool false, .string ⟨#[]⟩] 31))
  clear hr
  go_enter Tryd.func18, Tryd.ntmps18
  go_wp2
  go_loop [6] (fun i => ∃ k : Nat, i = .int .i64 ((k : Int) - 1) ∧ k ≤ l.length ∧ ∀ x ∈ l.drop k, x.key ≠ key) (fun i => (intOf i + 1).toNat)
  case atStart => exact ⟨l.length, rfl, Nat.le_refl _, by simp⟩
  case round =>
    obtain ⟨k, rfl, hk, hn⟩ := hrel
    have HN := Lib.hid hn
    clear hn
    by_cases h0 : k = 0
    · subst h0
      have HE := Lib.hid (find_none (l := l) (key := key) (fun x hx => HN.out x hx))
      rw [show (((0 : Nat) : Int)) - 1 = -1 from rfl]
      go_wp2
      refine bodyPost_ret (by simp [results, Tryd.results18, go_sem]; try rfl) rfl ?_
      rw [HE.out]
      exact ⟨rfl, HB.out⟩
    · obtain ⟨j, rfl⟩ : ∃ j, k = j + 1 := ⟨k - 1, by omega⟩
      have e1 : (((j + 1 : Nat) : Int)) - 1 = (j : Int) := by omega
      rw [e1]
      clear e1
      have hj : j < l.length := by omega
      obtain ⟨b, off, ha, c0, c1, c2⟩ := WAt.get HR.out (List.getElem?_eq_getElem hj)
      subst ha
      by_cases hkey : l[j].key = key
      · have HE := Lib.hid (find_hit hj hkey HN.out)
        have q : (l[j].key.toList == key.toList) = true := by rw [str_neq]; simpa using hkey
        generalize l[j] = x at *
        clear hkey
        go_wp2
        refine bodyPost_ret (by simp [results, Tryd.results18, go_sem]; try rfl) rfl ?_
        rw [HE.out]
        exact ⟨rfl, (Below.refl w.heap.size w).alloc (Nat.le_refl _) _⟩
      · have q : (l[j].key.toList == key.toList) = false := by rw [str_neq]; simpa using hkey
        have HN2 : Hid (∀ x ∈ l.drop j, x.key ≠ key) := by
          intro x hx
          rw [List.drop_eq_getElem_cons hj] at hx
          rcases List.mem_cons.1 hx with rfl | hx
          · exact hkey
          · exact HN.out x hx
        generalize l[j] = x at *
        clear hkey
        go_wp2
        go_round
        case rel => exact ⟨j, by go_num, by omega, HN2.out⟩
        case measure => simp [intOf] <;> omega
/-- all keys, in order, each once -/
def keysW (l : List Wr) : List ByteArray := sortedL (l.map (·.key))
structure KeysAt (l : List Wr) (w : World) (v : Value) (k : Nat) (wr : World) : Prop where
  le : k ≤ l.length
  own : Mine wr w.heap.size 9 v (strsV ((l.take k).map (·.key)))
  below : Below w.heap.size w wr
theorem keys_succ (l : List Wr) (k : Nat) (h : k < l.length) : strsV ((l.take (k + 1)).map (·.key)) = strsV ((l.take k).map (·.key)) ++ [.string l[k].key] := by
  rw [List.take_succ_eq_append_getElem h, List.map_append]; simp [strsV]
set_option maxRecDepth 100000 in
set_option maxHeartbeats 4000000 in
theorem refKeys_any (a : Option Addr) (l : List Wr) (cap : Nat) (hl : l.length ≤ 1000000) (hz : ∀ x ∈ l, x.key.size ≤ 8796093022208) (w : World) (hr : WAt w a l) :
    Calls Tryd.prog 21 #[.slice a l.length cap] w fun e w' => ∃ v, e = .returned v ∧ Row w' v (strsV (keysW l)) ∧ Below w.heap.size w w' := by
  have HR := Lib.hid hr
  have HZ : Hid (∀ s ∈ l.map (·.key), s.size ≤ 8796093022208) := by
    intro s hs
    obtain ⟨x, hx, rfl⟩ := List.mem_map.1 hs
    exact hz x hx
  clear hr hz
  go_enter Tryd.func21, Tryd.ntmps21
  go_wp2
  go_loopw [3, 4] (fun v i wr => ∃ k : Nat, i = .int .i64 (k : Int) ∧ KeysAt l w v k wr) (fun _ i _ => l.length - (intOf i).toNat)
  case atStart => exact ⟨0, rfl, ⟨Nat.zero_le _, Mine.nil _ _ _, Below.refl _ _⟩⟩
  case round =>
    obtain ⟨k, rfl, hle, hown, hbel⟩ := hrel
    have HO := Lib.hid hown
    have HB := Lib.hid hbel
    have hbs := hbel.size
    clear hbel
    by_cases hk : k < l.length
    · have d1 : decide ((k : Int) < (l.length : Int)) = true := by simp; omega
      obtain ⟨b, off, ha, c0, -, -⟩ := WAt.get (Tup.At.below HR.out HB.out) (List.getElem?_eq_getElem hk)
      have HS := Lib.hid (keys_succ l k hk)
      generalize l[k] = x at c0 HS
      subst ha
      have hlen : (strsV ((l.take k).map (·.key))).length = k := by simp [strsV]; omega
      obtain ⟨L, hL⟩ : ∃ L, L = strsV ((l.take k).map (·.key)) := ⟨_, rfl⟩
      rw [← hL] at hown HS hlen
      clear HO hL
      have b1 : (L.length + 1) * 16 ≤ 140737488355328 := by omega
      have b2 : L.length + 1 ≤ maxLen := by simp only [maxLen]; omega
      clear hlen
      go_wp2_with (at_builtin; (refine append_one rfl _ _ 35 rfl w.heap.size 9 (.string ⟨#[]⟩) 16 Tryd.underlying35 infoStr rfl u3 _ rfl (Mine.alloc hown _) wr.heap.size (.string x.key) rfl ?c1 rfl b1 b2 ?c2 ?_); (case c1 => simp); (case c2 => (simp; omega)); intro g cap2 w2 hown2 hgrow2 hat2 hlt2)
      have hbel2 := below_append (HB.out.alloc hbs (.cells #[.string x.key] 9)) hgrow2 (by simp; omega) (fun t ht => (hown.lt t ht).2)
      go_roundw
      case rel => exact ⟨k + 1, by go_num, ⟨by omega, by rw [HS.out]; exact hown2, hbel2⟩⟩
      case measure => simp [intOf]; omega
    · have d1 : decide ((k : Int) < (l.length : Int)) = false := by simp; omega
      have HE := Lib.hid (show (l.take k).map (·.key) = l.map (·.key) by rw [List.take_of_length_le (by omega)])
      obtain ⟨va, vc, hv, hcells⟩ := row_strs (HE.out ▸ hown.row : Row wr u3 (strsV (l.map (·.key))))
      subst hv
      have HSRT := Lib.hid (sorted_any va (l.map (·.key)) vc (by simpa using hl) HZ.out wr hcells)
      rw [List.length_map] at HSRT ⊢
      clear hown hcells
      go_wp2_with fail
      go_at_call 35
      with_reducible refine HSRT.out.mono ?_
      rintro e w2 ⟨v, rfl, hrow, hb2⟩
      go_wp2
      go_ret
      exact ⟨_, rfl, hrow, HB.out.trans (hb2.mono hbs)⟩
end Go.Proofs.YtjbgiolcfammkaaDoor.Batch
