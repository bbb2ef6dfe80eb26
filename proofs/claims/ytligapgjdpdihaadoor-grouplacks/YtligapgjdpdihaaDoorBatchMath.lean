/-
  What is written of a batch is read again, and the other way round; a batch that is made is one. No walk.
-/
import Derived.Test.YtligapgjdpdihaaDoorRunBatchE
import Derived.Test.YtligapgjdpdihaaDoorRunLayA
import Derived.Test.YtligapgjdpdihaaDoorSortMath
set_option linter.unusedVariables false
set_option linter.unusedSimpArgs false
namespace Go.Proofs.YtligapgjdpdihaaDoor.Batch
open RefKeys RefSort Lay LayM RefRune SortM

/-- the bytes of some writes -/
def itemsB (l : List Wr) : ByteArray := l.foldr (fun x b => itemB x ++ b) ByteArray.empty
theorem itemsB_cons (x : Wr) (l : List Wr) : itemsB (x :: l) = itemB x ++ itemsB l := rfl
theorem layTo_items (l : List Wr) (k : Nat) : layTo l k ++ itemsB (l.drop k) = layTo l 0 ++ itemsB l := by
  induction k with
  | zero => rfl
  | succ k ih =>
    by_cases h : k < l.length
    · rw [← ih, layTo_succ l k h, List.drop_eq_getElem_cons h, itemsB_cons, ByteArray.append_assoc]
    · rw [← ih]
      have e1 : l.drop (k + 1) = l.drop k := by rw [List.drop_of_length_le (by omega), List.drop_of_length_le (by omega)]
      have e2 : layTo l (k + 1) = layTo l k := by unfold layTo; rw [List.take_of_length_le (by omega), List.take_of_length_le (by omega)]
      rw [e1, e2]
theorem layB_items (l : List Wr) : layB l = numS l.length ++ itemsB l := by
  have := layTo_items l l.length
  rw [List.drop_length] at this
  simpa [layB, itemsB, layTo] using this
theorem bAt_mid (a b : ByteArray) (c : UInt8) : bAt (a ++ ⟨#[c]⟩ ++ b) a.size = c.toNat := by
  have h : a.size < (a ++ ⟨#[c]⟩ ++ b).size := by
    have e : (⟨#[c]⟩ : ByteArray).size = 1 := rfl
    simp only [ByteArray.size_append, e]; omega
  rw [← bAt_eq _ _ h]
  have h2 := nb_drop _ _ h
  have h3 : (nb (a ++ ⟨#[c]⟩ ++ b)).drop a.size = c.toNat :: nb b := by
    rw [nb_append, nb_append, List.append_assoc, List.drop_left' (nb_length a)]; rfl
  rw [h3] at h2
  exact (List.cons.inj h2).1.symm
theorem one_size (c : UInt8) : (⟨#[c]⟩ : ByteArray).size = 1 := rfl
/-- one write is read -/
theorem read_item (a b : ByteArray) (x : Wr) (hk : x.key.size ≤ 48) (hv : x.val.size ≤ 48) (hd : x.del = true → x.val = ByteArray.empty) (n : Nat) (acc : List Wr) :
    readGo (a ++ itemB x ++ b) (n + 1) a.size acc = readGo (a ++ itemB x ++ b) n (a ++ itemB x).size (acc ++ [x]) := by
  cases hdel : x.del with
  | true =>
    have hi : itemB x = ⟨#[1]⟩ ++ textS x.key := by unfold itemB; rw [hdel]; rfl
    have e : a ++ itemB x ++ b = a ++ ⟨#[1]⟩ ++ (textS x.key ++ b) := by rw [hi]; simp only [ByteArray.append_assoc]
    have e2 : a ++ itemB x ++ b = (a ++ ⟨#[1]⟩) ++ textS x.key ++ b := by rw [hi]; simp only [ByteArray.append_assoc]
    have hc : bAt (a ++ itemB x ++ b) a.size = 1 := by rw [e]; exact bAt_mid a _ 1
    have hz : a.size < (a ++ itemB x ++ b).size := by rw [e]; simp only [ByteArray.size_append, one_size]; omega
    have ht := read_text (a ++ ⟨#[1]⟩) b x.key (by omega) 48
    rw [← e2, if_neg (by omega)] at ht
    have hs : ((a ++ ⟨#[1]⟩ : ByteArray).size : Int) = (a.size : Int) + 1 := by simp only [ByteArray.size_append, one_size]; omega
    rw [hs] at ht
    have hx : x = ⟨x.key, true, ByteArray.empty⟩ := by
      have := hd hdel
      cases x; simp at hdel this ⊢; exact ⟨hdel, this⟩
    rw [readGo, if_neg (by omega), hc, if_neg (by omega), ht, if_neg (by simp), if_pos rfl]
    have hp : (a ++ ⟨#[1]⟩ : ByteArray).size + (textS x.key).size = (a ++ itemB x).size := by rw [hi]; simp only [ByteArray.size_append]; omega
    rw [hp, ← hx]
  | false =>
    have hi : itemB x = ⟨#[0]⟩ ++ textS x.key ++ textS x.val := by unfold itemB; rw [hdel]; rfl
    have e : a ++ itemB x ++ b = a ++ ⟨#[0]⟩ ++ (textS x.key ++ textS x.val ++ b) := by rw [hi]; simp only [ByteArray.append_assoc]
    have e2 : a ++ itemB x ++ b = (a ++ ⟨#[0]⟩) ++ textS x.key ++ (textS x.val ++ b) := by rw [hi]; simp only [ByteArray.append_assoc]
    have e3 : a ++ itemB x ++ b = (a ++ ⟨#[0]⟩ ++ textS x.key) ++ textS x.val ++ b := by rw [hi]; simp only [ByteArray.append_assoc]
    have hc : bAt (a ++ itemB x ++ b) a.size = 0 := by rw [e]; exact bAt_mid a _ 0
    have hz : a.size < (a ++ itemB x ++ b).size := by rw [e]; simp only [ByteArray.size_append, one_size]; omega
    have ht := read_text (a ++ ⟨#[0]⟩) (textS x.val ++ b) x.key (by omega) 48
    rw [← e2, if_neg (by omega)] at ht
    have hs : ((a ++ ⟨#[0]⟩ : ByteArray).size : Int) = (a.size : Int) + 1 := by simp only [ByteArray.size_append, one_size]; omega
    rw [hs] at ht
    have ht2 := read_text (a ++ ⟨#[0]⟩ ++ textS x.key) b x.val (by omega) 48
    rw [← e3, if_neg (by omega)] at ht2
    have hs2 : (a ++ ⟨#[0]⟩ : ByteArray).size + (textS x.key).size = (a ++ ⟨#[0]⟩ ++ textS x.key).size := by simp only [ByteArray.size_append]
    have hx : x = ⟨x.key, false, x.val⟩ := by cases x; simp at hdel ⊢; exact hdel
    rw [readGo, if_neg (by omega), hc, if_neg (by omega), ht, if_neg (by simp), if_neg (by omega)]
    simp only
    rw [hs2, ht2, if_neg (by simp)]
    simp only
    have hp : (a ++ ⟨#[0]⟩ ++ textS x.key).size + (textS x.val).size = (a ++ itemB x).size := by rw [hi]; simp only [ByteArray.size_append]; omega
    rw [hp, ← hx]
/-- what a batch of one's own must be -/
def Fine (l : List Wr) : Prop := ∀ x ∈ l, x.key.size ≤ 48 ∧ x.val.size ≤ 48 ∧ (x.del = true → x.val = ByteArray.empty)
theorem read_items (a : ByteArray) : ∀ (l acc : List Wr), Fine l → readGo (a ++ itemsB l) l.length a.size acc = readGo (a ++ itemsB l) 0 (a ++ itemsB l).size (acc ++ l) := by
  intro l
  induction l generalizing a with
  | nil => intro acc _; simp [itemsB]
  | cons x r ih =>
    intro acc hf
    have hx := hf x (by simp)
    have h1 := read_item a (itemsB r) x hx.1 hx.2.1 hx.2.2 r.length acc
    have h2 := ih (a ++ itemB x) (acc ++ [x]) (fun y hy => hf y (by simp [hy]))
    rw [itemsB_cons, ← ByteArray.append_assoc, List.length_cons, h1, h2]
    simp
theorem rightGo_fine : ∀ (l : List Wr) (p : Option ByteArray), rightGo p l = 0 → Fine l
  | [], _, _ => fun x hx => by simp at hx
  | y :: r, p, h => by
    rw [rightGo] at h
    split at h
    · simp at h
    split at h
    · simp at h
    split at h
    · simp at h
    rename_i h1 h2 h3
    intro x hx
    rcases List.mem_cons.1 hx with rfl | hx
    · refine ⟨key_short (by simpa using h1), by omega, fun hd => ?_⟩
      unfold badW at h3
      simp [hd] at h3
      exact h3.1
    · exact rightGo_fine r _ h x hx
/-- a batch comes back from its bytes -/
theorem read_back {l : List Wr} (h : rightW l = 0) : readW (layB l) = (l, 0) := by
  obtain ⟨h1, h8, hg⟩ := rightW_ok h
  have hf := rightGo_fine l none hg
  have hn := read_num ByteArray.empty (itemsB l) (v := l.length) (by omega)
  have e : ByteArray.empty ++ numS l.length ++ itemsB l = layB l := by rw [layB_items]; simp
  rw [e] at hn
  have hz : ((ByteArray.empty.size : Nat) : Int) = 0 := rfl
  rw [hz] at hn
  unfold readW
  rw [hn, if_neg (by simp)]
  simp only
  rw [if_neg (by omega)]
  have hr := read_items (numS l.length) l [] hf
  rw [← layB_items] at hr
  rw [show ByteArray.empty.size + (numS l.length).size = (numS l.length).size by simp, hr, readGo, if_pos rfl]
  simp [h]
theorem getT_text {b : ByteArray} {a : Int} {s : ByteArray} {p : Nat} (h : getT b a 48 = (s, p, 0)) : ∃ k : Nat, a = k ∧ k ≤ p ∧ p ≤ b.size ∧ b.extract k p = textS s := by
  unfold getT at h
  split at h
  · rename_i h0; simp only [Prod.mk.injEq] at h; exact absurd h.2.2 h0
  rename_i h0
  obtain ⟨k, v, n, hk, -, hg, hn, hv, hp, -, -⟩ := getN_ok (by simpa using h0)
  rw [hn] at h
  simp only at h
  split at h
  · simp at h
  split at h
  · simp at h
  · rename_i h1 h2
    simp only [Prod.mk.injEq, and_true] at h
    obtain ⟨rfl, rfl⟩ := h
    exact ⟨k, hk, by omega, by omega, once_text hg (by omega)⟩
theorem byte_at {b : ByteArray} {p : Nat} (h : p < b.size) {c : Nat} (hc : bAt b p = c) (hc2 : c < 256) : b.extract p (p + 1) = ⟨#[UInt8.ofNat c]⟩ := by
  apply nb_inj
  rw [nb_extract, nb_drop b p h, bAt_eq b p h, hc, Nat.add_sub_cancel_left]
  simp [nb, Nat.mod_eq_of_lt hc2]
theorem extract_all (b : ByteArray) : b.extract b.size b.size = ByteArray.empty := by
  apply nb_inj; rw [nb_extract]; simp [nb]
theorem readGo_once (b : ByteArray) : ∀ n p acc l, readGo b n p acc = (l, 0) → p ≤ b.size → ∃ rest, l = acc ++ rest ∧ rest.length = n ∧ b.extract p b.size = itemsB rest ∧ rightW l = 0 := by
  intro n
  induction n with
  | zero =>
    intro p acc l h hp
    rw [readGo] at h
    split at h
    · rename_i hpe
      split at h
      · rename_i hr
        simp only [Prod.mk.injEq, and_true] at h
        subst h
        exact ⟨[], by simp, rfl, by rw [hpe, extract_all]; rfl, hr⟩
      · rename_i hr; simp only [Prod.mk.injEq] at h; exact absurd h.2 hr
    · simp at h
  | succ n ih =>
    intro p acc l h hp
    rw [readGo] at h
    split at h
    · simp at h
    rename_i hps
    split at h
    · simp at h
    rename_i hc
    split at h
    · rename_i he; simp only [Prod.mk.injEq] at h; exact absurd h.2 he
    rename_i he
    obtain ⟨s1, p1, e1, hr1⟩ : ∃ s1 p1 e1, getT b ((p : Int) + 1) 48 = (s1, p1, e1) := ⟨_, _, _, rfl⟩
    rw [hr1] at h he
    simp only at h he
    have he1 : e1 = 0 := by omega
    subst he1
    obtain ⟨k1, hk1, hk2, hk3, hk4⟩ := getT_text hr1
    have hk1 : k1 = p + 1 := by omega
    subst hk1
    split at h
    · rename_i hc1
      obtain ⟨rest, h1, h2, h3, h4⟩ := ih _ _ _ h hk3
      refine ⟨⟨s1, true, ByteArray.empty⟩ :: rest, by rw [h1]; simp, by simp [h2], ?_, h4⟩
      rw [itemsB_cons, ← h3, extract_split b (show p ≤ p + 1 by omega) (show p + 1 ≤ b.size by omega), extract_split b hk2 hk3, hk4, byte_at (by omega) hc1 (by omega), ← ByteArray.append_assoc]
      rfl
    · rename_i hc1
      split at h
      · rename_i he2; simp only [Prod.mk.injEq] at h; exact absurd h.2 he2
      rename_i he2
      obtain ⟨s2, p2, e2, hr2⟩ : ∃ s2 p2 e2, getT b ((p1 : Nat) : Int) 48 = (s2, p2, e2) := ⟨_, _, _, rfl⟩
      rw [hr2] at h he2
      simp only at h he2
      have he2 : e2 = 0 := by omega
      subst he2
      obtain ⟨k2, hj1, hj2, hj3, hj4⟩ := getT_text hr2
      have hj1 : k2 = p1 := by omega
      subst hj1
      obtain ⟨rest, h1, h2, h3, h4⟩ := ih _ _ _ h hj3
      refine ⟨⟨s1, false, s2⟩ :: rest, by rw [h1]; simp, by simp [h2], ?_, h4⟩
      rw [itemsB_cons, ← h3, extract_split b (show p ≤ p + 1 by omega) (show p + 1 ≤ b.size by omega), extract_split b hk2 hk3, extract_split b hj2 hj3, hk4, hj4, byte_at (c := 0) (by omega) (by omega) (by omega)]
      simp only [itemB, Bool.false_eq_true, if_false, ByteArray.append_assoc]
      rfl
theorem readGo_err (b : ByteArray) : ∀ n p acc l c, readGo b n p acc = (l, c) → c ≠ 0 → l = [] := by
  intro n
  induction n with
  | zero =>
    intro p acc l c h hc
    rw [readGo] at h
    split at h
    · split at h
      · simp only [Prod.mk.injEq] at h; exact absurd h.2.symm hc
      · simp only [Prod.mk.injEq] at h; exact h.1.symm
    · simp only [Prod.mk.injEq] at h; exact h.1.symm
  | succ n ih =>
    intro p acc l c h hc
    rw [readGo] at h
    repeat' split at h
    all_goals first | exact ih _ _ _ _ h hc | (simp only [Prod.mk.injEq] at h; exact h.1.symm)
theorem read_err {b : ByteArray} {l : List Wr} {c : Nat} (h : readW b = (l, c)) (hc : c ≠ 0) : l = [] := by
  unfold readW at h
  repeat' split at h
  all_goals first | exact readGo_err b _ _ _ _ _ h hc | (simp only [Prod.mk.injEq] at h; exact h.1.symm)
/-- what is read is a batch, and has just those bytes -/
theorem read_once {b : ByteArray} {l : List Wr} (h : readW b = (l, 0)) : layB l = b ∧ rightW l = 0 := by
  unfold readW at h
  split at h
  · rename_i h0; simp only [Prod.mk.injEq] at h; exact absurd h.2 h0
  rename_i h0
  obtain ⟨k, v, n, hk, -, hg, hn, hv, hp, -, -⟩ := getN_ok (by simpa using h0)
  have hk : k = 0 := by omega
  subst hk
  rw [hn] at h
  simp only at h
  split at h
  · simp at h
  obtain ⟨rest, h1, h2, h3, h4⟩ := readGo_once b _ _ _ _ h hp
  have h1 : l = rest := by simpa using h1
  subst h1
  refine ⟨?_, h4⟩
  have hx := once_num hg
  rw [layB_items, h2, ← hx, ← h3, ← extract_split b (by omega) hp]
  apply nb_inj; rw [nb_extract]
  simp [← nb_length]
theorem find_spec {l : List Wr} {k : ByteArray} {x : Wr} (h : findW l k = some x) : x.key = k ∧ x ∈ l := by
  unfold findW at h
  exact ⟨by simpa using List.find?_some h, by simpa using List.mem_of_find?_eq_some h⟩
theorem find_some {l : List Wr} {k : ByteArray} (h : k ∈ l.map (·.key)) : ∃ x, findW l k = some x := by
  obtain ⟨x, hx, hk⟩ := List.mem_map.1 h
  cases hf : findW l k with
  | some y => exact ⟨y, rfl⟩
  | none =>
    unfold findW at hf
    rw [List.find?_eq_none] at hf
    have := hf x (by simpa using hx)
    simp [hk] at this
theorem keys_spec (l : List Wr) : Rising ordS (keysW l) ∧ ∀ k, k ∈ keysW l ↔ k ∈ l.map (·.key) := sortedL_rising _
theorem clean_key (x : Wr) : (cleanW x).key = x.key := by unfold cleanW; split <;> rfl
theorem clean_clean (x : Wr) : cleanW (cleanW x) = cleanW x := by
  unfold cleanW
  cases hd : x.del <;> simp [hd]
theorem clean_spec (x : Wr) : (cleanW x).del = true → (cleanW x).val = ByteArray.empty := by
  unfold cleanW
  cases hd : x.del <;> simp [hd]
theorem clean_val {x : Wr} (h : x.val.size ≤ 48) : (cleanW x).val.size ≤ 48 := by
  unfold cleanW
  split
  · simp
  · exact h
theorem last_spec {l : List Wr} {k : ByteArray} (h : k ∈ keysW l) : ∃ x ∈ l, x.key = k ∧ lastW l k = cleanW x ∧ findW l k = some x := by
  obtain ⟨x, hx⟩ := find_some ((keys_spec l).2 k |>.1 h)
  obtain ⟨h1, h2⟩ := find_spec hx
  exact ⟨x, h2, h1, by unfold lastW; rw [hx]; rfl, hx⟩
theorem make_keys (l : List Wr) : (makeW l).map (·.key) = keysW l := by
  unfold makeW
  rw [List.map_map]
  have : (keysW l).map ((·.key) ∘ lastW l) = (keysW l).map id := by
    apply List.map_congr_left
    intro k hk
    obtain ⟨x, _, h1, h2, _⟩ := last_spec hk
    simp [h2, clean_key, h1]
  rw [this, List.map_id]
theorem rightGo_rise : ∀ (l : List Wr) (p : Option ByteArray), (∀ x ∈ l, keyRight x.key = true ∧ x.val.size ≤ 48 ∧ (x.del = true → x.val = ByteArray.empty)) → Rising ordS (p.toList ++ l.map (·.key)) → rightGo p l = 0
  | [], _, _, _ => rfl
  | x :: r, p, hf, hr => by
    obtain ⟨h1, h2, h3⟩ := hf x (by simp)
    have hb : badW p x = false := by
      unfold badW
      have e1 : (x.del && !decide (x.val = ByteArray.empty)) = false := by
        cases hd : x.del with
        | false => rfl
        | true => simp [h3 hd]
      rw [e1, Bool.false_or]
      cases p with
      | none => rfl
      | some q =>
        have : ordS q x.key < 0 := by
          have h : Rising ordS (q :: x.key :: r.map (·.key)) := hr
          exact (List.pairwise_cons.1 h).1 x.key (by simp)
        simp [ahead_ord, this]
    rw [rightGo, if_neg (by simp [h1]), if_neg (by omega), if_neg (by simp [hb])]
    refine rightGo_rise r (some x.key) (fun y hy => hf y (by simp [hy])) ?_
    have h : Rising ordS (x.key :: r.map (·.key)) := by
      cases p with
      | none => exact hr
      | some q => exact (List.pairwise_cons.1 (show Rising ordS (q :: x.key :: r.map (·.key)) from hr)).2
    exact h
theorem keys_len {l : List Wr} : (keysW l).length ≤ l.length := by
  have := sortedL_length (l.map (·.key)); rw [List.length_map] at this; exact this
theorem make_len (l : List Wr) : (makeW l).length = (keysW l).length := by simp [makeW]
/-- made of keys, few enough, it is a batch -/
theorem make_right {l : List Wr} (h0 : l ≠ []) (h8 : l.length ≤ 8) (hf : ∀ x ∈ l, keyRight x.key = true ∧ x.val.size ≤ 48) : rightW (makeW l) = 0 := by
  have hl := make_len l
  have h1 : 1 ≤ (keysW l).length := by
    cases l with
    | nil => exact absurd rfl h0
    | cons x r =>
      have : x.key ∈ keysW (x :: r) := ((keys_spec _).2 _).2 (by simp)
      exact List.length_pos_of_mem this
  have h2 := keys_len (l := l)
  unfold rightW
  rw [if_neg (by omega)]
  refine rightGo_rise (makeW l) none ?_ ?_
  · intro y hy
    obtain ⟨k, hk, rfl⟩ := List.mem_map.1 (by unfold makeW at hy; exact hy)
    obtain ⟨x, hx, _, hl2, _⟩ := last_spec hk
    rw [hl2]
    exact ⟨by rw [clean_key]; exact (hf x hx).1, clean_val (hf x hx).2, clean_spec x⟩
  · rw [make_keys]; exact (keys_spec l).1
theorem find_rise {l : List Wr} (hr : Rising ordS (l.map (·.key))) {x : Wr} (hx : x ∈ l) : findW l x.key = some x := by
  obtain ⟨i, hi, rfl⟩ := List.getElem_of_mem hx
  refine find_hit hi rfl (fun y hy e => ?_)
  obtain ⟨j, hj, rfl⟩ := List.getElem_of_mem hy
  rw [List.getElem_drop] at e
  have hij : i + 1 + j < l.length := by simp at hj; omega
  have hp := List.pairwise_iff_getElem.1 hr i (i + 1 + j) (by simpa using hi) (by simpa using hij) (by omega)
  simp only [List.getElem_map] at hp
  rw [e] at hp
  have := ordS_ord.self l[i].key
  omega
/-- made again it is the same -/
theorem make_make (l : List Wr) : makeW (makeW l) = makeW l := by
  have hk : keysW (makeW l) = keysW l := by
    refine rising_eq ordS_ord _ _ (keys_spec _).1 (keys_spec _).1 (fun k => ?_)
    rw [(keys_spec (makeW l)).2, make_keys]
  have hr : Rising ordS ((makeW l).map (·.key)) := by rw [make_keys]; exact (keys_spec l).1
  show (keysW (makeW l)).map (lastW (makeW l)) = (keysW l).map (lastW l)
  rw [hk]
  apply List.map_congr_left
  intro k hkk
  obtain ⟨x, _, h1, h2, _⟩ := last_spec hkk
  have hm : lastW l k ∈ makeW l := List.mem_map.2 ⟨k, hkk, rfl⟩
  have hkey : (lastW l k).key = k := by rw [h2, clean_key, h1]
  have := find_rise hr hm
  rw [hkey] at this
  unfold lastW at this ⊢
  rw [this]
  exact clean_clean _
end Go.Proofs.YtligapgjdpdihaaDoor.Batch
