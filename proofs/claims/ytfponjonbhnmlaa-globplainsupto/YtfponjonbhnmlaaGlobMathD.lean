/-
  Runes of texts that are quoted, or say one text; where a text that begins and ends with others may be parted. Nothing of the program's functions.
-/
import Derived.Test.YtfponjonbhnmlaaGlobMathC
import Derived.Test.YtfponjonbhnmlaaMatchMath
import Derived.Test.YtfponjonbhnmlaaPlainMath
namespace Go.Proofs.Ytfponjonbhnmlaa.RefGlob
open RuneM GlobM

theorem cut_list (s : ByteArray) (a b : Nat) : (s.extract a b).data.toList = (s.data.toList.take b).drop a := by
  rw [ByteArray.data_extract, Array.toList_extract, List.extract_eq_take_drop, List.drop_take]
theorem list_ext {a b : ByteArray} (h : a.data.toList = b.data.toList) : a = b := by
  apply ByteArray.ext; exact Array.ext' h
theorem app_list (a b : ByteArray) : (a ++ b).data.toList = a.data.toList ++ b.data.toList := by rw [ByteArray.data_append, Array.toList_append]
theorem part_two (s : ByteArray) (q : Nat) (h : q ≤ s.size) : s = s.extract 0 q ++ s.extract q s.size := by
  apply list_ext
  have hs : s.data.toList.length = s.size := by simp
  rw [app_list, cut_list, cut_list, List.drop_zero, List.take_of_length_le (show s.data.toList.length ≤ s.size by omega), List.take_append_drop]
theorem dec_from (s : ByteArray) (q : Nat) (h : q < s.size) : Utf8.decode (s.extract q s.size) 0 = Utf8.decode s q := by
  have e := part_two s q (by omega)
  have hq : (s.extract 0 q).size = q := by simp; omega
  have := dec_right (s.extract 0 q) (s.extract q s.size) 0 (by simp; omega)
  rw [← e, hq] at this
  rw [← this]; rfl
/-- a rune's own bytes have just that rune -/
theorem chunk_runes (s : ByteArray) (i : Nat) (h : i < s.size) : runes (s.extract i (i + (Utf8.decode s i).2)) = [Utf8.decode s i] := by
  have hw := dec_width s i h
  have e : s.extract i (i + (Utf8.decode s i).2) = (s.extract i s.size).extract 0 (Utf8.decode s i).2 := by
    apply list_ext
    have hs : s.data.toList.length = s.size := by simp
    rw [cut_list, cut_list, cut_list, List.drop_zero, List.take_of_length_le (show s.data.toList.length ≤ s.size by omega), List.drop_take]
    congr 1; omega
  have hz : (s.extract i s.size).size = s.size - i := by simp
  have hd := dec_from s i h
  have hx := dec_extract (s.extract i s.size) 0 (Utf8.decode s i).2 (by omega) (by omega) (by rw [hd]; omega)
  rw [hd] at hx
  have hc : ((s.extract i s.size).extract 0 (Utf8.decode s i).2).size = (Utf8.decode s i).2 := by simp; omega
  rw [e]
  unfold runes
  rw [rest_cons _ 0 (by omega), hx, rest_end _ _ (by omega)]
theorem nums_append (a b : ByteArray) (h : ∀ x ∈ runes a, whole x) : nums (a ++ b) = nums a ++ nums b := by
  unfold nums; rw [runes_append a b h, List.map_append]
theorem whole_append {a b : ByteArray} (h : ∀ x ∈ runes a, whole x) (k : ∀ x ∈ runes b, whole x) : ∀ x ∈ runes (a ++ b), whole x := by
  intro x hx
  rw [runes_append a b h] at hx
  rcases List.mem_append.1 hx with hx | hx
  · exact h x hx
  · exact k x hx
theorem empty_runes : runes ⟨#[]⟩ = [] := rest_end _ 0 (by decide)
/-- a text that is quoted, from a place on -/
def Qf (k : ByteArray) (i : Nat) : ByteArray := ⟨(quoteL (k.data.toList.drop i)).toArray⟩
theorem stroke_runes : runes ⟨#[92]⟩ = [(92, 1)] := by decide +kernel
theorem quote_from (k : ByteArray) : ∀ n i, k.size - i ≤ n → i ≤ k.size → (∀ x ∈ rest k i, whole x) → nums (Qf k i) = qn ((rest k i).map (·.1)) ∧ ∀ x ∈ runes (Qf k i), whole x := by
  have hs : k.data.toList.length = k.size := by simp
  have stop : ∀ i, ¬ i < k.size → nums (Qf k i) = qn ((rest k i).map (·.1)) ∧ ∀ x ∈ runes (Qf k i), whole x := by
    intro i hi
    have e : Qf k i = ⟨#[]⟩ := by unfold Qf; rw [List.drop_eq_nil_of_le (by omega)]; rfl
    rw [e, rest_end k i (by omega)]
    refine ⟨?_, fun x hx => ?_⟩
    · unfold nums; rw [empty_runes]; rfl
    · rw [empty_runes] at hx; cases hx
  intro n
  induction n with
  | zero => intro i h1 h2 _; exact stop i (by omega)
  | succ n ih =>
    intro i h1 h2 hall
    by_cases hi : i < k.size
    · have hw := dec_width k i hi
      rw [rest_cons k i hi] at hall ⊢
      obtain ⟨ih1, ih2⟩ := ih (i + (Utf8.decode k i).2) (by omega) (by omega) (fun x hx => hall x (by simp [hx]))
      have hd := hall _ (by simp : Utf8.decode k i ∈ _)
      have hcr := chunk_runes k i hi
      have e : Qf k i = (if isM (Utf8.decode k i).1 then ⟨#[92]⟩ else ⟨#[]⟩) ++ (k.extract i (i + (Utf8.decode k i).2) ++ Qf k (i + (Utf8.decode k i).2)) := by
        apply list_ext
        rw [app_list, app_list, cut_list, List.drop_take, show i + (Utf8.decode k i).2 - i = (Utf8.decode k i).2 by omega]
        unfold Qf
        simp only
        have hq : quoteL (k.data.toList.drop i) = (if isM (Utf8.decode k i).1 then [92] else []) ++ (k.data.toList.drop i).take (Utf8.decode k i).2 ++ quoteL (k.data.toList.drop (i + (Utf8.decode k i).2)) := by
          conv => lhs; rw [← List.take_append_drop (Utf8.decode k i).2 (k.data.toList.drop i)]
          rw [quote_app, quote_rune k i hi, List.drop_drop]
        rw [hq]
        cases isM (Utf8.decode k i).1 <;> simp
      have hwc : ∀ x ∈ runes (k.extract i (i + (Utf8.decode k i).2)), whole x := by
        rw [hcr]; intro x hx; rw [List.mem_singleton.1 hx]; exact hd
      have hnc : nums (k.extract i (i + (Utf8.decode k i).2)) = [(Utf8.decode k i).1] := by unfold nums; rw [hcr]; rfl
      rw [e, List.map_cons, qn_cons]
      cases hm : isM (Utf8.decode k i).1 with
      | true =>
        have hw92 : ∀ x ∈ runes ⟨#[92]⟩, whole x := by rw [stroke_runes]; intro x hx; rw [List.mem_singleton.1 hx]; unfold whole; decide
        simp only [if_true]
        refine ⟨?_, whole_append hw92 (whole_append hwc ih2)⟩
        rw [nums_append _ _ hw92, nums_append _ _ hwc, ih1, hnc]
        have : nums ⟨#[92]⟩ = [92] := by unfold nums; rw [stroke_runes]; rfl
        rw [this]; rfl
      | false =>
        have hw0 : ∀ x ∈ runes ⟨#[]⟩, whole x := by rw [empty_runes]; intro x hx; cases hx
        simp only [Bool.false_eq_true, if_false]
        refine ⟨?_, whole_append hw0 (whole_append hwc ih2)⟩
        rw [nums_append _ _ hw0, nums_append _ _ hwc, ih1, hnc]
        have : nums ⟨#[]⟩ = [] := by unfold nums; rw [empty_runes]; rfl
        rw [this]; rfl
    · exact stop i hi
theorem quote_runes (k : ByteArray) (h : ∀ x ∈ runes k, whole x) : nums (quoteB k) = qn (nums k) ∧ ∀ x ∈ runes (quoteB k), whole x := by
  have := quote_from k _ 0 (Nat.le_refl _) (Nat.zero_le _) h
  exact this
theorem globB_iff {p k : ByteArray} {its : List It} (h : itemsL (nums p) = some its) : globB p k = true ↔ M its (nums k) := by
  rw [globB_some h]
  have := rowB_says (nums k) _ its rfl (nums k).length (Nat.le_refl _)
  rw [List.take_length] at this
  exact this
/-! ### the one text that a pattern says -/
theorem rest_less (s : ByteArray) (i : Nat) (h : i < s.size) : (rest s i).length = (rest s (i + (Utf8.decode s i).2)).length + 1 := by rw [rest_cons s i h]; rfl
theorem plainF_facts (s : ByteArray) : ∀ f p out t, p ≤ s.size → (∀ x ∈ rest s p, whole x) → (∀ x ∈ runes out, whole x) → plainF s f p (rest s p) out = some t →
    ∃ L, signsL ((rest s p).map (·.1)) = some L ∧ (∀ x ∈ L, fine x) ∧ nums t = nums out ++ L.map (·.1) ∧ ∀ x ∈ runes t, whole x := by
  intro f
  induction f with
  | zero => intro p out t _ _ _ h; simp [plainF] at h
  | succ f ih =>
    intro p out t hp hall hout h
    by_cases hi : p < s.size
    · have hw := dec_width s p hi
      have hrc := rest_cons s p hi
      rw [hrc] at h hall ⊢
      have hd := hall _ (by simp : Utf8.decode s p ∈ _)
      by_cases hno : (Utf8.decode s p).1 = 42 ∨ (Utf8.decode s p).1 = 63 ∨ (Utf8.decode s p).1 = 91
      · rw [plainF_no s f p _ _ _ hno] at h; cases h
      by_cases h92 : (Utf8.decode s p).1 = 92
      · by_cases hj : p + (Utf8.decode s p).2 < s.size
        · have hw2 := dec_width s _ hj
          have hrc2 := rest_cons s _ hj
          rw [hrc2] at h hall ⊢
          have hd2 := hall _ (by simp : Utf8.decode s (p + (Utf8.decode s p).2) ∈ _)
          rw [plainF_two s f p _ _ _ _ h92] at h
          have hcr := chunk_runes s _ hj
          have hwc : ∀ x ∈ runes (s.extract (p + (Utf8.decode s p).2) (p + (Utf8.decode s p).2 + (Utf8.decode s (p + (Utf8.decode s p).2)).2)), whole x := by
            rw [hcr]; intro x hx; rw [List.mem_singleton.1 hx]; exact hd2
          obtain ⟨L, e1, e2, e3, e4⟩ := ih _ _ t (by omega) (fun x hx => hall x (by simp [hx])) (whole_append hout hwc) h
          refine ⟨((Utf8.decode s (p + (Utf8.decode s p).2)).1, true) :: L, ?_, ?_, ?_, e4⟩
          · rw [List.map_cons, List.map_cons, signsL_cons, if_pos h92]
            show (signsL _).map _ = _
            rw [e1]; rfl
          · intro x hx
            rcases List.mem_cons.1 hx with rfl | hx
            · exact .inl rfl
            · exact e2 x hx
          · rw [e3, nums_append _ _ hout]
            have : nums (s.extract (p + (Utf8.decode s p).2) (p + (Utf8.decode s p).2 + (Utf8.decode s (p + (Utf8.decode s p).2)).2)) = [(Utf8.decode s (p + (Utf8.decode s p).2)).1] := by unfold nums; rw [hcr]; rfl
            rw [this]; simp
        · rw [rest_end s _ (by omega)] at h
          generalize Utf8.decode s p = d at h h92 hno
          obtain ⟨c, n⟩ := d
          have h92 : c = 92 := h92
          subst h92
          simp [plainF] at h
      · rw [plainF_one s f p _ _ _ hno h92] at h
        have hcr := chunk_runes s _ hi
        have hwc : ∀ x ∈ runes (s.extract p (p + (Utf8.decode s p).2)), whole x := by
          rw [hcr]; intro x hx; rw [List.mem_singleton.1 hx]; exact hd
        obtain ⟨L, e1, e2, e3, e4⟩ := ih _ _ t (by omega) (fun x hx => hall x (by simp [hx])) (whole_append hout hwc) h
        refine ⟨((Utf8.decode s p).1, false) :: L, ?_, ?_, ?_, e4⟩
        · rw [List.map_cons, signsL_cons, if_neg h92, e1]; rfl
        · intro x hx
          rcases List.mem_cons.1 hx with rfl | hx
          · exact .inr (by simp only; omega)
          · exact e2 x hx
        · rw [e3, nums_append _ _ hout]
          have : nums (s.extract p (p + (Utf8.decode s p).2)) = [(Utf8.decode s p).1] := by unfold nums; rw [hcr]; rfl
          rw [this]; simp
    · rw [rest_end s p (by omega)] at h ⊢
      rw [plainF_end] at h
      cases h
      exact ⟨[], rfl, (fun x hx => by cases hx), by simp, hout⟩
theorem plainF_ok (s : ByteArray) : ∀ f p out L, p ≤ s.size → (rest s p).length < f → signsL ((rest s p).map (·.1)) = some L → (∀ x ∈ L, fine x) → ∃ t, plainF s f p (rest s p) out = some t := by
  intro f
  induction f with
  | zero => intro p out L _ h; omega
  | succ f ih =>
    intro p out L hp hf hL hfine
    by_cases hi : p < s.size
    · have hw := dec_width s p hi
      have hl := rest_less s p hi
      have hrc := rest_cons s p hi
      rw [hrc] at hL ⊢
      rw [List.map_cons] at hL
      rcases signs_cons hL with ⟨h92, T, rfl, hT⟩ | ⟨h92, d, u, T, he, rfl, hT⟩
      · have hfn := hfine _ (by simp : ((Utf8.decode s p).1, false) ∈ _)
        have hno : ¬ ((Utf8.decode s p).1 = 42 ∨ (Utf8.decode s p).1 = 63 ∨ (Utf8.decode s p).1 = 91) := by
          rcases hfn with h | h
          · simp at h
          · simp only at h; omega
        rw [plainF_one s f p _ _ _ hno h92]
        exact ih _ _ T (by omega) (by omega) hT (fun x hx => hfine x (by simp [hx]))
      · by_cases hj : p + (Utf8.decode s p).2 < s.size
        · have hw2 := dec_width s _ hj
          have hl2 := rest_less s _ hj
          have hrc2 := rest_cons s _ hj
          rw [hrc2] at he ⊢
          rw [List.map_cons] at he
          obtain ⟨_, rfl⟩ := List.cons.inj he
          rw [plainF_two s f p _ _ _ _ h92]
          exact ih _ _ T (by omega) (by omega) hT (fun x hx => hfine x (by simp [hx]))
        · rw [rest_end s _ (by omega)] at he; cases he
    · rw [rest_end s p (by omega)]
      exact ⟨out, plainF_end s f p out⟩
theorem plain_match {s t : ByteArray} (hw : ∀ x ∈ runes s, whole x) (h : globPlain s = some t) : globB s t = true := by
  unfold globPlain at h
  split at h
  · rename_i hr
    have h0 : ∀ x ∈ runes ByteArray.empty, whole x := by
      intro x hx; rw [show runes ByteArray.empty = [] from empty_runes] at hx; cases hx
    obtain ⟨L, e1, e2, e3, _⟩ := plainF_facts s _ 0 _ t (Nat.zero_le _) hw h0 h
    have e1 : signsL (nums s) = some L := e1
    have hn0 : nums ByteArray.empty = [] := by unfold nums; rw [show runes ByteArray.empty = [] from empty_runes]; rfl
    rw [hn0, List.nil_append] at e3
    have h24 : ¬ 24 < (nums s).length := fun hh => by simp [globRight, itemsL_long _ hh] at hr
    have hi : itemsL (nums s) = some (ones L) := by
      rw [itemsL_signs _ h24, e1]
      simp only [Option.bind_some]
      exact items_ones L _ e2 (by omega)
    rw [globB_iff hi, e3]
    have : ones L = (L.map (·.1)).map one := by simp [ones, Function.comp_def]
    rw [this, M_ones]
  · cases h
/-- a key that is quoted says itself, and nothing else -/
theorem quote_plain {k : ByteArray} (hw : ∀ x ∈ runes k, whole x) (hr : globRight (quoteB k) = true) : globPlain (quoteB k) = some k := by
  obtain ⟨hn, hwq⟩ := quote_runes k hw
  have hs : signsL (nums (quoteB k)) = some ((nums k).map fun c => (c, isM c)) := by
    rw [hn]
    have := signs_qn (nums k) []
    rw [List.append_nil] at this
    rw [this]; simp [signsL]
  have h0 : ∀ x ∈ runes ByteArray.empty, whole x := by
    intro x hx; rw [show runes ByteArray.empty = [] from empty_runes] at hx; cases hx
  have hn0 : nums ByteArray.empty = [] := by unfold nums; rw [show runes ByteArray.empty = [] from empty_runes]; rfl
  obtain ⟨t, ht⟩ := plainF_ok (quoteB k) ((runes (quoteB k)).length + 1) 0 ByteArray.empty _ (Nat.zero_le _) (Nat.lt_succ_self _) hs (fine_qn _)
  have ht : plainF (quoteB k) ((runes (quoteB k)).length + 1) 0 (runes (quoteB k)) ByteArray.empty = some t := ht
  obtain ⟨L, e1, e2, e3, e4⟩ := plainF_facts (quoteB k) _ 0 _ t (Nat.zero_le _) hwq h0 ht
  have e1 : signsL (nums (quoteB k)) = some L := e1
  rw [hs] at e1
  cases e1
  rw [hn0, List.nil_append] at e3
  have e5 : nums t = nums k := by rw [e3]; simp [Function.comp_def]
  have : t = k := same_whole t k e4 hw (by rw [e5]; exact cmpL_self _)
  unfold globPlain
  rw [if_pos hr, ht, this]
theorem quote_match {k o : ByteArray} (hw : ∀ x ∈ runes k, whole x) (hr : globRight (quoteB k) = true) : globB (quoteB k) o = true ↔ nums o = nums k := by
  obtain ⟨hn, _⟩ := quote_runes k hw
  have h24 : ¬ 24 < (nums (quoteB k)).length := fun hh => by simp [globRight, itemsL_long _ hh] at hr
  have hi : itemsL (nums (quoteB k)) = some ((nums k).map one) := by
    rw [hn] at h24 ⊢; exact items_qn _ h24
  rw [globB_iff hi, M_ones]
/-! ### a star between two texts -/
theorem ref_inner (n b0 b1 b2 b3 : Nat) : (1 < (refN n b0 b1 b2 b3).2 → 128 ≤ b1 ∧ b1 ≤ 191) ∧ (2 < (refN n b0 b1 b2 b3).2 → 128 ≤ b2 ∧ b2 ≤ 191) ∧ (3 < (refN n b0 b1 b2 b3).2 → 128 ≤ b3 ∧ b3 ≤ 191) ∧ (refN n b0 b1 b2 b3).2 ≤ 4 := by
  unfold refN
  split
  · simp only []; omega
  split
  · simp only []; omega
  split
  · rename_i h1 h2 h3
    have e := (lo_hi b0 b1 (by omega)).1 ⟨h3.2.2.1.2.1, h3.2.2.1.2.2⟩
    simp only []; omega
  split
  · rename_i h1 h2 h3 h4
    have e := (lo_hi b0 b1 (by omega)).1 ⟨h4.2.2.1.2.1, h4.2.2.1.2.2⟩
    simp only []; omega
  · simp only []; omega
theorem ref_first (n b0 b1 b2 b3 : Nat) (hw : whole (refN n b0 b1 b2 b3)) : ¬ (128 ≤ b0 ∧ b0 ≤ 191) := by
  intro h
  apply hw
  unfold refN
  rw [if_neg (by omega), if_neg (by omega), if_neg (by omega), if_neg (by omega)]
  exact ⟨rfl, rfl⟩
/-- where a byte that begins a rune stands a rune ends -/
theorem at_rune (k : ByteArray) (P : Nat) (hP : P < k.size) (hb : ¬ (128 ≤ bA k P ∧ bA k P ≤ 191)) : ∀ m i done, P - i ≤ m → i ≤ P → runes k = done ++ rest k i → width done = i → ∃ n, width ((runes k).take n) = P := by
  have stop : ∀ i done, i = P → runes k = done ++ rest k i → width done = i → ∃ n, width ((runes k).take n) = P := by
    intro i done e h1 h2
    refine ⟨done.length, ?_⟩
    rw [h1, List.take_left', h2, e]; rfl
  intro m
  induction m with
  | zero => intro i done h1 h2; exact stop i done (by omega)
  | succ m ih =>
    intro i done h1 h2 h3 h4
    by_cases hi : i = P
    · exact stop i done hi h3 h4
    have hlt : i < k.size := by omega
    have hw := dec_width k i hlt
    have hd := dec_refB k i
    by_cases hle : i + (Utf8.decode k i).2 ≤ P
    · refine ih (i + (Utf8.decode k i).2) (done ++ [Utf8.decode k i]) (by omega) hle ?_ ?_
      · rw [h3, rest_cons k i hlt]; simp
      · rw [width_append, width_one, h4]
    · exfalso
      have hin := ref_inner (k.size - i) (bA k i) (bA k (i + 1)) (bA k (i + 2)) (bA k (i + 3))
      rw [← hd] at hin
      have : P = i + 1 ∨ P = i + 2 ∨ P = i + 3 := by omega
      rcases this with rfl | rfl | rfl
      · exact hb (hin.1 (by omega))
      · exact hb (hin.2.1 (by omega))
      · exact hb (hin.2.2.1 (by omega))
theorem bytes_inj {x y : List UInt8} (h : x.map (·.toNat) = y.map (·.toNat)) : x = y := by
  induction x generalizing y with
  | nil => cases y with
    | nil => rfl
    | cons b y => simp at h
  | cons a x ih =>
    cases y with
    | nil => simp at h
    | cons b y =>
      simp only [List.map_cons, List.cons.injEq] at h
      rw [ih h.2, UInt8.toNat_inj.1 h.1]
theorem stars {a b k : ByteArray} (ha : ∀ x ∈ runes a, whole x) (hb : ∀ x ∈ runes b, whole x) (hk : ∀ x ∈ runes k, whole x) (hb0 : 0 < b.size) :
    (∃ m, nums k = nums a ++ m ++ nums b) ↔ (a.size + b.size ≤ k.size ∧ k.extract 0 a.size = a ∧ k.extract (k.size - b.size) k.size = b) := by
  have hsa : a.data.toList.length = a.size := by simp
  have hsb : b.data.toList.length = b.size := by simp
  have hsk : k.data.toList.length = k.size := by simp
  constructor
  · rintro ⟨m, e⟩
    have h1 := bytes_whole k hk
    rw [e, List.flatMap_append, List.flatMap_append, ← bytes_whole a ha, ← bytes_whole b hb] at h1
    have h1 : k.data.toList.map (·.toNat) = a.data.toList.map (·.toNat) ++ m.flatMap encN ++ b.data.toList.map (·.toNat) := h1
    generalize m.flatMap encN = mm at h1
    have hl := congrArg List.length h1
    simp only [List.length_append, List.length_map, hsa, hsb, hsk] at hl
    refine ⟨by omega, ?_, ?_⟩
    · apply list_ext
      rw [cut_list, List.drop_zero]
      apply bytes_inj
      rw [List.map_take, h1, List.append_assoc, List.take_append_of_le_length (by simp), List.take_of_length_le (by simp)]
    · apply list_ext
      rw [cut_list, List.take_of_length_le (by omega)]
      apply bytes_inj
      rw [List.map_drop, h1, List.drop_append_of_le_length (by simp; omega), List.drop_eq_nil_of_le (by simp; omega)]; rfl
  · rintro ⟨h1, h2, h3⟩
    have hP : k.size - b.size < k.size := by omega
    have hbyte : bA k (k.size - b.size) = bA b 0 := by
      rw [bA_data k _ hP, bA_data b 0 hb0]
      congr 1
      have : b.data.toList = k.data.toList.drop (k.size - b.size) := by
        have : (k.extract (k.size - b.size) k.size).data.toList = b.data.toList := by rw [h3]
        rw [cut_list, List.take_of_length_le (by omega)] at this
        exact this.symm
      simp only [this]
      simp
    have hfirst : ¬ (128 ≤ bA b 0 ∧ bA b 0 ≤ 191) := by
      have hw0 := hb (Utf8.decode b 0) (by unfold runes; rw [rest_cons b 0 hb0]; simp)
      rw [dec_refB] at hw0
      exact ref_first _ _ _ _ _ hw0
    obtain ⟨n, hn⟩ := at_rune k (k.size - b.size) hP (by rw [hbyte]; exact hfirst) _ 0 [] (Nat.le_refl _) (Nat.zero_le _) rfl rfl
    have hhead := runes_extract k n
    rw [hn] at hhead
    have hwh : ∀ x ∈ runes (k.extract 0 (k.size - b.size)), whole x := by
      rw [hhead]; intro x hx; exact hk x (List.mem_of_mem_take hx)
    have e1 := part_two k (k.size - b.size) (by omega)
    rw [h3] at e1
    have e2 : k.extract 0 (k.size - b.size) = a ++ k.extract a.size (k.size - b.size) := by
      apply list_ext
      have : a.data.toList = k.data.toList.take a.size := by
        have : (k.extract 0 a.size).data.toList = a.data.toList := by rw [h2]
        rw [cut_list, List.drop_zero] at this
        exact this.symm
      rw [app_list, cut_list, cut_list, List.drop_zero, this]
      have h5 : k.data.toList.take a.size = (k.data.toList.take (k.size - b.size)).take a.size := by rw [List.take_take]; congr 1; omega
      rw [h5, List.take_append_drop]
    refine ⟨nums (k.extract a.size (k.size - b.size)), ?_⟩
    conv => lhs; rw [e1]
    rw [nums_append _ _ hwh, e2, nums_append _ _ ha]
end Go.Proofs.Ytfponjonbhnmlaa.RefGlob
