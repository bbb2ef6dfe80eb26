/-
  Joined texts: Common, FlashM, FlashMath, ChartM, Pick.
-/
import Derived.Test.YtcmjambbdfangaaGreatProg
import Derived.WalkKit
import Derived.Handy
import Derived.Lib.Hide
import Derived.ProofKit
import Derived.OpenShut
import Derived.WalkSmall
import Derived.SliceStrings
/-
  Small lemmas on worlds, and on slices of texts that came in. Nothing of the program's functions.
-/
set_option linter.unusedVariables false
set_option linter.unusedSimpArgs false
namespace Go.Proofs.YtcmjambbdfangaaGreat.Common
open Go.ChangeShapes Go.WideShapes Go.ChangeAt Go.RowKit

/-- a slice of texts in memory -/
def StrRow (w : World) (a : Option Addr) (ss : List ByteArray) : Prop :=
  ss = [] ∨ ∃ b off, a = some ⟨b, off, none⟩ ∧ ∀ i, i < ss.length → w.cell? ⟨b, off + i, none⟩ = some (.string (ss.getD i ByteArray.empty))

theorem open_strs {H : Type} {enc : TypeId × Value → H} {P : Program} {W : World} {base : Nat} {t e : TypeId} {v : Value} {d : DataW H} {p : List MemPlace}
    (ht : P.underlying t = some (.slice e)) (he : P.underlying e = some .string) (hc : P.cellsOf e = 1)
    (hv : Value.okWide P W .any base t v) (h : DataW.Trod enc P W 0 (fun _ => true) true t v d p) :
    ∃ (a : Option Addr) (cap : Nat) (ss : List ByteArray), v = .slice a ss.length cap ∧ StrRow W a ss ∧ ss.length ≤ maxLen ∧ (∀ s ∈ ss, s.size ≤ maxLen) ∧
      ((d = .nil ∧ ss = [] ∧ a = none ∧ cap = 0) ∨ ∃ sp, d = .slice (strs ss) sp) := by
  obtain ⟨a0, len0, cap0, rfl⟩ := okWide_slice ht hv
  obtain ⟨fuel, hf⟩ := h
  rcases open_strings ht he hc hf with ⟨hcs, hx⟩ | ⟨x, l, c, ss, hcs, _, hl, hm, hz, hx, hcell, hws⟩
  · simp [Value.cells] at hcs
    obtain ⟨rfl, rfl, rfl⟩ := hcs
    simp only [Prod.mk.injEq] at hx
    exact ⟨none, 0, [], rfl, .inl rfl, by simp, by simp, .inl ⟨hx.1, rfl, rfl, rfl⟩⟩
  · simp [Value.cells] at hcs
    obtain ⟨rfl, rfl, rfl⟩ := hcs
    simp at hz
    simp only [Prod.mk.injEq] at hx
    have hlen : (ss.take len0).length = len0 := by simp; omega
    refine ⟨some x, cap0, ss.take len0, by rw [hlen], ?_, by omega, fun s hs => hws s (List.mem_of_mem_take hs), .inr ⟨_, hx.1⟩⟩
    by_cases h0 : len0 = 0
    · left; simp [h0]
    · right
      obtain ⟨b, off, spot⟩ := x
      have hc0 := hcell 0 (by omega)
      have hspot : spot = none := by simpa [Addr.add] using World.cell?_spot hc0
      subst hspot
      refine ⟨b, off, rfl, fun i hi => ?_⟩
      have := hcell i (by omega)
      rw [show (⟨b, off, none⟩ : Addr).add i = ⟨b, off + i, none⟩ by unfold Addr.add; split <;> simp_all] at this
      rw [this, List.getD, List.getD, List.getElem?_take_of_lt (by omega)]

theorem StrRow.below {w w' : World} {a : Option Addr} {ss : List ByteArray} (h : StrRow w a ss) (hb : Below w.heap.size w w') (hlt : ∀ b off, a = some ⟨b, off, none⟩ → ss ≠ [] → b < w.heap.size) : StrRow w' a ss := by
  rcases h with h | ⟨b, off, ha, hc⟩
  · exact .inl h
  · by_cases hn : ss = []
    · exact .inl hn
    · exact .inr ⟨b, off, ha, fun i hi => by rw [hb.cell (p := ⟨b, off + i, none⟩) (hlt b off ha hn)]; exact hc i hi⟩
theorem StrRow.lt {w : World} {a : Option Addr} {ss : List ByteArray} (h : StrRow w a ss) : ∀ b off, a = some ⟨b, off, none⟩ → ss ≠ [] → b < w.heap.size := by
  intro b off ha hn
  rcases h with h | ⟨b', off', ha', hc⟩
  · exact absurd h hn
  · rw [ha] at ha'; simp at ha'; obtain ⟨rfl, rfl⟩ := ha'
    have h0 := hc 0 (by cases ss with | nil => exact absurd rfl hn | cons _ _ => simp)
    exact block_lt_of_cell h0
end Go.Proofs.YtcmjambbdfangaaGreat.Common
/-
  A device as the document has it: its bytes, what is pending, its fuse. Nothing of the program.
-/
set_option linter.unusedVariables false
set_option linter.unusedSimpArgs false
namespace Go.Proofs.YtcmjambbdfangaaGreat.Flash

structure Dev where
  pg : Nat
  pgs : Nat
  rgs : Nat
  img : List UInt8
  wait : List (Nat × List UInt8)
  fuse : Option Nat
  down : Bool
def over (img : List UInt8) (p : Nat) (bs : List UInt8) : List UInt8 := img.take p ++ bs ++ img.drop (p + bs.length)
def cut (img : List UInt8) (p n : Nat) : List UInt8 := (img.drop p).take n
theorem over_length {img : List UInt8} {p : Nat} {bs : List UInt8} (h : p + bs.length ≤ img.length) : (over img p bs).length = img.length := by
  simp only [over, List.length_append, List.length_take, List.length_drop]; omega
theorem over_nil (img : List UInt8) (p : Nat) : over img p [] = img := by simp [over]
theorem cut_length {img : List UInt8} {p n : Nat} (h : p + n ≤ img.length) : (cut img p n).length = n := by
  simp only [cut, List.length_take, List.length_drop]; omega
theorem cut_over_before {img : List UInt8} {p q n : Nat} {bs : List UInt8} (h : q + n ≤ p) (hp : p ≤ img.length) : cut (over img p bs) q n = cut img q n := by
  unfold cut over
  rw [List.append_assoc, List.drop_append_of_le_length (by simp; omega), List.take_append_of_le_length (by simp; omega), List.drop_take, List.take_take]
  congr 1; omega
theorem cut_over_after {img : List UInt8} {p q n : Nat} {bs : List UInt8} (h : p + bs.length ≤ q) (hp : p ≤ img.length) : cut (over img p bs) q n = cut img q n := by
  unfold cut over
  have hl : (img.take p ++ bs).length = p + bs.length := by simp; omega
  rw [List.drop_append, List.drop_eq_nil_of_le (by omega), List.nil_append, List.drop_drop, hl]
  congr 2; omega
theorem cut_over_part {img : List UInt8} {p n : Nat} {bs : List UInt8} (hp : p ≤ img.length) (hb : bs.length ≤ n) : cut (over img p bs) p n = bs ++ cut img (p + bs.length) (n - bs.length) := by
  unfold cut over
  have hl : (img.take p).length = p := by simp; omega
  rw [List.append_assoc, List.drop_append, List.drop_eq_nil_of_le (by omega), List.nil_append, hl, Nat.sub_self, List.drop_zero, List.take_append]
  rw [List.take_of_length_le hb]
theorem cut_over_same {img : List UInt8} {p n : Nat} {bs : List UInt8} (hp : p ≤ img.length) (hb : bs.length = n) : cut (over img p bs) p n = bs := by
  rw [cut_over_part hp (by omega), hb, Nat.sub_self]; simp [cut]
theorem cut_replicate {m p n : Nat} (c : UInt8) (h : p + n ≤ m) : cut (List.replicate m c) p n = List.replicate n c := by
  unfold cut; rw [List.drop_replicate, List.take_replicate]; congr 1; omega
theorem take_over {img : List UInt8} {p q : Nat} {bs : List UInt8} (h : q ≤ p) (hp : p ≤ img.length) : (over img p bs).take q = img.take q := by
  have := cut_over_before (img := img) (p := p) (q := 0) (n := q) (bs := bs) (by omega) hp
  simpa [cut] using this
theorem drop_over {img : List UInt8} {p q : Nat} {bs : List UInt8} (h : p + bs.length ≤ q) (hp : p ≤ img.length) : (over img p bs).drop q = img.drop q := by
  unfold over
  have hl : (img.take p ++ bs).length = p + bs.length := by simp; omega
  rw [List.drop_append, List.drop_eq_nil_of_le (by omega), List.nil_append, List.drop_drop, hl]
  congr 1; omega
def blank (l : List UInt8) : Bool := l.all (· == 255)
theorem blank_replicate (n : Nat) : blank (List.replicate n 255) = true := by simp [blank]
def Dev.n (d : Dev) : Nat := d.pgs * d.rgs
/-- is there such a page? -/
def Dev.has (d : Dev) (p : Int) : Bool := decide (0 ≤ p) && decide (p < (d.n : Int))
/-- a page with what is pending -/
def Dev.held (d : Dev) (p : Nat) : List UInt8 := d.wait.foldl (fun s x => if x.1 = p then x.2 else s) (cut d.img (p * d.pg) d.pg)
def Dev.waits (d : Dev) (p : Nat) : Bool := d.wait.any fun x => decide (x.1 = p)
/-- does a call that counts blow? -/
def Dev.blow (d : Dev) : Bool × Dev :=
  match d.fuse with
  | none => (false, d)
  | some 0 => (true, { d with down := true })
  | some (k + 1) => (false, { d with fuse := some k })
def readD (d : Dev) (p : Int) : List UInt8 × Nat := if d.down then ([], 6) else if d.has p = false then ([], 1) else (d.held p.toNat, 0)
def programD (d : Dev) (p : Int) (b : List UInt8) : Nat × Dev :=
  if d.down then (6, d) else if d.has p = false ∨ b.length ≠ d.pg then (1, d) else if d.waits p.toNat = true ∨ blank (d.held p.toNat) = false then (7, d) else
  (if d.blow.1 then 6 else 0, { d.blow.2 with wait := d.wait ++ [(p.toNat, b)] })
def eraseD (d : Dev) (r : Int) : Nat × Dev :=
  if d.down then (6, d) else if ¬ (0 ≤ r ∧ r < (d.rgs : Int)) then (1, d) else if (d.wait.any fun x => decide (r.toNat * d.pgs ≤ x.1) && decide (x.1 < r.toNat * d.pgs + d.pgs)) = true then (7, d) else
  if d.blow.1 then (6, { d.blow.2 with wait := d.wait ++ (List.range d.pgs).map fun i => (r.toNat * d.pgs + i, List.replicate d.pg 255) })
  else (0, { d.blow.2 with img := over d.img (r.toNat * d.pgs * d.pg) (List.replicate (d.pgs * d.pg) 255) })
def flushD (d : Dev) : Nat × Dev :=
  if d.down then (6, d) else if d.blow.1 then (6, d.blow.2) else (0, { d.blow.2 with img := d.wait.foldl (fun im x => over im (x.1 * d.pg) x.2) d.img, wait := [] })
def fuseD (d : Dev) (k : Int) : Dev := { d with fuse := if k < 0 then none else some k.toNat }
/-- how many of a page's new bytes are there -/
def tornN (pg : Nat) (m : Int) : Nat := if m < 1 then 0 else if m = 1 then pg else 1 + ((m - 2) % ((pg : Int) - 1)).toNat
def crashD (d : Dev) (mask : List Int) : Dev :=
  { d with img := d.wait.zipIdx.foldl (fun im x => over im (x.1.1 * d.pg) (x.1.2.take (tornN d.pg (mask.getD x.2 0)))) d.img, wait := [], down := false, fuse := none }
def rotD (d : Dev) (p k : Int) (x : UInt8) : Nat × Dev :=
  if d.has p = false ∨ ¬ (0 ≤ k ∧ k < (d.pg : Int)) then (1, d) else (0, { d with img := d.img.modify (p.toNat * d.pg + k.toNat) (· ^^^ x) })
/-- a device of a geom, of an image that is not too long -/
def newD (pg pgs rgs : Nat) (image : List UInt8) : Dev := ⟨pg, pgs, rgs, image ++ List.replicate (pg * pgs * rgs - image.length) 255, [], none, false⟩
structure Dev.Ok (d : Dev) : Prop where
  len : d.img.length = d.pg * d.pgs * d.rgs
  wait : ∀ x ∈ d.wait, x.1 < d.n ∧ x.2.length = d.pg
  once : (d.wait.map (·.1)).Nodup
  p0 : 32 ≤ d.pg
  p1 : d.pg ≤ 128
  s0 : 3 ≤ d.pgs
  s1 : d.pgs ≤ 10
  r0 : 4 ≤ d.rgs
  r1 : d.rgs ≤ 12
theorem tornN_le (pg : Nat) (h : 2 ≤ pg) (m : Int) : tornN pg m ≤ pg := by
  unfold tornN
  split
  · omega
  split
  · omega
  · have := Int.emod_lt_of_pos (m - 2) (show (0 : Int) < (pg : Int) - 1 by omega)
    have := Int.emod_nonneg (m - 2) (show (pg : Int) - 1 ≠ 0 by omega)
    omega
theorem page_le {pg n p len : Nat} (hp : p < n) (hl : len = pg * n) : p * pg + pg ≤ len := by
  subst hl
  calc p * pg + pg = (p + 1) * pg := by rw [Nat.add_mul]; omega
    _ ≤ n * pg := Nat.mul_le_mul_right _ (by omega)
    _ = pg * n := Nat.mul_comm _ _
theorem blow_img (d : Dev) : d.blow.2.img = d.img ∧ d.blow.2.wait = d.wait ∧ d.blow.2.pg = d.pg ∧ d.blow.2.pgs = d.pgs ∧ d.blow.2.rgs = d.rgs := by
  unfold Dev.blow
  split <;> simp
theorem new_ok {pg pgs rgs : Nat} {image : List UInt8} (h : image.length ≤ pg * pgs * rgs) (p0 : 32 ≤ pg) (p1 : pg ≤ 128) (s0 : 3 ≤ pgs) (s1 : pgs ≤ 10) (r0 : 4 ≤ rgs) (r1 : rgs ≤ 12) : (newD pg pgs rgs image).Ok :=
  ⟨by simp [newD]; omega, by simp [newD], by simp [newD], p0, p1, s0, s1, r0, r1⟩
theorem foldl_over_length (pg : Nat) : ∀ (l : List (Nat × List UInt8)) (im : List UInt8), (∀ x ∈ l, x.1 * pg + x.2.length ≤ im.length) → (l.foldl (fun im x => over im (x.1 * pg) x.2) im).length = im.length
  | [], _, _ => rfl
  | x :: r, im, h => by
    have h0 := over_length (h x (List.mem_cons_self ..))
    rw [List.foldl_cons, foldl_over_length pg r _ (fun y hy => by rw [h0]; exact h y (List.mem_cons_of_mem _ hy)), h0]
/-- numbers below n, each once, are at most n -/
theorem nodup_le : ∀ (n : Nat) (l : List Nat), l.Nodup → (∀ x ∈ l, x < n) → l.length ≤ n
  | 0, l, _, h => by
    cases l with
    | nil => simp
    | cons a r => exact absurd (h a (List.mem_cons_self ..)) (by omega)
  | n + 1, l, hn, h => by
    by_cases hm : n ∈ l
    · have := nodup_le n (l.erase n) (hn.erase n) (fun x hx => by
        have h1 := (hn.mem_erase_iff).1 hx
        have h2 := h x h1.2
        have := h1.1
        omega)
      rw [List.length_erase_of_mem hm] at this
      omega
    · have := nodup_le n l hn (fun x hx => by
        have h2 := h x hx
        have : x ≠ n := fun e => hm (e ▸ hx)
        omega)
      omega
theorem Dev.Ok.n_le {d : Dev} (h : d.Ok) : d.n ≤ 120 := Nat.mul_le_mul h.s1 h.r1
theorem Dev.Ok.wait_le {d : Dev} (h : d.Ok) : d.wait.length ≤ 120 := by
  have := nodup_le d.n (d.wait.map (·.1)) h.once (fun x hx => by
    obtain ⟨y, hy, rfl⟩ := List.mem_map.1 hx
    exact (h.wait y hy).1)
  rw [List.length_map] at this
  exact Nat.le_trans this h.n_le
theorem Dev.Ok.img_n {d : Dev} (h : d.Ok) : d.img.length = d.pg * d.n := by rw [h.len, Dev.n, Nat.mul_assoc]
theorem Dev.Ok.page {d : Dev} (h : d.Ok) {p : Nat} (hp : p < d.n) : p * d.pg + d.pg ≤ d.img.length := page_le hp h.img_n
theorem Dev.Ok.img_le {d : Dev} (h : d.Ok) : d.img.length ≤ 15360 := by
  rw [h.img_n]; exact Nat.mul_le_mul h.p1 h.n_le
/-- the same but for what the fuse says -/
structure Dev.Like (d e : Dev) : Prop where
  pg : e.pg = d.pg
  pgs : e.pgs = d.pgs
  rgs : e.rgs = d.rgs
  img : e.img = d.img
  wait : e.wait = d.wait
theorem Dev.Ok.like {d e : Dev} (h : d.Ok) (l : d.Like e) : e.Ok := by
  obtain ⟨a, b, c, i, x⟩ := l
  refine ⟨by rw [i, a, b, c]; exact h.len, by unfold Dev.n; rw [x, a, b, c]; exact h.wait, by rw [x]; exact h.once, ?_, ?_, ?_, ?_, ?_, ?_⟩ <;> simp only [a, b, c, h.p0, h.p1, h.s0, h.s1, h.r0, h.r1]
theorem blow_like (d : Dev) : d.Like d.blow.2 := by obtain ⟨a, b, c, e, f⟩ := blow_img d; exact ⟨c, e, f, a, b⟩
theorem has_lt {d : Dev} {p : Int} (h : d.has p = true) : p.toNat < d.n ∧ 0 ≤ p := by
  unfold Dev.has at h
  simp only [Bool.and_eq_true, decide_eq_true_eq] at h
  omega
theorem waits_not {d : Dev} {p : Nat} (h : d.waits p = false) : p ∉ d.wait.map (·.1) := by
  intro hm
  obtain ⟨x, hx, rfl⟩ := List.mem_map.1 hm
  unfold Dev.waits at h
  rw [List.any_eq_false] at h
  exact absurd (h x hx) (by simp)
theorem Dev.Ok.add {d : Dev} (h : d.Ok) {l : List (Nat × List UInt8)} (h1 : ∀ x ∈ l, x.1 < d.n ∧ x.2.length = d.pg) (h2 : (l.map (·.1)).Nodup) (h3 : ∀ x ∈ l, x.1 ∉ d.wait.map (·.1)) : ({ d with wait := d.wait ++ l } : Dev).Ok := by
  refine ⟨h.len, ?_, ?_, h.p0, h.p1, h.s0, h.s1, h.r0, h.r1⟩
  · intro x hx
    rcases List.mem_append.1 hx with y | y
    · exact h.wait x y
    · exact h1 x y
  · show ((d.wait ++ l).map (·.1)).Nodup
    rw [List.map_append, List.nodup_append]
    refine ⟨h.once, h2, ?_⟩
    intro a ha b hb e
    obtain ⟨x, hx, rfl⟩ := List.mem_map.1 hb
    exact h3 x hx (e ▸ ha)
theorem Dev.Ok.image {d : Dev} (h : d.Ok) {im : List UInt8} (hl : im.length = d.img.length) : ({ d with img := im } : Dev).Ok := ⟨by rw [← h.len]; exact hl, h.wait, h.once, h.p0, h.p1, h.s0, h.s1, h.r0, h.r1⟩
theorem Dev.Ok.none {d : Dev} (h : d.Ok) : ({ d with wait := [] } : Dev).Ok := ⟨h.len, by simp, by simp, h.p0, h.p1, h.s0, h.s1, h.r0, h.r1⟩
theorem program_keeps {d : Dev} (h : d.Ok) (p : Int) (b : List UInt8) : (programD d p b).2.Ok := by
  unfold programD
  split
  · exact h
  split
  · exact h
  split
  · exact h
  · rename_i h1 h2 h3
    simp only [not_or, Bool.not_eq_false, Decidable.not_not, Bool.not_eq_true] at h2 h3
    have hk := (h.add (l := [(p.toNat, b)]) (by simp; exact ⟨(has_lt h2.1).1, h2.2⟩) (by simp) (by simp; intro x hx; exact absurd (List.mem_map.2 ⟨(p.toNat, x), hx, rfl⟩) (waits_not h3.1))).like (e := { d.blow.2 with wait := d.wait ++ [(p.toNat, b)] }) (by
      obtain ⟨a, b', c, i, x⟩ := blow_like d
      exact ⟨a, b', c, i, rfl⟩)
    exact hk
theorem erase_at {r n : Nat} {pgs rgs : Nat} (h : r < rgs) (hn : n < pgs) : r * pgs + n < pgs * rgs := by
  calc r * pgs + n < r * pgs + pgs := by omega
    _ = (r + 1) * pgs := by rw [Nat.add_mul]; omega
    _ ≤ rgs * pgs := Nat.mul_le_mul_right _ h
    _ = pgs * rgs := Nat.mul_comm _ _
theorem erase_keeps {d : Dev} (h : d.Ok) (r : Int) : (eraseD d r).2.Ok := by
  unfold eraseD
  split
  · exact h
  split
  · exact h
  split
  · exact h
  split
  · rename_i h1 h2 h3 h4
    simp only [Decidable.not_not] at h2
    have hr : r.toNat < d.rgs := by omega
    refine (h.add (l := (List.range d.pgs).map fun i => (r.toNat * d.pgs + i, List.replicate d.pg 255)) ?_ ?_ ?_).like (e := { d.blow.2 with wait := d.wait ++ _ }) (by
      obtain ⟨a, b', c, i, x⟩ := blow_like d
      exact ⟨a, b', c, i, rfl⟩)
    · intro x hx
      obtain ⟨i, hi, rfl⟩ := List.mem_map.1 hx
      exact ⟨erase_at hr (List.mem_range.1 hi), by simp⟩
    · rw [List.map_map]
      show ((List.range d.pgs).map fun i => r.toNat * d.pgs + i).Nodup
      rw [List.Nodup, List.pairwise_map]
      refine List.Pairwise.imp ?_ (List.nodup_range (n := d.pgs))
      intro a b hab e; omega
    · intro x hx hm
      obtain ⟨i, hi, rfl⟩ := List.mem_map.1 hx
      obtain ⟨y, hy, hye⟩ := List.mem_map.1 hm
      have hi' := List.mem_range.1 hi
      refine h3 (List.any_eq_true.2 ⟨y, hy, ?_⟩)
      simp only at hye
      rw [hye]
      simp; omega
  · rename_i h1 h2 h3 h4
    simp only [Decidable.not_not] at h2
    have hr : r.toNat < d.rgs := by omega
    refine (h.image (im := over d.img (r.toNat * d.pgs * d.pg) (List.replicate (d.pgs * d.pg) 255)) ?_).like (e := { d.blow.2 with img := _ }) (by
      obtain ⟨a, b', c, i, x⟩ := blow_like d
      exact ⟨a, b', c, rfl, x⟩)
    refine over_length ?_
    rw [List.length_replicate, h.len]
    calc r.toNat * d.pgs * d.pg + d.pgs * d.pg = (r.toNat + 1) * (d.pgs * d.pg) := by rw [Nat.add_mul, Nat.mul_assoc]; omega
      _ ≤ d.rgs * (d.pgs * d.pg) := Nat.mul_le_mul_right _ hr
      _ = d.pg * d.pgs * d.rgs := by rw [Nat.mul_comm, Nat.mul_comm d.pgs]
theorem flush_img {d : Dev} (h : d.Ok) : (d.wait.foldl (fun im x => over im (x.1 * d.pg) x.2) d.img).length = d.img.length :=
  foldl_over_length d.pg d.wait d.img fun x hx => by have := h.wait x hx; rw [this.2]; exact h.page this.1
theorem flush_keeps {d : Dev} (h : d.Ok) : (flushD d).2.Ok := by
  unfold flushD
  split
  · exact h
  split
  · exact h.like (blow_like d)
  · refine ((h.image (flush_img h)).none).like (e := { d.blow.2 with img := _, wait := [] }) ?_
    obtain ⟨a, b', c, i, x⟩ := blow_like d
    exact ⟨a, b', c, rfl, rfl⟩
theorem fuse_keeps {d : Dev} (h : d.Ok) (k : Int) : (fuseD d k).Ok := h.like ⟨rfl, rfl, rfl, rfl, rfl⟩
theorem crash_len (pg : Nat) (hp : 2 ≤ pg) (mask : List Int) : ∀ (l : List ((Nat × List UInt8) × Nat)) (im : List UInt8), (∀ x ∈ l, x.1.1 * pg + pg ≤ im.length ∧ x.1.2.length = pg) →
    (l.foldl (fun im x => over im (x.1.1 * pg) (x.1.2.take (tornN pg (mask.getD x.2 0)))) im).length = im.length
  | [], _, _ => rfl
  | x :: r, im, h => by
    have hx := h x (List.mem_cons_self ..)
    have h0 : (over im (x.1.1 * pg) (x.1.2.take (tornN pg (mask.getD x.2 0)))).length = im.length := over_length (by
      have := tornN_le pg hp (mask.getD x.2 0)
      rw [List.length_take]; omega)
    rw [List.foldl_cons, crash_len pg hp mask r _ (fun y hy => by rw [h0]; exact h y (List.mem_cons_of_mem _ hy)), h0]
theorem crash_keeps {d : Dev} (h : d.Ok) (mask : List Int) : (crashD d mask).Ok := by
  have hl := crash_len d.pg (by have := h.p0; omega) mask d.wait.zipIdx d.img (fun x hx => by
    have hm : x.1 ∈ d.wait := by
      obtain ⟨y, i⟩ := x
      exact (List.mem_zipIdx hx).2.2 ▸ List.getElem_mem _
    have := h.wait x.1 hm
    exact ⟨h.page this.1, this.2⟩)
  exact ((h.image hl).none).like ⟨rfl, rfl, rfl, rfl, rfl⟩
theorem rot_keeps {d : Dev} (h : d.Ok) (p k : Int) (x : UInt8) : (rotD d p k x).2.Ok := by
  unfold rotD
  split
  · exact h
  · exact h.image (by simp)
end Go.Proofs.YtcmjambbdfangaaGreat.Flash
/-
  What follows of the document's device for the statements of chapter 7. Nothing of the program.
-/
set_option linter.unusedVariables false
set_option linter.unusedSimpArgs false
namespace Go.Proofs.YtcmjambbdfangaaGreat.Flash

theorem has_nat {d : Dev} {p : Nat} (h : p < d.n) : d.has (p : Int) = true := by
  unfold Dev.has; simp; omega
theorem program_ok {d : Dev} {p : Nat} {b : List UInt8} (h1 : d.down = false) (h2 : p < d.n) (h3 : b.length = d.pg) (h4 : d.waits p = false) (h5 : blank (d.held p) = true) :
    programD d p b = (if d.blow.1 then 6 else 0, { d.blow.2 with wait := d.wait ++ [(p, b)] }) := by
  unfold programD
  rw [if_neg (by simp [h1]), if_neg (by simp [has_nat h2, h3]), Int.toNat_natCast, if_neg (by simp [h4, h5])]
theorem program_state {d : Dev} {p : Nat} {b : List UInt8} (h1 : d.down = false) (h2 : p < d.n) (h3 : b.length = d.pg) (h4 : d.waits p = true ∨ blank (d.held p) = false) : programD d p b = (7, d) := by
  unfold programD
  rw [if_neg (by simp [h1]), if_neg (by simp [has_nat h2, h3]), Int.toNat_natCast, if_pos h4]
theorem program_arg {d : Dev} {p : Int} {b : List UInt8} (h1 : d.down = false) (h2 : d.has p = false ∨ b.length ≠ d.pg) : programD d p b = (1, d) := by
  unfold programD
  rw [if_neg (by simp [h1]), if_pos h2]
theorem held_none {d : Dev} {p : Nat} (h : d.wait = []) : d.held p = cut d.img (p * d.pg) d.pg := by unfold Dev.held; rw [h]; rfl
/-- the document's small device, up, without a fuse -/
def tinyD (img : List UInt8) (wait : List (Nat × List UInt8)) : Dev := ⟨32, 3, 4, img, wait, none, false⟩
def ff (n : Nat) : List UInt8 := List.replicate n 255
theorem ff_length (n : Nat) : (ff n).length = n := by simp [ff]
theorem new_tiny : newD 32 3 4 [] = tinyD (ff 384) [] := rfl
theorem tiny_n (img : List UInt8) (wait : List (Nat × List UInt8)) : (tinyD img wait).n = 12 := rfl
theorem tiny_program {img : List UInt8} {p : Nat} {b : List UInt8} (hp : p < 12) (hb : b.length = 32) (hl : blank (cut img (p * 32) 32) = true) : programD (tinyD img []) p b = (0, tinyD img [(p, b)]) :=
  program_ok rfl hp hb rfl hl
theorem tiny_flush (img : List UInt8) (wait : List (Nat × List UInt8)) : flushD (tinyD img wait) = (0, tinyD (wait.foldl (fun im x => over im (x.1 * 32) x.2) img) []) := rfl
theorem blank_ff {p n m : Nat} (h : p + n ≤ m) : blank (cut (ff m) p n) = true := by unfold ff; rw [cut_replicate 255 h]; exact blank_replicate n
theorem tiny_read {img : List UInt8} {p : Nat} (hp : p < 12) : readD (tinyD img []) p = (cut img (p * 32) 32, 0) := by
  unfold readD
  rw [if_neg (by simp [tinyD]), has_nat (by exact hp), if_neg (by simp), Int.toNat_natCast, held_none rfl]; rfl
/-- FlashTorn -/
def tornI (a b : List UInt8) (m : Int) : List UInt8 := over (over (ff 384) 32 a) 128 (b.take (tornN 32 m))
theorem torn_1 {a : List UInt8} (ha : a.length = 32) : programD (newD 32 3 4 []) 1 a = (0, tinyD (ff 384) [(1, a)]) := by rw [new_tiny]; exact tiny_program (p := 1) (by omega) ha (blank_ff (by omega))
theorem torn_2 (a : List UInt8) : flushD (tinyD (ff 384) [(1, a)]) = (0, tinyD (over (ff 384) 32 a) []) := rfl
theorem torn_3 {a b : List UInt8} (ha : a.length = 32) (hb : b.length = 32) : programD (tinyD (over (ff 384) 32 a) []) 4 b = (0, tinyD (over (ff 384) 32 a) [(4, b)]) :=
  tiny_program (p := 4) (by omega) hb (by rw [cut_over_after (by omega) (by rw [ff_length]; omega)]; exact blank_ff (by omega))
theorem torn_4 (a b : List UInt8) (m : Int) : crashD (tinyD (over (ff 384) 32 a) [(4, b)]) [m] = tinyD (tornI a b m) [] := by unfold crashD tinyD tornI; simp
theorem torn_5 {a : List UInt8} (ha : a.length = 32) (b : List UInt8) (m : Int) : readD (tinyD (tornI a b m) []) 1 = (a, 0) := by
  have h := tiny_read (img := tornI a b m) (p := 1) (by omega)
  rw [show ((1 : Nat) : Int) = 1 from rfl] at h
  rw [h]
  unfold tornI
  rw [cut_over_before (by omega) (by rw [over_length] <;> (simp [ff_length, ha])), cut_over_same (by rw [ff_length]; omega) ha]
theorem torn_6 {a b : List UInt8} (ha : a.length = 32) (hb : b.length = 32) (m : Int) : readD (tinyD (tornI a b m) []) 4 = (b.take (tornN 32 m) ++ ff (32 - tornN 32 m), 0) := by
  have h := tiny_read (img := tornI a b m) (p := 4) (by omega)
  rw [show ((4 : Nat) : Int) = 4 from rfl] at h
  have hk := tornN_le 32 (by omega) m
  have hl : (b.take (tornN 32 m)).length = tornN 32 m := by rw [List.length_take]; omega
  have h1 : (over (ff 384) 32 a).length = 384 := by rw [over_length] <;> (simp [ff_length, ha])
  rw [h]
  unfold tornI
  rw [cut_over_part (by omega) (by omega), hl, cut_over_after (by omega) (by rw [ff_length]; omega)]
  unfold ff
  rw [cut_replicate 255 (by omega)]
/-- FlashFuses -/
def fusedD (b : List UInt8) (n i : Nat) (down : Bool) : Dev := ⟨32, 3, 4, ff 384, (List.range i).map (fun j => (j, b)), some (n - i), down⟩
theorem held_fused {b : List UInt8} {n i p : Nat} {down : Bool} (h : i ≤ p) (hp : p < 12) : blank ((fusedD b n i down).held p) = true ∧ (fusedD b n i down).waits p = false := by
  have hw : ∀ x ∈ (List.range i).map (fun j => (j, b)), x.1 ≠ p := by
    intro x hx
    obtain ⟨j, hj, rfl⟩ := List.mem_map.1 hx
    have := List.mem_range.1 hj
    simp; omega
  constructor
  · have : ∀ (l : List (Nat × List UInt8)) (s : List UInt8), (∀ x ∈ l, x.1 ≠ p) → l.foldl (fun s x => if x.1 = p then x.2 else s) s = s := by
      intro l
      induction l with
      | nil => intros; rfl
      | cons x r ih => intro s h; rw [List.foldl_cons, if_neg (h x (List.mem_cons_self ..))]; exact ih s (fun y hy => h y (List.mem_cons_of_mem _ hy))
    unfold Dev.held fusedD
    rw [this _ _ hw]
    show blank (cut (ff 384) (p * 32) 32) = true
    exact blank_ff (by omega)
  · unfold Dev.waits fusedD
    rw [List.any_eq_false]
    intro x hx; simpa using hw x hx
theorem fuse_0 (b : List UInt8) (n : Nat) : fuseD (newD 32 3 4 []) n = fusedD b n 0 false := by
  unfold fuseD fusedD
  rw [if_neg (by omega), Int.toNat_natCast]; rfl
theorem fuse_bad {b : List UInt8} {n i : Nat} (p : Int) (s : List UInt8) (hs : s.length = 1) : programD (fusedD b n i false) p s = (1, fusedD b n i false) := program_arg rfl (.inr (by rw [hs]; simp [fusedD]))
theorem fused_succ (b : List UInt8) (i : Nat) : (List.range i).map (fun j => (j, b)) ++ [(i, b)] = (List.range (i + 1)).map (fun j => (j, b)) := by rw [List.range_succ, List.map_append]; rfl
theorem fuse_lt {b : List UInt8} {n i : Nat} (hb : b.length = 32) (h : i < n) (hn : n < 12) : programD (fusedD b n i false) i b = (0, fusedD b n (i + 1) false) := by
  have h0 := held_fused (b := b) (n := n) (down := false) (Nat.le_refl i) (by omega)
  rw [program_ok rfl (show i < 12 by omega) hb h0.2 h0.1]
  have e : (fusedD b n i false).blow = (false, { fusedD b n i false with fuse := some (n - (i + 1)) }) := by
    unfold Dev.blow fusedD
    rw [show n - i = (n - (i + 1)) + 1 by omega]
  rw [e]
  simp only [Bool.false_eq_true, if_false]
  unfold fusedD
  rw [fused_succ]
theorem fuse_at {b : List UInt8} {n : Nat} (hb : b.length = 32) (hn : n < 12) : programD (fusedD b n n false) n b = (6, fusedD b n (n + 1) true) := by
  have h0 := held_fused (b := b) (n := n) (down := false) (Nat.le_refl n) (by omega)
  rw [program_ok rfl (show n < 12 by omega) hb h0.2 h0.1]
  have e : (fusedD b n n false).blow = (true, { fusedD b n n false with down := true }) := by
    unfold Dev.blow fusedD
    rw [Nat.sub_self]
  rw [e]
  simp only [if_true]
  unfold fusedD
  rw [fused_succ, Nat.sub_self, show n - (n + 1) = 0 by omega]
theorem fuse_read (b : List UInt8) (n i : Nat) (p : Int) : readD (fusedD b n i true) p = ([], 6) := rfl
theorem fuse_flush (b : List UInt8) (n i : Nat) : flushD (fusedD b n i true) = (6, fusedD b n i true) := rfl
theorem fuse_erase (b : List UInt8) (n i : Nat) (r : Int) : eraseD (fusedD b n i true) r = (6, fusedD b n i true) := rfl
theorem fuse_wait (b : List UInt8) (n i : Nat) (down : Bool) : (fusedD b n i down).wait.length = i := by simp [fusedD]
/-- FlashErased -/
def erasedD (img : List UInt8) : Dev := ⟨32, 3, 4, img, [(6, ff 32), (7, ff 32), (8, ff 32)], some 0, true⟩
def erasedI (img : List UInt8) (mask : List Int) : List UInt8 := over (over (over img 192 (ff (tornN 32 (mask.getD 0 0)))) 224 (ff (tornN 32 (mask.getD 1 0)))) 256 (ff (tornN 32 (mask.getD 2 0)))
theorem new_full {img : List UInt8} (h : img.length = 384) : newD 32 3 4 img = tinyD img [] := by
  unfold newD tinyD
  rw [h]; simp
theorem erased_1 (img : List UInt8) : eraseD (fuseD (tinyD img []) 0) 2 = (6, erasedD img) := rfl
theorem take_ff {k n : Nat} (h : k ≤ n) : (ff n).take k = ff k := by unfold ff; rw [List.take_replicate]; congr 1; omega
theorem erased_2 (img : List UInt8) (mask : List Int) : crashD (erasedD img) mask = tinyD (erasedI img mask) [] := by
  have h0 := tornN_le 32 (by omega) (mask.getD 0 0)
  have h1 := tornN_le 32 (by omega) (mask.getD 1 0)
  have h2 := tornN_le 32 (by omega) (mask.getD 2 0)
  unfold erasedI
  rw [← take_ff h0, ← take_ff h1, ← take_ff h2]
  rfl
theorem erased_len {img : List UInt8} (h : img.length = 384) (mask : List Int) : (erasedI img mask).length = 384 := by
  have h0 := tornN_le 32 (by omega) (mask.getD 0 0)
  have h1 := tornN_le 32 (by omega) (mask.getD 1 0)
  have h2 := tornN_le 32 (by omega) (mask.getD 2 0)
  unfold erasedI
  have e0 := over_length (img := img) (p := 192) (bs := ff (tornN 32 (mask.getD 0 0))) (by rw [ff_length]; omega)
  have e1 := over_length (img := over img 192 (ff (tornN 32 (mask.getD 0 0)))) (p := 224) (bs := ff (tornN 32 (mask.getD 1 0))) (by rw [ff_length]; omega)
  rw [over_length (by rw [ff_length]; omega)]
  omega
theorem erased_take {img : List UInt8} (h : img.length = 384) (mask : List Int) : (erasedI img mask).take 192 = img.take 192 := by
  have h0 := tornN_le 32 (by omega) (mask.getD 0 0)
  have h1 := tornN_le 32 (by omega) (mask.getD 1 0)
  have e0 := over_length (img := img) (p := 192) (bs := ff (tornN 32 (mask.getD 0 0))) (by rw [ff_length]; omega)
  have e1 := over_length (img := over img 192 (ff (tornN 32 (mask.getD 0 0)))) (p := 224) (bs := ff (tornN 32 (mask.getD 1 0))) (by rw [ff_length]; omega)
  unfold erasedI
  rw [take_over (by omega) (by omega), take_over (by omega) (by omega), take_over (by omega) (by omega)]
theorem erased_drop {img : List UInt8} (h : img.length = 384) (mask : List Int) : (erasedI img mask).drop 288 = img.drop 288 := by
  have h0 := tornN_le 32 (by omega) (mask.getD 0 0)
  have h1 := tornN_le 32 (by omega) (mask.getD 1 0)
  have h2 := tornN_le 32 (by omega) (mask.getD 2 0)
  have e0 := over_length (img := img) (p := 192) (bs := ff (tornN 32 (mask.getD 0 0))) (by rw [ff_length]; omega)
  have e1 := over_length (img := over img 192 (ff (tornN 32 (mask.getD 0 0)))) (p := 224) (bs := ff (tornN 32 (mask.getD 1 0))) (by rw [ff_length]; omega)
  unfold erasedI
  rw [drop_over (by rw [ff_length]; omega) (by omega), drop_over (by rw [ff_length]; omega) (by omega), drop_over (by rw [ff_length]; omega) (by omega)]
theorem erased_cut {img : List UInt8} (h : img.length = 384) (mask : List Int) {i : Nat} (hi : i < 3) :
    cut (erasedI img mask) (192 + 32 * i) 32 = ff (tornN 32 (mask.getD i 0)) ++ cut img (192 + 32 * i + tornN 32 (mask.getD i 0)) (32 - tornN 32 (mask.getD i 0)) := by
  have h0 := tornN_le 32 (by omega) (mask.getD 0 0)
  have h1 := tornN_le 32 (by omega) (mask.getD 1 0)
  have h2 := tornN_le 32 (by omega) (mask.getD 2 0)
  have e0 := over_length (img := img) (p := 192) (bs := ff (tornN 32 (mask.getD 0 0))) (by rw [ff_length]; omega)
  have e1 := over_length (img := over img 192 (ff (tornN 32 (mask.getD 0 0)))) (p := 224) (bs := ff (tornN 32 (mask.getD 1 0))) (by rw [ff_length]; omega)
  unfold erasedI
  match i, hi with
  | 0, _ =>
    rw [cut_over_before (by omega) (by omega), cut_over_before (by omega) (by omega), cut_over_part (by omega) (by rw [ff_length]; omega), ff_length]
  | 1, _ =>
    rw [cut_over_before (by omega) (by omega), cut_over_part (by omega) (by rw [ff_length]; omega), ff_length, cut_over_after (by rw [ff_length]; omega) (by omega)]
  | 2, _ =>
    rw [cut_over_part (by omega) (by rw [ff_length]; omega), ff_length, cut_over_after (by rw [ff_length]; omega) (by omega), cut_over_after (by rw [ff_length]; omega) (by omega)]
/-- FlashOnce -/
theorem once_y {p : Nat} {a b : List UInt8} (hp : p < 12) (hb : b.length = 32) (img : List UInt8) : programD (tinyD img [(p, a)]) p b = (7, tinyD img [(p, a)]) := program_state rfl hp hb (.inl (by simp [Dev.waits, tinyD]))
theorem once_z {p : Nat} {a : List UInt8} (hp : p < 12) (img : List UInt8) : eraseD (tinyD img [(p, a)]) ((p / 3 : Nat) : Int) = (7, tinyD img [(p, a)]) := by
  unfold eraseD
  rw [if_neg (by simp [tinyD]), if_neg (by simp [tinyD]; omega), Int.toNat_natCast, if_pos (by rw [List.any_eq_true]; exact ⟨(p, a), by simp [tinyD], by
    show (decide (p / 3 * 3 ≤ p) && decide (p < p / 3 * 3 + 3)) = true
    rw [decide_eq_true (by omega), decide_eq_true (by omega)]; rfl⟩)]
theorem once_v0 {p : Nat} {a b : List UInt8} (hp : p < 12) (ha : a.length = 32) (hb : b.length = 32) (h : blank a = true) : programD (tinyD (over (ff 384) (p * 32) a) []) p b = (0, tinyD (over (ff 384) (p * 32) a) [(p, b)]) :=
  tiny_program hp hb (by rw [cut_over_same (by rw [ff_length]; omega) ha]; exact h)
theorem once_v1 {p : Nat} {a b : List UInt8} (hp : p < 12) (ha : a.length = 32) (hb : b.length = 32) (h : blank a = false) : programD (tinyD (over (ff 384) (p * 32) a) []) p b = (7, tinyD (over (ff 384) (p * 32) a) []) :=
  program_state rfl hp hb (.inr (by rw [held_none rfl]; show blank (cut (over (ff 384) (p * 32) a) (p * 32) 32) = false; rw [cut_over_same (by rw [ff_length]; omega) ha]; exact h))
theorem once_w {p : Nat} (hp : p < 12) (img : List UInt8) : eraseD (tinyD img []) ((p / 3 : Nat) : Int) = (0, tinyD (over img (p / 3 * 3 * 32) (ff 96)) []) := by
  unfold eraseD
  rw [if_neg (by simp [tinyD]), if_neg (by simp [tinyD]; omega), Int.toNat_natCast, if_neg (by simp [tinyD]), if_neg (by simp [tinyD, Dev.blow])]
  rfl
theorem cut_mid {img : List UInt8} {q p : Nat} (hq : q + 96 ≤ img.length) (h1 : q ≤ p) (h2 : p + 32 ≤ q + 96) : cut (over img q (ff 96)) p 32 = ff 32 := by
  unfold cut over
  have hl : (img.take q).length = q := by simp; omega
  rw [List.append_assoc, List.drop_append, List.drop_eq_nil_of_le (by omega), List.nil_append, hl, List.drop_append_of_le_length (by rw [ff_length]; omega), List.take_append_of_le_length (by rw [List.length_drop, ff_length]; omega)]
  unfold ff
  rw [List.drop_replicate, List.take_replicate]
  congr 1; omega
theorem once_s {p : Nat} (hp : p < 12) {img : List UInt8} (hl : img.length = 384) : readD (tinyD (over img (p / 3 * 3 * 32) (ff 96)) []) p = (ff 32, 0) := by
  rw [tiny_read hp, cut_mid (by omega) (by omega) (by omega)]
theorem once_end {p : Nat} (hp : p < 12) {img b : List UInt8} (hl : img.length = 384) (hb : b.length = 32) : programD (tinyD (over img (p / 3 * 3 * 32) (ff 96)) []) p b = (0, tinyD (over img (p / 3 * 3 * 32) (ff 96)) [(p, b)]) :=
  tiny_program hp hb (by rw [cut_mid (by omega) (by omega) (by omega)]; exact blank_replicate 32)
/-- FlashRots -/
theorem rot_ok {d : Dev} {p k : Nat} (hp : p < d.n) (hk : k < d.pg) (x : UInt8) : rotD d p k x = (0, { d with img := d.img.modify (p * d.pg + k) (· ^^^ x) }) := by
  unfold rotD
  rw [if_neg (by rw [has_nat hp]; simp; omega), Int.toNat_natCast, Int.toNat_natCast]
theorem rot_rot (l : List UInt8) (i : Nat) (x : UInt8) : (l.modify i (· ^^^ x)).modify i (· ^^^ x) = l := by
  apply List.ext_getElem
  · simp
  · intro j h1 h2
    simp only [List.getElem_modify]
    split
    · rename_i h; subst h; simp [UInt8.xor_assoc]
    · rfl
end Go.Proofs.YtcmjambbdfangaaGreat.Flash
/-
  An account of regions as the document has it. Nothing of the program.
-/
set_option linter.unusedVariables false
set_option linter.unusedSimpArgs false
namespace Go.Proofs.YtcmjambbdfangaaGreat.Chart

structure Ch where
  pg : Nat
  pgs : Nat
  rgs : Nat
  st : List (Nat × Nat)
  now : Option Nat
def Ch.slots (c : Ch) : Nat := c.pgs - 1
def Ch.is (c : Ch) (i : Int) : Bool := decide (0 ≤ i) && decide (i < (c.rgs : Int))
def Ch.ep (c : Ch) (i : Nat) : Nat := (c.st.getD i (0, 0)).1
def Ch.us (c : Ch) (i : Nat) : Nat := (c.st.getD i (0, 0)).2
/-- such an account as there may be -/
structure Ch.Ok (c : Ch) : Prop where
  p0 : 32 ≤ c.pg
  p1 : c.pg ≤ 128
  s0 : 3 ≤ c.pgs
  s1 : c.pgs ≤ 10
  r0 : 4 ≤ c.rgs
  r1 : c.rgs ≤ 12
  len : c.st.length = c.rgs
  ep : ∀ i, c.ep i ≤ 2147483647
  us : ∀ i, c.us i ≤ c.slots
  free : ∀ i, c.ep i = 0 → c.us i = 0
  now : ∀ k, c.now = some k → k < c.rgs ∧ c.ep k ≠ 0
/-- of the first k the greatest epoch -/
def Ch.maxTo (c : Ch) : Nat → Nat
  | 0 => 0
  | k + 1 => if c.maxTo k < c.ep k then c.ep k else c.maxTo k
/-- .. the first region that has it -/
def Ch.topTo (c : Ch) : Nat → Nat
  | 0 => 0
  | k + 1 => if c.maxTo k < c.ep k then k else c.topTo k
def Ch.cntTo (c : Ch) : Nat → Nat
  | 0 => 0
  | k + 1 => if c.ep k = 0 then c.cntTo k + 1 else c.cntTo k
def Ch.oldTo (c : Ch) : Nat → Option Nat
  | 0 => none
  | k + 1 => if c.ep k = 0 ∨ c.now = some k then c.oldTo k else match c.oldTo k with
    | none => some k
    | some j => if c.ep k < c.ep j then some k else some j
/-- the first free one of n, from that place on, going round -/
def Ch.scan (c : Ch) (first : Nat) : Nat → Nat → Option Nat
  | _, 0 => none
  | i, n + 1 => if c.ep ((first + i) % c.rgs) = 0 then some ((first + i) % c.rgs) else c.scan first (i + 1) n
def Ch.max (c : Ch) : Nat := c.maxTo c.rgs
def Ch.top (c : Ch) : Nat := c.topTo c.rgs
def Ch.free (c : Ch) : Nat := c.cntTo c.rgs
def Ch.left (c : Ch) : Nat := match c.now with
  | none => 0
  | some k => c.slots - c.us k
def Ch.avail (c : Ch) : Nat := c.left + (c.free - 2) * c.slots
def Ch.next (c : Ch) : Option Nat := c.scan c.top 0 c.rgs
def Ch.put (c : Ch) (i e u : Nat) : Ch := { c with st := c.st.set i (e, u) }
def newC (pg pgs rgs : Nat) : Ch := ⟨pg, pgs, rgs, List.replicate rgs (0, 0), none⟩
def setC (c : Ch) (i : Int) (e : Nat) (u : Int) : Nat × Ch :=
  if c.is i = false ∨ e < 1 ∨ 2147483647 < e ∨ u < 0 ∨ (c.slots : Int) < u then (1, c)
  else if c.ep i.toNat ≠ 0 then (7, c) else (0, c.put i.toNat e u.toNat)
def resumeC (c : Ch) (i : Int) : Nat × Ch :=
  if c.is i = false then (1, c)
  else if c.ep i.toNat = 0 ∨ c.now.isSome = true ∨ c.ep i.toNat < c.max then (7, c) else (0, { c with now := some i.toNat })
def epochC (c : Ch) (i : Int) : Nat := if c.is i = true then c.ep i.toNat else 0
def usedC (c : Ch) (i : Int) : Nat := if c.is i = true then c.us i.toNat else 0
def Ch.openAt (c : Ch) (r : Nat) : Ch := { c.put r (c.max + 1) 0 with now := some r }
def openC (c : Ch) : (Nat × Nat × Bool) × Ch :=
  if 2147483647 ≤ c.max then ((0, 0, false), c) else match c.next with
    | none => ((0, 0, false), c)
    | some r => ((r, c.max + 1, true), c.openAt r)
def Ch.takeAt (c : Ch) (k : Nat) : Ch := c.put k (c.ep k) (c.us k + 1)
def takeC (c : Ch) : (Nat × Bool) × Ch :=
  if c.left = 0 then ((0, false), c) else match c.now with
    | none => ((0, false), c)
    | some k => ((k * c.pgs + (c.us k + 1), true), c.takeAt k)
def oldestC (c : Ch) : Nat × Bool := match c.oldTo c.rgs with
  | none => (0, false)
  | some k => (k, true)
def eraseC (c : Ch) (i : Int) : Nat × Ch :=
  if c.is i = false then (1, c) else if c.ep i.toNat = 0 ∨ c.now = some i.toNat then (7, c) else (0, c.put i.toNat 0 0)

theorem Ch.is_lt {c : Ch} {i : Int} (h : c.is i = true) : ∃ k : Nat, i = (k : Int) ∧ k < c.rgs := by
  unfold Ch.is at h
  simp only [Bool.and_eq_true, decide_eq_true_eq] at h
  exact ⟨i.toNat, by omega, by omega⟩
theorem Ch.is_nat {c : Ch} {k : Nat} (h : k < c.rgs) : c.is (k : Int) = true := by
  unfold Ch.is; simp; omega
theorem Ch.is_not {c : Ch} {i : Int} (h : c.is i = false) : i < 0 ∨ (c.rgs : Int) ≤ i := by
  unfold Ch.is at h
  simp only [Bool.and_eq_false_iff, decide_eq_false_iff_not] at h
  omega
theorem put_ep {c : Ch} (hl : c.st.length = c.rgs) {i e u : Nat} (hi : i < c.rgs) (j : Nat) : (c.put i e u).ep j = if j = i then e else c.ep j := by
  unfold Ch.put Ch.ep
  simp only [List.getD_eq_getElem?_getD, List.getElem?_set]
  by_cases h : i = j
  · subst h; simp [hl, hi]
  · have h2 : ¬ j = i := fun x => h x.symm
    simp [h, h2]
theorem put_us {c : Ch} (hl : c.st.length = c.rgs) {i e u : Nat} (hi : i < c.rgs) (j : Nat) : (c.put i e u).us j = if j = i then u else c.us j := by
  unfold Ch.put Ch.us
  simp only [List.getD_eq_getElem?_getD, List.getElem?_set]
  by_cases h : i = j
  · subst h; simp [hl, hi]
  · have h2 : ¬ j = i := fun x => h x.symm
    simp [h, h2]
theorem ep_out {c : Ch} (hl : c.st.length = c.rgs) {j : Nat} (hj : c.rgs ≤ j) : c.ep j = 0 := by
  unfold Ch.ep; rw [List.getD_eq_getElem?_getD, List.getElem?_eq_none (by omega)]; rfl
theorem us_out {c : Ch} (hl : c.st.length = c.rgs) {j : Nat} (hj : c.rgs ≤ j) : c.us j = 0 := by
  unfold Ch.us; rw [List.getD_eq_getElem?_getD, List.getElem?_eq_none (by omega)]; rfl
theorem st_get {c : Ch} {j : Nat} (hj : j < c.st.length) : c.st[j] = (c.ep j, c.us j) := by
  unfold Ch.ep Ch.us; rw [List.getD_eq_getElem?_getD, List.getElem?_eq_getElem hj]; rfl
theorem maxTo_le {c : Ch} {B : Nat} (h : ∀ i, c.ep i ≤ B) (k : Nat) : c.maxTo k ≤ B := by
  induction k with
  | zero => exact Nat.zero_le _
  | succ k ih => unfold Ch.maxTo; split
                 · exact h k
                 · exact ih
theorem le_maxTo {c : Ch} {k j : Nat} (h : j < k) : c.ep j ≤ c.maxTo k := by
  induction k with
  | zero => omega
  | succ k ih =>
    unfold Ch.maxTo
    by_cases e : j = k
    · subst e; split <;> omega
    · have := ih (by omega); split <;> omega
theorem maxTo_step (c : Ch) (k : Nat) : c.maxTo k ≤ c.maxTo (k + 1) := by
  rw [Ch.maxTo]; split <;> omega
theorem maxTo_mono (c : Ch) {k n : Nat} (h : k ≤ n) : c.maxTo k ≤ c.maxTo n := by
  induction n with
  | zero => obtain rfl : k = 0 := by omega
            exact Nat.le_refl _
  | succ n ih =>
    by_cases e : k = n + 1
    · subst e; exact Nat.le_refl _
    · exact Nat.le_trans (ih (by omega)) (maxTo_step c n)
theorem ep_topTo {c : Ch} {k : Nat} (h : 0 < k) : c.ep (c.topTo k) = c.maxTo k := by
  induction k with
  | zero => omega
  | succ k ih =>
    rw [Ch.topTo, Ch.maxTo]
    by_cases hn : c.maxTo k < c.ep k
    · rw [if_pos hn, if_pos hn]
    · rw [if_neg hn, if_neg hn]
      cases k with
      | zero =>
        simp only [Ch.topTo, Ch.maxTo] at hn ⊢; omega
      | succ k => exact ih (by omega)
theorem topTo_lt {c : Ch} {k : Nat} (h : 0 < k) : c.topTo k < k := by
  induction k with
  | zero => omega
  | succ k ih =>
    rw [Ch.topTo]
    split
    · omega
    · cases k with
      | zero => simp [Ch.topTo]
      | succ k => have := ih (by omega); omega
theorem topTo_zero {c : Ch} {k : Nat} (h : c.maxTo k = 0) : c.topTo k = 0 := by
  induction k with
  | zero => rfl
  | succ k ih =>
    have h0 := maxTo_step c k
    unfold Ch.maxTo at h
    unfold Ch.topTo
    split at h
    · omega
    · rename_i hn; rw [if_neg hn]; exact ih h
/-- the document's own step of the loop: from the second one on it asks the top's epoch -/
theorem topTo_next (c : Ch) (k : Nat) : c.topTo (k + 1) = if c.ep (c.topTo k) < c.ep k then k else c.topTo k := by
  cases k with
  | zero => simp [Ch.topTo]
  | succ k => rw [ep_topTo (by omega)]; rfl
theorem cntTo_le (c : Ch) (k : Nat) : c.cntTo k ≤ k := by
  induction k with
  | zero => exact Nat.le_refl _
  | succ k ih => unfold Ch.cntTo; split <;> omega
theorem cntTo_zero {c : Ch} {k : Nat} (h : ∀ j, j < k → c.ep j ≠ 0) : c.cntTo k = 0 := by
  induction k with
  | zero => rfl
  | succ k ih => unfold Ch.cntTo; rw [if_neg (h k (by omega))]; exact ih fun j hj => h j (by omega)
theorem cntTo_pos {c : Ch} {k j : Nat} (hj : j < k) (h : c.ep j = 0) : 0 < c.cntTo k := by
  induction k with
  | zero => omega
  | succ k ih =>
    unfold Ch.cntTo
    by_cases e : j = k
    · subst e; rw [if_pos h]; omega
    · have := ih (by omega); split <;> omega
theorem scan_none {c : Ch} {first i n : Nat} (h : c.scan first i n = none) : ∀ j, j < n → c.ep ((first + (i + j)) % c.rgs) ≠ 0 := by
  induction n generalizing i with
  | zero => intro j hj; omega
  | succ n ih =>
    unfold Ch.scan at h
    split at h
    · simp at h
    · rename_i hn
      intro j hj
      cases j with
      | zero => exact hn
      | succ j => have := ih h j (by omega); rw [show i + (j + 1) = i + 1 + j by omega]; exact this
theorem scan_some {c : Ch} {first i n r : Nat} (hr : 0 < c.rgs) (h : c.scan first i n = some r) : r < c.rgs ∧ c.ep r = 0 := by
  induction n generalizing i with
  | zero => simp [Ch.scan] at h
  | succ n ih =>
    unfold Ch.scan at h
    split at h
    · rename_i h0
      simp only [Option.some.injEq] at h
      subst h
      exact ⟨Nat.mod_lt _ hr, h0⟩
    · exact ih h
theorem scan_free {c : Ch} {first : Nat} (hr : 0 < c.rgs) : c.scan first 0 c.rgs = none ↔ c.free = 0 := by
  constructor
  · intro h
    refine cntTo_zero fun j hj => ?_
    have hs := scan_none h
    have h1 : first % c.rgs < c.rgs := Nat.mod_lt _ hr
    by_cases hle : first % c.rgs ≤ j
    · have := hs (j - first % c.rgs) (by omega)
      rw [Nat.zero_add, Nat.add_mod, Nat.mod_eq_of_lt (show j - first % c.rgs < c.rgs by omega), show first % c.rgs + (j - first % c.rgs) = j by omega, Nat.mod_eq_of_lt hj] at this
      exact this
    · have := hs (c.rgs + j - first % c.rgs) (by omega)
      rw [Nat.zero_add, Nat.add_mod, Nat.mod_eq_of_lt (show c.rgs + j - first % c.rgs < c.rgs by omega), show first % c.rgs + (c.rgs + j - first % c.rgs) = c.rgs + j by omega, Nat.add_mod_left, Nat.mod_eq_of_lt hj] at this
      exact this
  · intro h
    cases hs : c.scan first 0 c.rgs with
    | none => rfl
    | some r =>
      have := scan_some hr hs
      have := cntTo_pos this.1 this.2
      unfold Ch.free at h; omega
theorem left_le {c : Ch} : c.left ≤ c.slots := by
  unfold Ch.left; split <;> omega
theorem left_open {c : Ch} (h : c.left ≠ 0) : ∃ k, c.now = some k ∧ c.us k < c.slots ∧ c.left = c.slots - c.us k := by
  unfold Ch.left at h ⊢
  cases hn : c.now with
  | none => rw [hn] at h; simp at h
  | some k => rw [hn] at h; exact ⟨k, rfl, by simp only at h; omega, rfl⟩
theorem oldTo_lt {c : Ch} {k j : Nat} (h : c.oldTo k = some j) : j < k := by
  induction k generalizing j with
  | zero => simp [Ch.oldTo] at h
  | succ k ih =>
    unfold Ch.oldTo at h
    split at h
    · have := ih h; omega
    · split at h
      · simp at h; omega
      · rename_i x hx
        have := ih hx
        split at h <;> simp at h <;> omega
theorem new_ep (pg pgs rgs i : Nat) : (newC pg pgs rgs).ep i = 0 := by
  unfold newC Ch.ep; simp only [List.getD_eq_getElem?_getD, List.getElem?_replicate]; split <;> rfl
theorem new_us (pg pgs rgs i : Nat) : (newC pg pgs rgs).us i = 0 := by
  unfold newC Ch.us; simp only [List.getD_eq_getElem?_getD, List.getElem?_replicate]; split <;> rfl
theorem new_ok {pg pgs rgs : Nat} (p0 : 32 ≤ pg) (p1 : pg ≤ 128) (s0 : 3 ≤ pgs) (s1 : pgs ≤ 10) (r0 : 4 ≤ rgs) (r1 : rgs ≤ 12) : (newC pg pgs rgs).Ok :=
  ⟨p0, p1, s0, s1, r0, r1, by simp [newC], fun i => by rw [new_ep]; omega, fun i => by rw [new_us]; omega, fun i _ => new_us _ _ _ i, fun k h => by simp [newC] at h⟩
theorem max_le {c : Ch} (h : c.Ok) : c.max ≤ 2147483647 := maxTo_le h.ep _
theorem put_ok {c : Ch} (h : c.Ok) {i e u : Nat} (hi : i < c.rgs) (he : e ≤ 2147483647) (hu : u ≤ c.slots) (h0 : e = 0 → u = 0 ∧ c.now ≠ some i) : (c.put i e u).Ok := by
  have H1 := put_ep h.len (i := i) (e := e) (u := u) hi
  have H2 := put_us h.len (i := i) (e := e) (u := u) hi
  refine ⟨h.p0, h.p1, h.s0, h.s1, h.r0, h.r1, by simp [Ch.put, h.len], fun j => ?_, fun j => ?_, fun j hj => ?_, fun k hk => ⟨(h.now k hk).1, ?_⟩⟩
  · rw [H1]; split
    · exact he
    · exact h.ep j
  · rw [H2]; split
    · exact hu
    · exact h.us j
  · rw [H1] at hj; rw [H2]; split at hj
    · rename_i e1; rw [if_pos e1]; exact (h0 hj).1
    · rename_i e1; rw [if_neg e1]; exact h.free j hj
  · rw [H1]; split
    · rename_i e1; intro e2; exact (h0 e2).2 (by rw [← e1]; exact hk)
    · exact (h.now k hk).2
theorem now_ok {c : Ch} (h : c.Ok) {k : Nat} (hk : k < c.rgs) (he : c.ep k ≠ 0) : ({ c with now := some k } : Ch).Ok :=
  ⟨h.p0, h.p1, h.s0, h.s1, h.r0, h.r1, h.len, h.ep, h.us, h.free, fun j hj => by simp only [Option.some.injEq] at hj; subst hj; exact ⟨hk, he⟩⟩
theorem set_keeps {c : Ch} (h : c.Ok) (i : Int) (e : Nat) (u : Int) : (setC c i e u).2.Ok := by
  unfold setC
  split
  · exact h
  · rename_i hn
    split
    · exact h
    · rename_i h0
      have hi : c.is i = true := by cases hx : c.is i <;> simp [hx] at hn ⊢
      obtain ⟨k, rfl, hk⟩ := Ch.is_lt hi
      refine put_ok h (by simpa using hk) (by omega) (by omega) (by omega)
theorem resume_keeps {c : Ch} (h : c.Ok) (i : Int) : (resumeC c i).2.Ok := by
  unfold resumeC
  split
  · exact h
  · rename_i hn
    split
    · exact h
    · rename_i h0
      obtain ⟨k, rfl, hk⟩ := Ch.is_lt (by simpa using hn)
      exact now_ok h (by simpa using hk) (by intro e; exact h0 (.inl e))
theorem next_lt {c : Ch} (h : c.Ok) {r : Nat} (hr : c.next = some r) : r < c.rgs ∧ c.ep r = 0 := scan_some (by have := h.r0; omega) hr
theorem openAt_ok {c : Ch} (h : c.Ok) {r : Nat} (hr : r < c.rgs) (hm : c.max < 2147483647) : (c.openAt r).Ok := by
  have h1 := put_ok h (i := r) (e := c.max + 1) (u := 0) hr (by omega) (Nat.zero_le _) (by omega)
  exact now_ok h1 hr (by rw [put_ep h.len hr, if_pos rfl]; omega)
theorem open_keeps {c : Ch} (h : c.Ok) : (openC c).2.Ok := by
  unfold openC
  split
  · exact h
  · cases hn : c.next with
    | none => exact h
    | some r => exact openAt_ok h (next_lt h hn).1 (by omega)
theorem takeAt_ok {c : Ch} (h : c.Ok) {k : Nat} (hn : c.now = some k) (hu : c.us k < c.slots) : (c.takeAt k).Ok :=
  put_ok h (h.now k hn).1 (h.ep k) (by omega) (fun e => absurd e (h.now k hn).2)
theorem take_keeps {c : Ch} (h : c.Ok) : (takeC c).2.Ok := by
  unfold takeC
  split
  · exact h
  · rename_i hl
    obtain ⟨k, hn, hu, _⟩ := left_open hl
    rw [hn]
    exact takeAt_ok h hn hu
theorem erase_keeps {c : Ch} (h : c.Ok) (i : Int) : (eraseC c i).2.Ok := by
  unfold eraseC
  split
  · exact h
  · rename_i hn
    split
    · exact h
    · rename_i h0
      obtain ⟨k, rfl, hk⟩ := Ch.is_lt (by simpa using hn)
      simp only [Int.toNat_natCast] at h0 ⊢
      exact put_ok h hk (Nat.zero_le _) (Nat.zero_le _) fun _ => ⟨rfl, fun e => h0 (.inr e)⟩
theorem take_open {c : Ch} {k : Nat} (hn : c.now = some k) (hu : c.us k < c.slots) : takeC c = ((k * c.pgs + (c.us k + 1), true), c.takeAt k) := by
  unfold takeC
  have : c.left ≠ 0 := by unfold Ch.left; rw [hn]; simp only; omega
  rw [if_neg this, hn]
theorem take_full {c : Ch} (h : c.left = 0) : takeC c = ((0, false), c) := by unfold takeC; rw [if_pos h]
end Go.Proofs.YtcmjambbdfangaaGreat.Chart
/-
  What the book's Pick answers.
-/
set_option linter.unusedVariables false
set_option linter.unusedSimpArgs false
namespace Go.Proofs.YtcmjambbdfangaaGreat.Book
open Go.RowKit
theorem ret_int {k : IntKind} {a b : Int} (h : a = b) : Ending.returned (.int k a) = .returned (.int k b) := by rw [h]
theorem pick_any (n : Int) (m : Nat) (hm : 0 < m) (hm2 : m ≤ 2000000) (w : World) : Calls Tryz.prog 7 #[.int .i64 n, .int .i64 (m : Int)] w fun e w' => e = .returned (.int .i64 (n % (m : Int))) ∧ w = w' := by
  have h0 : ((m : Int) == 0) = false := by simp; omega
  have hp : 0 ≤ n % (m : Int) := Int.emod_nonneg _ (by omega)
  have hlt : n % (m : Int) < (m : Int) := Int.emod_lt_of_pos _ (by omega)
  have e : n.tmod (m : Int) = n % (m : Int) ∨ n.tmod (m : Int) = n % (m : Int) - (m : Int) := by
    have h := Int.tmod_eq_emod (a := n) (b := (m : Int))
    split at h
    · left; omega
    · right; rw [h]; simp
  have hlo : -(m : Int) ≤ n.tmod (m : Int) ∧ n.tmod (m : Int) < (m : Int) := by omega
  by_cases hn : n.tmod (m : Int) < 0
  · have HE := Lib.hid (show n.tmod (m : Int) + (m : Int) = n % (m : Int) by omega)
    clear e
    go_enter Tryz.func7, Tryz.ntmps7
    go_wp2
    go_ret
    exact ⟨ret_int HE.out, rfl⟩
  · have HE := Lib.hid (show n.tmod (m : Int) = n % (m : Int) by omega)
    clear e
    go_enter Tryz.func7, Tryz.ntmps7
    go_wp2
    go_ret
    exact ⟨ret_int HE.out, rfl⟩
end Go.Proofs.YtcmjambbdfangaaGreat.Book
