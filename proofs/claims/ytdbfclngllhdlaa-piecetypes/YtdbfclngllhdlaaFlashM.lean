/-
  A device as the document has it: its bytes, what is pending, its fuse. Nothing of the program.
-/
import Derived.Test.YtdbfclngllhdlaaCommon
set_option linter.unusedVariables false
set_option linter.unusedSimpArgs false
namespace Go.Proofs.Ytdbfclngllhdlaa.Flash

structure Dev where
  pg : Nat
  pgs : Nat
  rgs : Nat
  img : List UInt8
  wait : List (Nat × List UInt8)
  fuse : Option Nat
  down : Bool
def over (img : List UInt8) (p : Nat) (bs : List UInt8) : List UInt8 := img.take p ++ bs ++ img.drop (p + bs.length)
def cut (img : List UInt8) (p n : Nat) : List UInt8 := (img.drop p).take n
theorem over_length {img : List UInt8} {p : Nat} {bs : List UInt8} (h : p + bs.length ≤ img.length) : (over img p bs).length = img.length := by
  simp only [over, List.length_append, List.length_take, List.length_drop]; omega
theorem over_nil (img : List UInt8) (p : Nat) : over img p [] = img := by simp [over]
theorem cut_length {img : List UInt8} {p n : Nat} (h : p + n ≤ img.length) : (cut img p n).length = n := by
  simp only [cut, List.length_take, List.length_drop]; omega
theorem cut_over_before {img : List UInt8} {p q n : Nat} {bs : List UInt8} (h : q + n ≤ p) (hp : p ≤ img.length) : cut (over img p bs) q n = cut img q n := by
  unfold cut over
  rw [List.append_assoc, List.drop_append_of_le_length (by simp; omega), List.take_append_of_le_length (by simp; omega), List.drop_take, List.take_take]
  congr 1; omega
theorem cut_over_after {img : List UInt8} {p q n : Nat} {bs : List UInt8} (h : p + bs.length ≤ q) (hp : p ≤ img.length) : cut (over img p bs) q n = cut img q n := by
  unfold cut over
  have hl : (img.take p ++ bs).length = p + bs.length := by simp; omega
  rw [List.drop_append, List.drop_eq_nil_of_le (by omega), List.nil_append, List.drop_drop, hl]
  congr 2; omega
theorem cut_over_part {img : List UInt8} {p n : Nat} {bs : List UInt8} (hp : p ≤ img.length) (hb : bs.length ≤ n) : cut (over img p bs) p n = bs ++ cut img (p + bs.length) (n - bs.length) := by
  unfold cut over
  have hl : (img.take p).length = p := by simp; omega
  rw [List.append_assoc, List.drop_append, List.drop_eq_nil_of_le (by omega), List.nil_append, hl, Nat.sub_self, List.drop_zero, List.take_append]
  rw [List.take_of_length_le hb]
theorem cut_over_same {img : List UInt8} {p n : Nat} {bs : List UInt8} (hp : p ≤ img.length) (hb : bs.length = n) : cut (over img p bs) p n = bs := by
  rw [cut_over_part hp (by omega), hb, Nat.sub_self]; simp [cut]
theorem cut_replicate {m p n : Nat} (c : UInt8) (h : p + n ≤ m) : cut (List.replicate m c) p n = List.replicate n c := by
  unfold cut; rw [List.drop_replicate, List.take_replicate]; congr 1; omega
theorem take_over {img : List UInt8} {p q : Nat} {bs : List UInt8} (h : q ≤ p) (hp : p ≤ img.length) : (over img p bs).take q = img.take q := by
  have := cut_over_before (img := img) (p := p) (q := 0) (n := q) (bs := bs) (by omega) hp
  simpa [cut] using this
theorem drop_over {img : List UInt8} {p q : Nat} {bs : List UInt8} (h : p + bs.length ≤ q) (hp : p ≤ img.length) : (over img p bs).drop q = img.drop q := by
  unfold over
  have hl : (img.take p ++ bs).length = p + bs.length := by simp; omega
  rw [List.drop_append, List.drop_eq_nil_of_le (by omega), List.nil_append, List.drop_drop, hl]
  congr 1; omega
def blank (l : List UInt8) : Bool := l.all (· == 255)
theorem blank_replicate (n : Nat) : blank (List.replicate n 255) = true := by simp [blank]
def Dev.n (d : Dev) : Nat := d.pgs * d.rgs
/-- is there such a page? -/
def Dev.has (d : Dev) (p : Int) : Bool := decide (0 ≤ p) && decide (p < (d.n : Int))
/-- a page with what is pending -/
def Dev.held (d : Dev) (p : Nat) : List UInt8 := d.wait.foldl (fun s x => if x.1 = p then x.2 else s) (cut d.img (p * d.pg) d.pg)
def Dev.waits (d : Dev) (p : Nat) : Bool := d.wait.any fun x => decide (x.1 = p)
/-- does a call that counts blow? -/
def Dev.blow (d : Dev) : Bool × Dev :=
  match d.fuse with
  | none => (false, d)
  | some 0 => (true, { d with down := true })
  | some (k + 1) => (false, { d with fuse := some k })
def readD (d : Dev) (p : Int) : List UInt8 × Nat := if d.down then ([], 6) else if d.has p = false then ([], 1) else (d.held p.toNat, 0)
def programD (d : Dev) (p : Int) (b : List UInt8) : Nat × Dev :=
  if d.down then (6, d) else if d.has p = false ∨ b.length ≠ d.pg then (1, d) else if d.waits p.toNat = true ∨ blank (d.held p.toNat) = false then (7, d) else
  (if d.blow.1 then 6 else 0, { d.blow.2 with wait := d.wait ++ [(p.toNat, b)] })
def eraseD (d : Dev) (r : Int) : Nat × Dev :=
  if d.down then (6, d) else if ¬ (0 ≤ r ∧ r < (d.rgs : Int)) then (1, d) else if (d.wait.any fun x => decide (r.toNat * d.pgs ≤ x.1) && decide (x.1 < r.toNat * d.pgs + d.pgs)) = true then (7, d) else
  if d.blow.1 then (6, { d.blow.2 with wait := d.wait ++ (List.range d.pgs).map fun i => (r.toNat * d.pgs + i, List.replicate d.pg 255) })
  else (0, { d.blow.2 with img := over d.img (r.toNat * d.pgs * d.pg) (List.replicate (d.pgs * d.pg) 255) })
def flushD (d : Dev) : Nat × Dev :=
  if d.down then (6, d) else if d.blow.1 then (6, d.blow.2) else (0, { d.blow.2 with img := d.wait.foldl (fun im x => over im (x.1 * d.pg) x.2) d.img, wait := [] })
def fuseD (d : Dev) (k : Int) : Dev := { d with fuse := if k < 0 then none else some k.toNat }
/-- how many of a page's new bytes are there -/
def tornN (pg : Nat) (m : Int) : Nat := if m < 1 then 0 else if m = 1 then pg else 1 + ((m - 2) % ((pg : Int) - 1)).toNat
def crashD (d : Dev) (mask : List Int) : Dev :=
  { d with img := d.wait.zipIdx.foldl (fun im x => over im (x.1.1 * d.pg) (x.1.2.take (tornN d.pg (mask.getD x.2 0)))) d.img, wait := [], down := false, fuse := none }
def rotD (d : Dev) (p k : Int) (x : UInt8) : Nat × Dev :=
  if d.has p = false ∨ ¬ (0 ≤ k ∧ k < (d.pg : Int)) then (1, d) else (0, { d with img := d.img.modify (p.toNat * d.pg + k.toNat) (· ^^^ x) })
/-- a device of a geom, of an image that is not too long -/
def newD (pg pgs rgs : Nat) (image : List UInt8) : Dev := ⟨pg, pgs, rgs, image ++ List.replicate (pg * pgs * rgs - image.length) 255, [], none, false⟩
structure Dev.Ok (d : Dev) : Prop where
  len : d.img.length = d.pg * d.pgs * d.rgs
  wait : ∀ x ∈ d.wait, x.1 < d.n ∧ x.2.length = d.pg
  once : (d.wait.map (·.1)).Nodup
  p0 : 32 ≤ d.pg
  p1 : d.pg ≤ 128
  s0 : 3 ≤ d.pgs
  s1 : d.pgs ≤ 10
  r0 : 4 ≤ d.rgs
  r1 : d.rgs ≤ 12
theorem tornN_le (pg : Nat) (h : 2 ≤ pg) (m : Int) : tornN pg m ≤ pg := by
  unfold tornN
  split
  · omega
  split
  · omega
  · have := Int.emod_lt_of_pos (m - 2) (show (0 : Int) < (pg : Int) - 1 by omega)
    have := Int.emod_nonneg (m - 2) (show (pg : Int) - 1 ≠ 0 by omega)
    omega
theorem page_le {pg n p len : Nat} (hp : p < n) (hl : len = pg * n) : p * pg + pg ≤ len := by
  subst hl
  calc p * pg + pg = (p + 1) * pg := by rw [Nat.add_mul]; omega
    _ ≤ n * pg := Nat.mul_le_mul_right _ (by omega)
    _ = pg * n := Nat.mul_comm _ _
theorem blow_img (d : Dev) : d.blow.2.img = d.img ∧ d.blow.2.wait = d.wait ∧ d.blow.2.pg = d.pg ∧ d.blow.2.pgs = d.pgs ∧ d.blow.2.rgs = d.rgs := by
  unfold Dev.blow
  split <;> simp
theorem new_ok {pg pgs rgs : Nat} {image : List UInt8} (h : image.length ≤ pg * pgs * rgs) (p0 : 32 ≤ pg) (p1 : pg ≤ 128) (s0 : 3 ≤ pgs) (s1 : pgs ≤ 10) (r0 : 4 ≤ rgs) (r1 : rgs ≤ 12) : (newD pg pgs rgs image).Ok :=
  ⟨by simp [newD]; omega, by simp [newD], by simp [newD], p0, p1, s0, s1, r0, r1⟩
theorem foldl_over_length (pg : Nat) : ∀ (l : List (Nat × List UInt8)) (im : List UInt8), (∀ x ∈ l, x.1 * pg + x.2.length ≤ im.length) → (l.foldl (fun im x => over im (x.1 * pg) x.2) im).length = im.length
  | [], _, _ => rfl
  | x :: r, im, h => by
    have h0 := over_length (h x (List.mem_cons_self ..))
    rw [List.foldl_cons, foldl_over_length pg r _ (fun y hy => by rw [h0]; exact h y (List.mem_cons_of_mem _ hy)), h0]
/-- numbers below n, each once, are at most n -/
theorem nodup_le : ∀ (n : Nat) (l : List Nat), l.Nodup → (∀ x ∈ l, x < n) → l.length ≤ n
  | 0, l, _, h => by
    cases l with
    | nil => simp
    | cons a r => exact absurd (h a (List.mem_cons_self ..)) (by omega)
  | n + 1, l, hn, h => by
    by_cases hm : n ∈ l
    · have := nodup_le n (l.erase n) (hn.erase n) (fun x hx => by
        have h1 := (hn.mem_erase_iff).1 hx
        have h2 := h x h1.2
        have := h1.1
        omega)
      rw [List.length_erase_of_mem hm] at this
      omega
    · have := nodup_le n l hn (fun x hx => by
        have h2 := h x hx
        have : x ≠ n := fun e => hm (e ▸ hx)
        omega)
      omega
theorem Dev.Ok.n_le {d : Dev} (h : d.Ok) : d.n ≤ 120 := Nat.mul_le_mul h.s1 h.r1
theorem Dev.Ok.wait_le {d : Dev} (h : d.Ok) : d.wait.length ≤ 120 := by
  have := nodup_le d.n (d.wait.map (·.1)) h.once (fun x hx => by
    obtain ⟨y, hy, rfl⟩ := List.mem_map.1 hx
    exact (h.wait y hy).1)
  rw [List.length_map] at this
  exact Nat.le_trans this h.n_le
theorem Dev.Ok.img_n {d : Dev} (h : d.Ok) : d.img.length = d.pg * d.n := by rw [h.len, Dev.n, Nat.mul_assoc]
theorem Dev.Ok.page {d : Dev} (h : d.Ok) {p : Nat} (hp : p < d.n) : p * d.pg + d.pg ≤ d.img.length := page_le hp h.img_n
theorem Dev.Ok.img_le {d : Dev} (h : d.Ok) : d.img.length ≤ 15360 := by
  rw [h.img_n]; exact Nat.mul_le_mul h.p1 h.n_le
/-- the same but for what the fuse says -/
structure Dev.Like (d e : Dev) : Prop where
  pg : e.pg = d.pg
  pgs : e.pgs = d.pgs
  rgs : e.rgs = d.rgs
  img : e.img = d.img
  wait : e.wait = d.wait
theorem Dev.Ok.like {d e : Dev} (h : d.Ok) (l : d.Like e) : e.Ok := by
  obtain ⟨a, b, c, i, x⟩ := l
  refine ⟨by rw [i, a, b, c]; exact h.len, by unfold Dev.n; rw [x, a, b, c]; exact h.wait, by rw [x]; exact h.once, ?_, ?_, ?_, ?_, ?_, ?_⟩ <;> simp only [a, b, c, h.p0, h.p1, h.s0, h.s1, h.r0, h.r1]
theorem blow_like (d : Dev) : d.Like d.blow.2 := by obtain ⟨a, b, c, e, f⟩ := blow_img d; exact ⟨c, e, f, a, b⟩
theorem has_lt {d : Dev} {p : Int} (h : d.has p = true) : p.toNat < d.n ∧ 0 ≤ p := by
  unfold Dev.has at h
  simp only [Bool.and_eq_true, decide_eq_true_eq] at h
  omega
theorem waits_not {d : Dev} {p : Nat} (h : d.waits p = false) : p ∉ d.wait.map (·.1) := by
  intro hm
  obtain ⟨x, hx, rfl⟩ := List.mem_map.1 hm
  unfold Dev.waits at h
  rw [List.any_eq_false] at h
  exact absurd (h x hx) (by simp)
theorem Dev.Ok.add {d : Dev} (h : d.Ok) {l : List (Nat × List UInt8)} (h1 : ∀ x ∈ l, x.1 < d.n ∧ x.2.length = d.pg) (h2 : (l.map (·.1)).Nodup) (h3 : ∀ x ∈ l, x.1 ∉ d.wait.map (·.1)) : ({ d with wait := d.wait ++ l } : Dev).Ok := by
  refine ⟨h.len, ?_, ?_, h.p0, h.p1, h.s0, h.s1, h.r0, h.r1⟩
  · intro x hx
    rcases List.mem_append.1 hx with y | y
    · exact h.wait x y
    · exact h1 x y
  · show ((d.wait ++ l).map (·.1)).Nodup
    rw [List.map_append, List.nodup_append]
    refine ⟨h.once, h2, ?_⟩
    intro a ha b hb e
    obtain ⟨x, hx, rfl⟩ := List.mem_map.1 hb
    exact h3 x hx (e ▸ ha)
theorem Dev.Ok.image {d : Dev} (h : d.Ok) {im : List UInt8} (hl : im.length = d.img.length) : ({ d with img := im } : Dev).Ok := ⟨by rw [← h.len]; exact hl, h.wait, h.once, h.p0, h.p1, h.s0, h.s1, h.r0, h.r1⟩
theorem Dev.Ok.none {d : Dev} (h : d.Ok) : ({ d with wait := [] } : Dev).Ok := ⟨h.len, by simp, by simp, h.p0, h.p1, h.s0, h.s1, h.r0, h.r1⟩
theorem program_keeps {d : Dev} (h : d.Ok) (p : Int) (b : List UInt8) : (programD d p b).2.Ok := by
  unfold programD
  split
  · exact h
  split
  · exact h
  split
  · exact h
  · rename_i h1 h2 h3
    simp only [not_or, Bool.not_eq_false, Decidable.not_not, Bool.not_eq_true] at h2 h3
    have hk := (h.add (l := [(p.toNat, b)]) (by simp; exact ⟨(has_lt h2.1).1, h2.2⟩) (by simp) (by simp; intro x hx; exact absurd (List.mem_map.2 ⟨(p.toNat, x), hx, rfl⟩) (waits_not h3.1))).like (e := { d.blow.2 with wait := d.wait ++ [(p.toNat, b)] }) (by
      obtain ⟨a, b', c, i, x⟩ := blow_like d
      exact ⟨a, b', c, i, rfl⟩)
    exact hk
theorem erase_at {r n : Nat} {pgs rgs : Nat} (h : r < rgs) (hn : n < pgs) : r * pgs + n < pgs * rgs := by
  calc r * pgs + n < r * pgs + pgs := by omega
    _ = (r + 1) * pgs := by rw [Nat.add_mul]; omega
    _ ≤ rgs * pgs := Nat.mul_le_mul_right _ h
    _ = pgs * rgs := Nat.mul_comm _ _
theorem erase_keeps {d : Dev} (h : d.Ok) (r : Int) : (eraseD d r).2.Ok := by
  unfold eraseD
  split
  · exact h
  split
  · exact h
  split
  · exact h
  split
  · rename_i h1 h2 h3 h4
    simp only [Decidable.not_not] at h2
    have hr : r.toNat < d.rgs := by omega
    refine (h.add (l := (List.range d.pgs).map fun i => (r.toNat * d.pgs + i, List.replicate d.pg 255)) ?_ ?_ ?_).like (e := { d.blow.2 with wait := d.wait ++ _ }) (by
      obtain ⟨a, b', c, i, x⟩ := blow_like d
      exact ⟨a, b', c, i, rfl⟩)
    · intro x hx
      obtain ⟨i, hi, rfl⟩ := List.mem_map.1 hx
      exact ⟨erase_at hr (List.mem_range.1 hi), by simp⟩
    · rw [List.map_map]
      show ((List.range d.pgs).map fun i => r.toNat * d.pgs + i).Nodup
      rw [List.Nodup, List.pairwise_map]
      refine List.Pairwise.imp ?_ (List.nodup_range (n := d.pgs))
      intro a b hab e; omega
    · intro x hx hm
      obtain ⟨i, hi, rfl⟩ := List.mem_map.1 hx
      obtain ⟨y, hy, hye⟩ := List.mem_map.1 hm
      have hi' := List.mem_range.1 hi
      refine h3 (List.any_eq_true.2 ⟨y, hy, ?_⟩)
      simp only at hye
      rw [hye]
      simp; omega
  · rename_i h1 h2 h3 h4
    simp only [Decidable.not_not] at h2
    have hr : r.toNat < d.rgs := by omega
    refine (h.image (im := over d.img (r.toNat * d.pgs * d.pg) (List.replicate (d.pgs * d.pg) 255)) ?_).like (e := { d.blow.2 with img := _ }) (by
      obtain ⟨a, b', c, i, x⟩ := blow_like d
      exact ⟨a, b', c, rfl, x⟩)
    refine over_length ?_
    rw [List.length_replicate, h.len]
    calc r.toNat * d.pgs * d.pg + d.pgs * d.pg = (r.toNat + 1) * (d.pgs * d.pg) := by rw [Nat.add_mul, Nat.mul_assoc]; omega
      _ ≤ d.rgs * (d.pgs * d.pg) := Nat.mul_le_mul_right _ hr
      _ = d.pg * d.pgs * d.rgs := by rw [Nat.mul_comm, Nat.mul_comm d.pgs]
theorem flush_img {d : Dev} (h : d.Ok) : (d.wait.foldl (fun im x => over im (x.1 * d.pg) x.2) d.img).length = d.img.length :=
  foldl_over_length d.pg d.wait d.img fun x hx => by have := h.wait x hx; rw [this.2]; exact h.page this.1
theorem flush_keeps {d : Dev} (h : d.Ok) : (flushD d).2.Ok := by
  unfold flushD
  split
  · exact h
  split
  · exact h.like (blow_like d)
  · refine ((h.image (flush_img h)).none).like (e := { d.blow.2 with img := _, wait := [] }) ?_
    obtain ⟨a, b', c, i, x⟩ := blow_like d
    exact ⟨a, b', c, rfl, rfl⟩
theorem fuse_keeps {d : Dev} (h : d.Ok) (k : Int) : (fuseD d k).Ok := h.like ⟨rfl, rfl, rfl, rfl, rfl⟩
theorem crash_len (pg : Nat) (hp : 2 ≤ pg) (mask : List Int) : ∀ (l : List ((Nat × List UInt8) × Nat)) (im : List UInt8), (∀ x ∈ l, x.1.1 * pg + pg ≤ im.length ∧ x.1.2.length = pg) →
    (l.foldl (fun im x => over im (x.1.1 * pg) (x.1.2.take (tornN pg (mask.getD x.2 0)))) im).length = im.length
  | [], _, _ => rfl
  | x :: r, im, h => by
    have hx := h x (List.mem_cons_self ..)
    have h0 : (over im (x.1.1 * pg) (x.1.2.take (tornN pg (mask.getD x.2 0)))).length = im.length := over_length (by
      have := tornN_le pg hp (mask.getD x.2 0)
      rw [List.length_take]; omega)
    rw [List.foldl_cons, crash_len pg hp mask r _ (fun y hy => by rw [h0]; exact h y (List.mem_cons_of_mem _ hy)), h0]
theorem crash_keeps {d : Dev} (h : d.Ok) (mask : List Int) : (crashD d mask).Ok := by
  have hl := crash_len d.pg (by have := h.p0; omega) mask d.wait.zipIdx d.img (fun x hx => by
    have hm : x.1 ∈ d.wait := by
      obtain ⟨y, i⟩ := x
      exact (List.mem_zipIdx hx).2.2 ▸ List.getElem_mem _
    have := h.wait x.1 hm
    exact ⟨h.page this.1, this.2⟩)
  exact ((h.image hl).none).like ⟨rfl, rfl, rfl, rfl, rfl⟩
theorem rot_keeps {d : Dev} (h : d.Ok) (p k : Int) (x : UInt8) : (rotD d p k x).2.Ok := by
  unfold rotD
  split
  · exact h
  · exact h.image (by simp)
end Go.Proofs.Ytdbfclngllhdlaa.Flash
