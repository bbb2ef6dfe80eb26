/-
  Joined texts: TapeR, TapeF, TapeG.
-/
import Derived.Test.YtcmjambbdfangaaGreatRunTapeM
import Derived.Test.YtcmjambbdfangaaGreatRunFlashXh
import Derived.Test.YtcmjambbdfangaaGreatRunFlashE
import Derived.Test.YtcmjambbdfangaaGreatChartX
/-
  The landed tape and the document's in memory.
-/
set_option linter.unusedVariables false
set_option linter.unusedSimpArgs false
namespace Go.Proofs.YtcmjambbdfangaaGreat.Tape
open Go.RowKit
open Go.Proofs.YtcmjambbdfangaaGreat.Own
open Tup Foot
open Flash (Dev FHas RHas)
open Chart (Ch CHas DHas)

def ptr (p : Nat) : Value := .pointer (some ⟨p, 0, none⟩)
def both (S R : Nat → Prop) : Nat → Prop := fun k => S k ∨ R k
theorem fh_below {w w' : World} {p : Nat} {d : Dev} {S : Nat → Prop} (h : FHas w p d S) (g : Below w.heap.size w w') : FHas w' p d S := h.grows (Grows.of_below (S := fun _ => False) g) (fun _ _ x => x)
theorem bel2 {a w1 w2 : World} (h : Below a.heap.size a w1) (k : Below w1.heap.size w1 w2) : Below a.heap.size a w2 := h.trans (k.mono h.size)
/-- the landed tape, at t: its device at p, its account at q -/
structure TAt (w : World) (t p q : Nat) (x : Tp) (S R : Nat → Prop) : Prop where
  var : Var w t 71 [ptr p, ptr q]
  f : FHas w p x.d S
  c : CHas w q x.c R
  apart : ∀ k, S k → ¬ R k
  nf : ¬ S t
  nc : ¬ R t
theorem TAt.lt {w : World} {t p q : Nat} {x : Tp} {S R : Nat → Prop} (h : TAt w t p q x S R) : ∀ k, both S R k → k < w.heap.size := by
  rintro k (y | y)
  · exact h.f.lt k y
  · exact h.c.lt k y
theorem TAt.below {w w' : World} {t p q : Nat} {x : Tp} {S R : Nat → Prop} (h : TAt w t p q x S R) (g : Below w.heap.size w w') : TAt w' t p q x S R :=
  ⟨h.var.below g h.var.lt, fh_below h.f g, h.c.below g, h.apart, h.nf, h.nc⟩
theorem TAt.grows {T : Nat → Prop} {w w' : World} {t p q : Nat} {x : Tp} {S R : Nat → Prop} (h : TAt w t p q x S R) (g : Grows T w w') (ht : ¬ T t) (hn : ∀ k, both S R k → ¬ T k) : TAt w' t p q x S R :=
  ⟨g.var h.var ht, h.f.grows g (fun k hk => hn k (.inl hk)), h.c.grows g (fun k hk => hn k (.inr hk)), h.apart, h.nf, h.nc⟩
/-- the device is turned -/
theorem TAt.left {w w' : World} {t p q : Nat} {x : Tp} {d : Dev} {S S' R : Nat → Prop} (h : TAt w t p q x S R) (hf : FHas w' p d S') (a : After S w w' S') : TAt w' t p q ⟨d, x.c⟩ S' R ∧ After (both S R) w w' (both S' R) := by
  refine ⟨⟨a.grows.var h.var h.nf, hf, h.c.grows a.grows (fun k hk hs => h.apart k hs hk), a.apart (fun k hk => h.c.lt k hk) h.apart, ?_, h.nc⟩, a.grows.mono (fun k hk => .inl hk), ?_⟩
  · intro hs
    rcases a.foot t hs with y | y
    · exact h.nf y
    · have := h.var.lt; omega
  · rintro k (y | y)
    · rcases a.foot k y with z | z
      · exact .inl (.inl z)
      · exact .inr z
    · exact .inl (.inr y)
/-- the account is turned -/
theorem TAt.right {w w' : World} {t p q : Nat} {x : Tp} {c : Ch} {S R : Nat → Prop} (h : TAt w t p q x S R) (hc : CHas w' q c R) (g : Grows R w w') : TAt w' t p q ⟨x.d, c⟩ S R ∧ After (both S R) w w' (both S R) :=
  ⟨⟨g.var h.var h.nc, h.f.grows g (fun k hk hr => h.apart k hk hr), hc, h.apart, h.nf, h.nc⟩, g.mono (fun k hk => .inr hk), fun k hk => .inl hk⟩
def THas (w : World) (t p q : Nat) (x : Tp) (F : Nat → Prop) : Prop := ∃ S R, TAt w t p q x S R ∧ F = both S R
theorem THas.below {w w' : World} {t p q : Nat} {x : Tp} {F : Nat → Prop} (h : THas w t p q x F) (g : Below w.heap.size w w') : THas w' t p q x F := by
  obtain ⟨S, R, h, rfl⟩ := h
  exact ⟨S, R, h.below g, rfl⟩
theorem THas.grows {T F : Nat → Prop} {w w' : World} {t p q : Nat} {x : Tp} (h : THas w t p q x F) (g : Grows T w w') (ht : ¬ T t) (hn : ∀ k, F k → ¬ T k) : THas w' t p q x F := by
  obtain ⟨S, R, h, rfl⟩ := h
  exact ⟨S, R, h.grows g ht hn, rfl⟩
theorem THas.lt {w : World} {t p q : Nat} {x : Tp} {F : Nat → Prop} (h : THas w t p q x F) : ∀ k, F k → k < w.heap.size := by
  obtain ⟨S, R, h, rfl⟩ := h
  exact h.lt
theorem THas.t_lt {w : World} {t p q : Nat} {x : Tp} {F : Nat → Prop} (h : THas w t p q x F) : t < w.heap.size := by
  obtain ⟨S, R, h, rfl⟩ := h
  exact h.var.lt
theorem THas.nt {w : World} {t p q : Nat} {x : Tp} {F : Nat → Prop} (h : THas w t p q x F) : ¬ F t := by
  obtain ⟨S, R, h, rfl⟩ := h
  exact fun y => y.elim h.nf h.nc
theorem THas.of {w w' : World} {t p q : Nat} {x : Tp} {S R S' R' : Nat → Prop} (h : TAt w' t p q x S' R') (a : After (both S R) w w' (both S' R')) : ∃ F', THas w' t p q x F' ∧ After (both S R) w w' F' := ⟨_, ⟨_, _, h, rfl⟩, a⟩
/-- the document's tape, at r: its device at p, its account at q -/
structure RAt (w : World) (r p q : Nat) (x : Tp) (S R : Nat → Prop) : Prop where
  var : Var w r 48 [ptr p, ptr q]
  f : RHas w p x.d S
  c : DHas w q x.c R
  apart : ∀ k, S k → ¬ R k
  nf : ¬ S r
  nc : ¬ R r
theorem rh_below {w w' : World} {p : Nat} {d : Dev} {S : Nat → Prop} (h : RHas w p d S) (g : Below w.heap.size w w') : RHas w' p d S := h.grows (Grows.of_below (S := fun _ => False) g) (fun _ _ x => x)
theorem RAt.lt {w : World} {t p q : Nat} {x : Tp} {S R : Nat → Prop} (h : RAt w t p q x S R) : ∀ k, both S R k → k < w.heap.size := by
  rintro k (y | y)
  · exact h.f.lt k y
  · exact h.c.lt k y
theorem RAt.below {w w' : World} {t p q : Nat} {x : Tp} {S R : Nat → Prop} (h : RAt w t p q x S R) (g : Below w.heap.size w w') : RAt w' t p q x S R :=
  ⟨h.var.below g h.var.lt, rh_below h.f g, h.c.below g, h.apart, h.nf, h.nc⟩
theorem RAt.grows {T : Nat → Prop} {w w' : World} {t p q : Nat} {x : Tp} {S R : Nat → Prop} (h : RAt w t p q x S R) (g : Grows T w w') (ht : ¬ T t) (hn : ∀ k, both S R k → ¬ T k) : RAt w' t p q x S R :=
  ⟨g.var h.var ht, h.f.grows g (fun k hk => hn k (.inl hk)), h.c.grows g (fun k hk => hn k (.inr hk)), h.apart, h.nf, h.nc⟩
theorem RAt.left {w w' : World} {t p q : Nat} {x : Tp} {d : Dev} {S S' R : Nat → Prop} (h : RAt w t p q x S R) (hf : RHas w' p d S') (a : After S w w' S') : RAt w' t p q ⟨d, x.c⟩ S' R ∧ After (both S R) w w' (both S' R) := by
  refine ⟨⟨a.grows.var h.var h.nf, hf, h.c.grows a.grows (fun k hk hs => h.apart k hs hk), a.apart (fun k hk => h.c.lt k hk) h.apart, ?_, h.nc⟩, a.grows.mono (fun k hk => .inl hk), ?_⟩
  · intro hs
    rcases a.foot t hs with y | y
    · exact h.nf y
    · have := h.var.lt; omega
  · rintro k (y | y)
    · rcases a.foot k y with z | z
      · exact .inl (.inl z)
      · exact .inr z
    · exact .inl (.inr y)
theorem RAt.right {w w' : World} {t p q : Nat} {x : Tp} {c : Ch} {S R : Nat → Prop} (h : RAt w t p q x S R) (hc : DHas w' q c R) (g : Grows R w w') : RAt w' t p q ⟨x.d, c⟩ S R ∧ After (both S R) w w' (both S R) :=
  ⟨⟨g.var h.var h.nc, h.f.grows g (fun k hk hr => h.apart k hk hr), hc, h.apart, h.nf, h.nc⟩, g.mono (fun k hk => .inr hk), fun k hk => .inl hk⟩
def THasR (w : World) (t p q : Nat) (x : Tp) (F : Nat → Prop) : Prop := ∃ S R, RAt w t p q x S R ∧ F = both S R
theorem THasR.below {w w' : World} {t p q : Nat} {x : Tp} {F : Nat → Prop} (h : THasR w t p q x F) (g : Below w.heap.size w w') : THasR w' t p q x F := by
  obtain ⟨S, R, h, rfl⟩ := h
  exact ⟨S, R, h.below g, rfl⟩
theorem THasR.grows {T F : Nat → Prop} {w w' : World} {t p q : Nat} {x : Tp} (h : THasR w t p q x F) (g : Grows T w w') (ht : ¬ T t) (hn : ∀ k, F k → ¬ T k) : THasR w' t p q x F := by
  obtain ⟨S, R, h, rfl⟩ := h
  exact ⟨S, R, h.grows g ht hn, rfl⟩
theorem THasR.lt {w : World} {t p q : Nat} {x : Tp} {F : Nat → Prop} (h : THasR w t p q x F) : ∀ k, F k → k < w.heap.size := by
  obtain ⟨S, R, h, rfl⟩ := h
  exact h.lt
theorem THasR.t_lt {w : World} {t p q : Nat} {x : Tp} {F : Nat → Prop} (h : THasR w t p q x F) : t < w.heap.size := by
  obtain ⟨S, R, h, rfl⟩ := h
  exact h.var.lt
theorem THasR.nt {w : World} {t p q : Nat} {x : Tp} {F : Nat → Prop} (h : THasR w t p q x F) : ¬ F t := by
  obtain ⟨S, R, h, rfl⟩ := h
  exact fun y => y.elim h.nf h.nc
theorem THasR.of {w w' : World} {t p q : Nat} {x : Tp} {S R S' R' : Nat → Prop} (h : RAt w' t p q x S' R') (a : After (both S R) w w' (both S' R')) : ∃ F', THasR w' t p q x F' ∧ After (both S R) w w' F' := ⟨_, ⟨_, _, h, rfl⟩, a⟩
/-- what a landed tape is made of -/
theorem THas.new {w w1 w2 w3 : World} {p q t : Nat} {d : Dev} {c : Ch} {S R : Nat → Prop} (h1 : FHas w1 p d S) (s1 : ∀ k, S k → w.heap.size ≤ k) (h2 : CHas w2 q c R) (s2 : ∀ k, R k → w1.heap.size ≤ k) (b2 : Below w1.heap.size w1 w2) (b3 : Below w2.heap.size w2 w3) (ht : w2.heap.size ≤ t) (hv : Var w3 t 71 [ptr p, ptr q]) :
    THas w3 t p q ⟨d, c⟩ (both S R) :=
  ⟨S, R, ⟨hv, fh_below h1 (bel2 b2 b3), h2.below b3, fun k hk hr => by have := h1.lt k hk; have := s2 k hr; omega, fun hs => by have := h1.lt t hs; have := b2.size; omega, fun hr => by have := h2.lt t hr; omega⟩, rfl⟩
end Go.Proofs.YtcmjambbdfangaaGreat.Tape
/-
  A tape on which frames stand one behind the other, from the first page on. Nothing of the program's functions.
-/
set_option linter.unusedVariables false
set_option linter.unusedSimpArgs false
namespace Go.Proofs.YtcmjambbdfangaaGreat.Tape
open Flash (Dev programD eraseD readD flushD fuseD program_ok newD over cut)
open Chart (Ch openC takeC eraseC pgC newC)
open Go.Proofs.YtcmjambbdfangaaGreat.Frame (Fr page bytesG)

theorem foldl_fresh {p : Nat} : ∀ (l : List (Nat × List UInt8)) (s : List UInt8), (l.any fun x => decide (x.1 = p)) = false → l.foldl (fun s x => if x.1 = p then x.2 else s) s = s
  | [], _, _ => rfl
  | a :: r, s, h => by
    simp only [List.any_cons, Bool.or_eq_false_iff, decide_eq_false_iff_not] at h
    rw [List.foldl_cons, if_neg h.1]
    exact foldl_fresh r s h.2
theorem held_fresh {d : Dev} {p : Nat} (h : d.waits p = false) : d.held p = cut d.img (p * d.pg) d.pg := foldl_fresh _ _ h
theorem held_add (d e : Dev) (p q : Nat) (b : List UInt8) (h1 : e.img = d.img) (h2 : e.pg = d.pg) (h3 : e.wait = d.wait ++ [(p, b)]) : e.held q = if p = q then b else d.held q := by
  unfold Dev.held
  rw [h1, h2, h3, List.foldl_append]
  rfl
theorem waits_add (d e : Dev) (p q : Nat) (b : List UInt8) (h3 : e.wait = d.wait ++ [(p, b)]) : e.waits q = (d.waits q || decide (p = q)) := by
  unfold Dev.waits
  rw [h3, List.any_append]
  simp
/-- behind the last page that is written -/
def top (pgs m u : Nat) : Nat := if m = 0 then 0 else (m - 1) * pgs + u + 1
structure Fil (pg pgs rgs : Nat) (t : Tp) (m u : Nat) (fz : Option Nat) : Prop where
  epg : t.d.pg = pg
  epgs : t.d.pgs = pgs
  ergs : t.d.rgs = rgs
  c : t.c = pgC pg pgs rgs m u
  img : t.d.img = List.replicate (pg * pgs * rgs) 255
  down : t.d.down = false
  fuse : t.d.fuse = fz.map (· - t.d.wait.length)
  len : ∀ n, fz = some n → t.d.wait.length ≤ n
  waits : ∀ p, t.d.waits p = true → p < top pgs m u
  heads : ∀ k, k < m → t.d.held (k * pgs) = page pg (headF (k + 1) k)
/-- sizes that may be -/
structure Sz (pg pgs rgs : Nat) : Prop where
  p0 : 32 ≤ pg
  p1 : pg ≤ 128
  s0 : 3 ≤ pgs
  s1 : pgs ≤ 10
  r0 : 4 ≤ rgs
  r1 : rgs ≤ 12
theorem fil_new {pg pgs rgs : Nat} (fz : Option Nat) : Fil pg pgs rgs ⟨{ newD pg pgs rgs [] with fuse := fz }, newC pg pgs rgs⟩ 0 0 fz :=
  ⟨rfl, rfl, rfl, (Chart.pg_zero _ _ _ _).symm, by simp [newD], rfl, by simp [newD], fun n _ => by simp [newD], fun p h => by simp [Dev.waits, newD] at h, fun k h => by omega⟩
/-- a fresh page is written, or the fuse is out -/
theorem prog_fresh {d : Dev} {p : Nat} {b : List UInt8} (h1 : d.down = false) (h2 : p < d.n) (h3 : b.length = d.pg) (h4 : d.waits p = false) (h5 : Flash.blank (cut d.img (p * d.pg) d.pg) = true) :
    programD d p b = (if d.blow.1 then 6 else 0, { d.blow.2 with wait := d.wait ++ [(p, b)] }) := program_ok h1 h2 h3 h4 (by rw [held_fresh h4]; exact h5)
theorem blow_of {d : Dev} {fz : Option Nat} (h : d.fuse = fz.map (· - d.wait.length)) (hl : ∀ n, fz = some n → d.wait.length + 1 ≤ n) : d.blow = (false, { d with fuse := fz.map (· - (d.wait.length + 1)) }) := by
  unfold Dev.blow
  cases fz with
  | none =>
    rw [h]
    simp only [Option.map_none] at h ⊢
    obtain ⟨a, b, c, i, w, f, n⟩ := d
    simp only at h
    subst h; rfl
  | some n =>
    have := hl n rfl
    rw [h]
    simp only [Option.map_some]
    obtain ⟨k, hk⟩ : ∃ k, n - d.wait.length = k + 1 := ⟨n - d.wait.length - 1, by omega⟩
    rw [hk, show n - (d.wait.length + 1) = k by omega]
theorem blow_out {d : Dev} {n : Nat} (h : d.fuse = (some n).map (· - d.wait.length)) (hl : d.wait.length = n) : d.blow = (true, { d with down := true }) := by
  unfold Dev.blow
  rw [h]
  simp only [Option.map_some]
  rw [show n - d.wait.length = 0 by omega]
structure Adds (d e : Dev) (p : Nat) (b : List UInt8) : Prop where
  pg : e.pg = d.pg
  pgs : e.pgs = d.pgs
  rgs : e.rgs = d.rgs
  img : e.img = d.img
  wait : e.wait = d.wait ++ [(p, b)]
theorem prog_goes {d : Dev} {p : Nat} {b : List UInt8} {fz : Option Nat} (h1 : d.down = false) (h2 : p < d.n) (h3 : b.length = d.pg) (h4 : d.waits p = false) (h5 : Flash.blank (cut d.img (p * d.pg) d.pg) = true) (h : d.fuse = fz.map (· - d.wait.length)) (hl : ∀ n, fz = some n → d.wait.length + 1 ≤ n) :
    ∃ e, programD d p b = (0, e) ∧ Adds d e p b ∧ e.down = false ∧ e.fuse = fz.map (· - (d.wait.length + 1)) := by
  have hpr := prog_fresh h1 h2 h3 h4 h5
  rw [blow_of h hl] at hpr
  simp only [Bool.false_eq_true, if_false] at hpr
  exact ⟨_, hpr, ⟨rfl, rfl, rfl, rfl, rfl⟩, h1, rfl⟩
theorem prog_out {d : Dev} {p n : Nat} {b : List UInt8} (h1 : d.down = false) (h2 : p < d.n) (h3 : b.length = d.pg) (h4 : d.waits p = false) (h5 : Flash.blank (cut d.img (p * d.pg) d.pg) = true) (h : d.fuse = (some n).map (· - d.wait.length)) (hl : d.wait.length = n) :
    ∃ e, programD d p b = (6, e) ∧ e.down = true ∧ e.wait.length = n + 1 := by
  have hpr := prog_fresh h1 h2 h3 h4 h5
  rw [blow_out h hl] at hpr
  simp only [if_true] at hpr
  exact ⟨_, hpr, rfl, by simp [hl]⟩
theorem Adds.held {d e : Dev} {p : Nat} {b : List UInt8} (h : Adds d e p b) (q : Nat) : e.held q = if p = q then b else d.held q := held_add d e p q b h.img h.pg h.wait
theorem Adds.waits {d e : Dev} {p : Nat} {b : List UInt8} (h : Adds d e p b) (q : Nat) : e.waits q = (d.waits q || decide (p = q)) := waits_add d e p q b h.wait
theorem Adds.len {d e : Dev} {p : Nat} {b : List UInt8} (h : Adds d e p b) : e.wait.length = d.wait.length + 1 := by rw [h.wait]; simp
theorem img_blank {pg pgs rgs p : Nat} (hp : p < pgs * rgs) : Flash.blank (cut (List.replicate (pg * pgs * rgs) (255 : UInt8)) (p * pg) pg) = true := by
  rw [Flash.cut_replicate 255 (Flash.page_le (n := pgs * rgs) hp (by rw [Nat.mul_assoc]))]
  exact Flash.blank_replicate _
theorem top_le {pgs m u : Nat} (s : 3 ≤ pgs) (hu : u ≤ pgs - 1) : top pgs m u ≤ m * pgs := by
  unfold top
  split
  · omega
  · obtain ⟨k, rfl⟩ : ∃ k, m = k + 1 := ⟨m - 1, by omega⟩
    rw [Nat.add_mul, Nat.add_sub_cancel]; omega
theorem mul_lt {pgs rgs k s : Nat} (hk : k < rgs) (hs : s < pgs) : k * pgs + s < pgs * rgs := Flash.erase_at hk hs
/-- the next page of the open region -/
theorem fil_write {pg pgs rgs : Nat} (z : Sz pg pgs rgs) {t : Tp} {m u : Nat} {fz : Option Nat} (h : Fil pg pgs rgs t (m + 1) u fz) (hm : m + 1 ≤ rgs) (hu : u < pgs - 1) {f : Fr} (hf : f.Ok pg) (hl : ∀ n, fz = some n → t.d.wait.length + 1 ≤ n) :
    ∃ t', writeT t (page pg f) = ((m * pgs + (u + 1), 0), t') ∧ Fil pg pgs rgs t' (m + 1) (u + 1) fz ∧ t'.d.held (m * pgs + (u + 1)) = page pg f ∧ t'.d.wait.length = t.d.wait.length + 1 ∧ (∀ k, k < m + 1 → t'.d.held (k * pgs) = page pg (headF (k + 1) k)) := by
  have ht : takeC t.c = ((m * pgs + (u + 1), true), pgC pg pgs rgs (m + 1) (u + 1)) := by rw [h.c]; exact Chart.pg_take hm hu
  have hp : m * pgs + (u + 1) < pgs * rgs := mul_lt (by omega) (by omega)
  have hw : t.d.waits (m * pgs + (u + 1)) = false := by
    cases hx : t.d.waits (m * pgs + (u + 1)) with
    | false => rfl
    | true => have := h.waits _ hx; unfold top at this; rw [if_neg (by omega), Nat.add_sub_cancel] at this; omega
  obtain ⟨e, he, hA, hdn, hfu⟩ := prog_goes (d := t.d) (p := m * pgs + (u + 1)) (b := page pg f) h.down (by unfold Dev.n; rw [h.epgs, h.ergs]; exact hp) (by rw [Frame.page_length hf, h.epg]) hw (by rw [h.img, h.epg]; exact img_blank hp) h.fuse hl
  have hheads : ∀ k, k < m + 1 → e.held (k * pgs) = page pg (headF (k + 1) k) := by
    intro k hk
    rw [hA.held, if_neg]
    · exact h.heads k hk
    · have : k * pgs ≤ m * pgs := Nat.mul_le_mul_right _ (by omega)
      omega
  refine ⟨⟨e, pgC pg pgs rgs (m + 1) (u + 1)⟩, ?_, ⟨hA.pg.trans h.epg, hA.pgs.trans h.epgs, hA.rgs.trans h.ergs, rfl, hA.img.trans h.img, hdn, ?_, ?_, ?_, hheads⟩, ?_, hA.len, hheads⟩
  · unfold writeT
    rw [ht]
    simp only
    rw [he, if_neg (by simp)]
  · rw [hfu, hA.len]
  · intro n hn; have := hl n hn; rw [hA.len]; exact this
  · intro p hx
    rw [hA.waits, Bool.or_eq_true, decide_eq_true_eq] at hx
    unfold top
    rw [if_neg (by omega), Nat.add_sub_cancel]
    rcases hx with hx | hx
    · have := h.waits _ hx; unfold top at this; rw [if_neg (by omega), Nat.add_sub_cancel] at this; omega
    · omega
  · rw [hA.held, if_pos rfl]
/-- a new region -/
theorem fil_open {pg pgs rgs : Nat} (z : Sz pg pgs rgs) {t : Tp} {m u : Nat} {fz : Option Nat} (h : Fil pg pgs rgs t m u fz) (hm : m < rgs) (hu : (m = 0 ∧ u = 0) ∨ u = pgs - 1) (hl : ∀ n, fz = some n → t.d.wait.length + 1 ≤ n) :
    ∃ t', openT t = (0, t') ∧ Fil pg pgs rgs t' (m + 1) 0 fz ∧ t'.d.wait.length = t.d.wait.length + 1 := by
  have z1 := z.s0
  have ho : openC t.c = ((m, m + 1, true), pgC pg pgs rgs (m + 1) 0) := by rw [h.c]; exact Chart.pg_open hm z.r1 (by omega)
  have hp : m * pgs < pgs * rgs := by have := mul_lt (pgs := pgs) hm (show 0 < pgs by omega); omega
  have hw : t.d.waits (m * pgs) = false := by
    cases hx : t.d.waits (m * pgs) with
    | false => rfl
    | true => have h1 := h.waits _ hx; have h2 := top_le (m := m) (u := u) z1 (by omega); omega
  obtain ⟨e, he, hA, hdn, hfu⟩ := prog_goes (d := t.d) (p := m * pgs) (b := page pg (headF (m + 1) m)) h.down (by unfold Dev.n; rw [h.epgs, h.ergs]; exact hp) (by rw [Frame.page_length (head_fits z.p0 z.p1), h.epg]) hw (by rw [h.img, h.epg]; exact img_blank hp) h.fuse hl
  refine ⟨⟨e, pgC pg pgs rgs (m + 1) 0⟩, ?_, ⟨hA.pg.trans h.epg, hA.pgs.trans h.epgs, hA.rgs.trans h.ergs, rfl, hA.img.trans h.img, hdn, ?_, ?_, ?_, ?_⟩, hA.len⟩
  · unfold openT headB
    rw [ho]
    simp only [Bool.true_eq_false, if_false]
    rw [h.epgs, h.epg, he]
  · rw [hfu, hA.len]
  · intro n hn; have := hl n hn; rw [hA.len]; exact this
  · intro p hx
    rw [hA.waits, Bool.or_eq_true, decide_eq_true_eq] at hx
    unfold top
    rw [if_neg (by omega), Nat.add_sub_cancel]
    rcases hx with hx | hx
    · have h1 := h.waits _ hx; have h2 := top_le (m := m) (u := u) z1 (by omega); omega
    · omega
  · intro k hk
    rw [hA.held]
    by_cases e : m = k
    · subst e; rw [if_pos rfl]
    · rw [if_neg]
      · exact h.heads k (by omega)
      · intro e2
        exact e (Nat.eq_of_mul_eq_mul_right (show 0 < pgs by omega) e2)
/-- .. that blows, and a page that does -/
theorem open_blows {pg pgs rgs : Nat} (z : Sz pg pgs rgs) {t : Tp} {m u n : Nat} (h : Fil pg pgs rgs t m u (some n)) (hm : m < rgs) (hu : (m = 0 ∧ u = 0) ∨ u = pgs - 1) (hl : t.d.wait.length = n) :
    ∃ t', openT t = (6, t') ∧ t'.d.down = true ∧ t'.d.wait.length = n + 1 := by
  have z1 := z.s0
  have ho : openC t.c = ((m, m + 1, true), pgC pg pgs rgs (m + 1) 0) := by rw [h.c]; exact Chart.pg_open hm z.r1 (by omega)
  have hp : m * pgs < pgs * rgs := by have := mul_lt (pgs := pgs) hm (show 0 < pgs by omega); omega
  have hw : t.d.waits (m * pgs) = false := by
    cases hx : t.d.waits (m * pgs) with
    | false => rfl
    | true => have h1 := h.waits _ hx; have h2 := top_le (m := m) (u := u) z1 (by omega); omega
  obtain ⟨e, he, h1, h2⟩ := prog_out (d := t.d) (p := m * pgs) (b := page pg (headF (m + 1) m)) h.down (by unfold Dev.n; rw [h.epgs, h.ergs]; exact hp) (by rw [Frame.page_length (head_fits z.p0 z.p1), h.epg]) hw (by rw [h.img, h.epg]; exact img_blank hp) h.fuse hl
  refine ⟨⟨e, pgC pg pgs rgs (m + 1) 0⟩, ?_, h1, h2⟩
  unfold openT headB
  rw [ho]
  simp only [Bool.true_eq_false, if_false]
  rw [h.epgs, h.epg, he]
theorem write_blows {pg pgs rgs : Nat} {t : Tp} {m u n : Nat} (h : Fil pg pgs rgs t (m + 1) u (some n)) (hm : m + 1 ≤ rgs) (hu : u < pgs - 1) {f : Fr} (hf : f.Ok pg) (hl : t.d.wait.length = n) :
    ∃ t', writeT t (page pg f) = ((0, 6), t') ∧ t'.d.down = true ∧ t'.d.wait.length = n + 1 := by
  have ht : takeC t.c = ((m * pgs + (u + 1), true), pgC pg pgs rgs (m + 1) (u + 1)) := by rw [h.c]; exact Chart.pg_take hm hu
  have hp : m * pgs + (u + 1) < pgs * rgs := mul_lt (by omega) (by omega)
  have hw : t.d.waits (m * pgs + (u + 1)) = false := by
    cases hx : t.d.waits (m * pgs + (u + 1)) with
    | false => rfl
    | true => have := h.waits _ hx; unfold top at this; rw [if_neg (by omega), Nat.add_sub_cancel] at this; omega
  obtain ⟨e, he, h1, h2⟩ := prog_out (d := t.d) (p := m * pgs + (u + 1)) (b := page pg f) h.down (by unfold Dev.n; rw [h.epgs, h.ergs]; exact hp) (by rw [Frame.page_length hf, h.epg]) hw (by rw [h.img, h.epg]; exact img_blank hp) h.fuse hl
  refine ⟨⟨e, pgC pg pgs rgs (m + 1) (u + 1)⟩, ?_, h1, h2⟩
  unfold writeT
  rw [ht]
  simp only
  rw [he, if_pos (by simp)]
/-- i frames stand -/
def At (pg pgs rgs : Nat) (t : Tp) (i : Nat) (fz : Option Nat) : Prop := ∃ m u, Fil pg pgs rgs t m u fz ∧ m ≤ rgs ∧ t.d.wait.length = i + m ∧ ((m = 0 ∧ u = 0 ∧ i = 0) ∨ (1 ≤ m ∧ 1 ≤ u ∧ u ≤ pgs - 1 ∧ i = (m - 1) * (pgs - 1) + u))
theorem at_new {pg pgs rgs : Nat} (fz : Option Nat) : At pg pgs rgs ⟨{ newD pg pgs rgs [] with fuse := fz }, newC pg pgs rgs⟩ 0 fz := ⟨0, 0, fil_new fz, Nat.zero_le _, rfl, .inl ⟨rfl, rfl, rfl⟩⟩
theorem left_pg {pg pgs rgs m u : Nat} (hm : m + 1 ≤ rgs) : (pgC pg pgs rgs (m + 1) u).left = pgs - 1 - u := by
  show (pgC pg pgs rgs (m + 1) u).slots - (pgC pg pgs rgs (m + 1) u).us m = _
  rw [Chart.pg_us_last hm]; rfl
theorem div_at {sl m u i : Nat} (hu : u < sl) (hi : i = m * sl + u) : i / sl = m ∧ i % sl = u := by
  subst hi
  refine ⟨?_, ?_⟩
  · rw [Nat.mul_comm, Nat.mul_add_div (by omega), Nat.div_eq_of_lt hu, Nat.add_zero]
  · rw [Nat.mul_comm, Nat.mul_add_mod, Nat.mod_eq_of_lt hu]
theorem frame_code {pg pgs rgs : Nat} {t : Tp} {m u : Nat} {fz : Option Nat} (z : Sz pg pgs rgs) (h : Fil pg pgs rgs t m u fz) {f : Fr} (hf : f.Ok pg) : bytesG t.geo f = (page pg f, 0) := by
  have hg : Geom.rightG t.geo = true := Geom.right_small.2 ⟨by have := z.p0; simp only [Tp.geo, h.epg]; omega, by have := z.p1; simp only [Tp.geo, h.epg]; omega, by have := z.s0; simp only [Tp.geo, h.epgs]; omega, by have := z.s1; simp only [Tp.geo, h.epgs]; omega, by have := z.r0; simp only [Tp.geo, h.ergs]; omega, by have := z.r1; simp only [Tp.geo, h.ergs]; omega⟩
  rw [Go.Proofs.YtcmjambbdfangaaGreat.Frame.bytesG_ok hg (by have := hf.k1; have := hf.k4; omega) (by have := hf.fits; simp only [Tp.geo, h.epg, Int.toNat_natCast]; omega)]
  simp only [Tp.geo, h.epg, Int.toNat_natCast]
theorem append_goes {pg pgs rgs : Nat} (z : Sz pg pgs rgs) {t : Tp} {i : Nat} {fz : Option Nat} (h : At pg pgs rgs t i fz) (hi : i < rgs * (pgs - 1)) {f : Fr} (hf : f.Ok pg) (hfz : ∀ n, fz = some n → i + 1 + i / (pgs - 1) + 1 ≤ n) :
    ∃ t', appendT t f = ((i / (pgs - 1) * pgs + 1 + i % (pgs - 1), 0), t') ∧ At pg pgs rgs t' (i + 1) fz ∧ t'.d.held (i / (pgs - 1) * pgs + 1 + i % (pgs - 1)) = page pg f ∧ t'.d.held (i / (pgs - 1) * pgs) = page pg (headF (i / (pgs - 1) + 1) (i / (pgs - 1))) ∧ t'.d.down = false := by
  have z1 := z.s0
  obtain ⟨m, u, hF, hm, hlen, hc⟩ := h
  have hcode := frame_code z hF hf
  by_cases hnew : (m = 0 ∧ u = 0) ∨ u = pgs - 1
  · -- a new region
    have him : i = m * (pgs - 1) := by
      rcases hc with ⟨h0, _, h2⟩ | ⟨h1, h2, h3, h4⟩
      · rw [h0, h2, Nat.zero_mul]
      · rcases hnew with ⟨h5, _⟩ | h5
        · omega
        · obtain ⟨k, rfl⟩ : ∃ k, m = k + 1 := ⟨m - 1, by omega⟩
          rw [h4, h5, Nat.add_mul, Nat.add_sub_cancel, Nat.one_mul]
    have hmr : m < rgs := by
      rw [him] at hi
      exact Nat.lt_of_mul_lt_mul_right hi
    obtain ⟨e1, e2⟩ := div_at (sl := pgs - 1) (m := m) (u := 0) (i := i) (by omega) (by omega)
    rw [e1] at hfz ⊢
    rw [e2]
    obtain ⟨t1, ho, hF1, hl1⟩ := fil_open z hF hmr hnew (fun n hn => by have := hfz n hn; omega)
    obtain ⟨t2, hw, hF2, hh, hl2, hhd⟩ := fil_write z hF1 (by omega) (by omega) hf (fun n hn => by have := hfz n hn; omega)
    have hleft : t.c.left = 0 := by
      rw [hF.c]
      rcases hnew with ⟨h5, h6⟩ | h5
      · rw [h5, h6, Chart.pg_zero]; rfl
      · rcases hc with ⟨h0, _, _⟩ | ⟨h1, _, _, _⟩
        · rw [h0, Chart.pg_zero]; rfl
        · obtain ⟨k, rfl⟩ : ∃ k, m = k + 1 := ⟨m - 1, by omega⟩
          rw [left_pg hm]; omega
    refine ⟨t2, ?_, ⟨m + 1, 0 + 1, hF2, by omega, by omega, .inr ⟨by omega, by omega, by omega, by rw [Nat.add_sub_cancel]; omega⟩⟩, ?_, hhd m (by omega), hF2.down⟩
    · unfold appendT
      rw [hcode, if_neg (by simp), if_pos hleft, ho, if_neg (by simp)]
      rw [hw]
    · rw [Nat.add_zero]; exact hh
  · have hc' : 1 ≤ m ∧ 1 ≤ u ∧ u ≤ pgs - 1 ∧ i = (m - 1) * (pgs - 1) + u := by
      rcases hc with ⟨h0, h1, _⟩ | h1
      · exact absurd (.inl ⟨h0, h1⟩) hnew
      · exact h1
    obtain ⟨k, rfl⟩ : ∃ k, m = k + 1 := ⟨m - 1, by omega⟩
    rw [Nat.add_sub_cancel] at hc'
    obtain ⟨e1, e2⟩ := div_at (sl := pgs - 1) (m := k) (u := u) (i := i) (by omega) hc'.2.2.2
    rw [e1] at hfz ⊢
    rw [e2]
    obtain ⟨t2, hw, hF2, hh, hl2, hhd⟩ := fil_write z hF hm (by omega) hf (fun n hn => by have := hfz n hn; omega)
    have hleft : t.c.left ≠ 0 := by rw [hF.c, left_pg hm]; omega
    refine ⟨t2, ?_, ⟨k + 1, u + 1, hF2, hm, by omega, .inr ⟨by omega, by omega, by omega, by rw [Nat.add_sub_cancel]; omega⟩⟩, ?_, hhd k (by omega), hF2.down⟩
    · unfold appendT
      rw [hcode, if_neg (by simp), if_neg hleft, hw]
      rw [show k * pgs + (u + 1) = k * pgs + 1 + u by omega]
    · rw [show k * pgs + 1 + u = k * pgs + (u + 1) by omega]; exact hh
theorem append_blows {pg pgs rgs : Nat} (z : Sz pg pgs rgs) {t : Tp} {i n : Nat} (h : At pg pgs rgs t i (some n)) (hi : i < rgs * (pgs - 1)) {f : Fr} (hf : f.Ok pg) (hn : n < i + 1 + i / (pgs - 1) + 1) :
    ∃ t', appendT t f = ((0, 6), t') ∧ t'.d.down = true ∧ t'.d.wait.length = n + 1 := by
  have z1 := z.s0
  obtain ⟨m, u, hF, hm, hlen, hc⟩ := h
  have hln := hF.len n rfl
  have hcode := frame_code z hF hf
  by_cases hnew : (m = 0 ∧ u = 0) ∨ u = pgs - 1
  · have him : i = m * (pgs - 1) := by
      rcases hc with ⟨h0, _, h2⟩ | ⟨h1, h2, h3, h4⟩
      · rw [h0, h2, Nat.zero_mul]
      · rcases hnew with ⟨h5, _⟩ | h5
        · omega
        · obtain ⟨k, rfl⟩ : ∃ k, m = k + 1 := ⟨m - 1, by omega⟩
          rw [h4, h5, Nat.add_mul, Nat.add_sub_cancel, Nat.one_mul]
    have hmr : m < rgs := by
      rw [him] at hi
      exact Nat.lt_of_mul_lt_mul_right hi
    obtain ⟨e1, e2⟩ := div_at (sl := pgs - 1) (m := m) (u := 0) (i := i) (by omega) (by omega)
    rw [e1] at hn
    have hleft : t.c.left = 0 := by
      rw [hF.c]
      rcases hnew with ⟨h5, h6⟩ | h5
      · rw [h5, h6, Chart.pg_zero]; rfl
      · rcases hc with ⟨h0, _, _⟩ | ⟨h1, _, _, _⟩
        · rw [h0, Chart.pg_zero]; rfl
        · obtain ⟨k, rfl⟩ : ∃ k, m = k + 1 := ⟨m - 1, by omega⟩
          rw [left_pg hm]; omega
    by_cases hl : t.d.wait.length = n
    · obtain ⟨t1, ho, h1, h2⟩ := open_blows z hF hmr hnew hl
      refine ⟨t1, ?_, h1, h2⟩
      unfold appendT
      rw [hcode, if_neg (by simp), if_pos hleft, ho, if_pos (by simp)]
    · obtain ⟨t1, ho, hF1, hl1⟩ := fil_open z hF hmr hnew (fun n' hn' => by cases hn'; omega)
      obtain ⟨t2, hw, h1, h2⟩ := write_blows hF1 (by omega) (by omega) hf (by omega)
      refine ⟨t2, ?_, h1, h2⟩
      unfold appendT
      rw [hcode, if_neg (by simp), if_pos hleft, ho, if_neg (by simp), hw]
  · have hc' : 1 ≤ m ∧ 1 ≤ u ∧ u ≤ pgs - 1 ∧ i = (m - 1) * (pgs - 1) + u := by
      rcases hc with ⟨h0, h1, _⟩ | h1
      · exact absurd (.inl ⟨h0, h1⟩) hnew
      · exact h1
    obtain ⟨k, rfl⟩ : ∃ k, m = k + 1 := ⟨m - 1, by omega⟩
    rw [Nat.add_sub_cancel] at hc'
    obtain ⟨e1, e2⟩ := div_at (sl := pgs - 1) (m := k) (u := u) (i := i) (by omega) hc'.2.2.2
    rw [e1] at hn
    have hleft : t.c.left ≠ 0 := by rw [hF.c, left_pg hm]; omega
    obtain ⟨t2, hw, h1, h2⟩ := write_blows hF hm (by omega) hf (show t.d.wait.length = n by omega)
    refine ⟨t2, ?_, h1, h2⟩
    unfold appendT
    rw [hcode, if_neg (by simp), if_neg hleft, hw]
end Go.Proofs.YtcmjambbdfangaaGreat.Tape
/-
  A tape that is full, and goes on when its first region is given up. Nothing of the program's functions.
-/
set_option linter.unusedVariables false
set_option linter.unusedSimpArgs false
namespace Go.Proofs.YtcmjambbdfangaaGreat.Tape
open Go.RowKit
open Go.Proofs.YtcmjambbdfangaaGreat.Own
open Tup Foot
open Flash (Dev programD eraseD readD flushD fuseD program_ok newD over cut)
open Chart (Ch openC takeC eraseC pgC newC)
open Go.Proofs.YtcmjambbdfangaaGreat.Frame (Fr page bytesG)

/-- a variable that is not turned -/
structure Kept (w : World) (k : Nat) (t : TypeId) (cs : List Value) (A : Nat → Prop) : Prop where
  var : Var w k t cs
  no : ¬ A k
theorem Kept.below {w w' : World} {k : Nat} {t : TypeId} {cs : List Value} {A : Nat → Prop} (h : Kept w k t cs A) (g : Below w.heap.size w w') : Kept w' k t cs A := ⟨h.var.below g h.var.lt, h.no⟩
theorem full_at {pg pgs rgs : Nat} (z : Sz pg pgs rgs) {t : Tp} {fz : Option Nat} (h : At pg pgs rgs t (rgs * (pgs - 1)) fz) : Fil pg pgs rgs t rgs (pgs - 1) fz := by
  have z1 := z.s0
  have z2 := z.r0
  obtain ⟨m, u, hF, hm, _, hc⟩ := h
  have hpos : 0 < rgs * (pgs - 1) := Nat.mul_pos (by omega) (by omega)
  rcases hc with ⟨_, _, h0⟩ | ⟨h1, h2, h3, h4⟩
  · omega
  · obtain ⟨k, rfl⟩ : ∃ k, m = k + 1 := ⟨m - 1, by omega⟩
    rw [Nat.add_sub_cancel] at h4
    have hle : rgs * (pgs - 1) ≤ (k + 1) * (pgs - 1) := by rw [h4, Nat.add_mul]; omega
    have hr : rgs ≤ k + 1 := Nat.le_of_mul_le_mul_right hle (by omega)
    obtain rfl : rgs = k + 1 := by omega
    rw [Nat.add_mul, Nat.one_mul] at h4
    obtain rfl : u = pgs - 1 := by omega
    exact hF
theorem append_full {pg pgs rgs : Nat} (z : Sz pg pgs rgs) {t : Tp} {fz : Option Nat} (h : Fil pg pgs rgs t rgs (pgs - 1) fz) {f : Fr} (hf : f.Ok pg) : appendT t f = ((0, 8), t) := by
  have hr := z.r0
  unfold appendT
  rw [frame_code z h hf, if_neg (by simp), if_pos (by rw [h.c]; exact Chart.pg_full_left (by omega))]
  have ho : openT t = (8, t) := by
    unfold openT
    rw [h.c, Chart.pg_open_none (by omega)]
    simp only [if_true]
    rw [← h.c]
  rw [ho, if_pos (by simp)]
def flushI (t : Tp) : List UInt8 := t.d.wait.foldl (fun im x => over im (x.1 * t.d.pg) x.2) t.d.img
theorem flush_full {pg pgs rgs : Nat} {t : Tp} {m u : Nat} (h : Fil pg pgs rgs t m u none) : flushT t = (0, ⟨{ t.d with img := flushI t, wait := [] }, t.c⟩) := by
  have hf : t.d.fuse = none := by rw [h.fuse]; rfl
  have hb : t.d.blow = (false, t.d) := by unfold Dev.blow; rw [hf]
  unfold flushT flushD
  rw [h.down, hb]
  simp only [Bool.false_eq_true, if_false]
  rfl
/-- what is left when all was flushed, and the first region given up -/
def goneT (t : Tp) : Tp := ⟨{ t.d with img := over (flushI t) 0 (List.replicate (t.d.pgs * t.d.pg) 255), wait := [] }, t.c.put 0 0 0⟩
theorem erase_last {pg pgs rgs : Nat} (z : Sz pg pgs rgs) {t : Tp} {u : Nat} (h : Fil pg pgs rgs t rgs u none) : eraseT (flushT t).2 ((rgs : Int) - 1) = (7, (flushT t).2) := by
  have hr := z.r0
  rw [flush_full h]
  unfold eraseT
  rw [show ((rgs : Int) - 1) = ((rgs - 1 : Nat) : Int) by omega]
  simp only
  rw [h.c, Chart.pg_erase_last (by omega), if_pos (by simp)]
theorem erase_first {pg pgs rgs : Nat} (z : Sz pg pgs rgs) {t : Tp} {u : Nat} (h : Fil pg pgs rgs t rgs u none) : eraseT (flushT t).2 0 = (0, goneT t) := by
  have hr := z.r0
  have hf : t.d.fuse = none := by rw [h.fuse]; rfl
  rw [flush_full h]
  have hd : eraseD { t.d with img := flushI t, wait := [] } 0 = (0, { t.d with img := over (flushI t) 0 (List.replicate (t.d.pgs * t.d.pg) 255), wait := [] }) := by
    have hb : Dev.blow { t.d with img := flushI t, wait := [] } = (false, { t.d with img := flushI t, wait := [] }) := by unfold Dev.blow; simp only [hf]
    unfold eraseD
    rw [if_neg (by simp [h.down]), if_neg (by simp only [h.ergs]; omega), if_neg (by simp), hb]
    simp
  unfold eraseT
  simp only
  rw [h.c, Chart.pg_erase_first (by omega), if_neg (by simp), hd, if_neg (by simp)]
  unfold goneT
  rw [h.c]
theorem gone_ep {pg pgs rgs : Nat} (hr : 0 < rgs) (j : Nat) : ((pgC pg pgs rgs rgs (pgs - 1)).put 0 0 0).ep j = if j = 0 then 0 else if j + 1 ≤ rgs then j + 1 else 0 := by
  rw [Chart.put_ep (Chart.pg_len _ _ _ _ _) hr, Chart.pg_ep (Nat.le_refl _)]
theorem gone_max {pg pgs rgs : Nat} (hr : 2 ≤ rgs) {j : Nat} (h2 : 2 ≤ j) (hj : j ≤ rgs) : ((pgC pg pgs rgs rgs (pgs - 1)).put 0 0 0).maxTo j = j ∧ ((pgC pg pgs rgs rgs (pgs - 1)).put 0 0 0).topTo j = j - 1 := by
  have h1 : ((pgC pg pgs rgs rgs (pgs - 1)).put 0 0 0).maxTo 1 = 0 := by
    unfold Ch.maxTo Ch.maxTo
    rw [gone_ep (by omega), if_pos rfl, if_neg (by omega)]
  obtain ⟨k, rfl⟩ : ∃ k, j = k + 1 := ⟨j - 1, by omega⟩
  have hk : ((pgC pg pgs rgs rgs (pgs - 1)).put 0 0 0).maxTo k ≤ k := by
    by_cases e : k = 1
    · subst e; rw [h1]; omega
    · have := (gone_max (pg := pg) (pgs := pgs) hr (j := k) (by omega) (by omega)).1; omega
  have he : ((pgC pg pgs rgs rgs (pgs - 1)).put 0 0 0).ep k = k + 1 := by rw [gone_ep (by omega), if_neg (by omega), if_pos hj]
  constructor
  · rw [Ch.maxTo, he, if_pos (by omega)]
  · rw [Ch.topTo, he, if_pos (by omega)]; rfl
termination_by j
theorem gone_open {pg pgs rgs : Nat} (z : Sz pg pgs rgs) : openC ((pgC pg pgs rgs rgs (pgs - 1)).put 0 0 0) = ((0, rgs + 1, true), ((pgC pg pgs rgs rgs (pgs - 1)).put 0 0 0).openAt 0) := by
  have hr := z.r0
  have hr1 := z.r1
  obtain ⟨h1, h2⟩ := gone_max (pg := pg) (pgs := pgs) (rgs := rgs) (by omega) (j := rgs) (by omega) (Nat.le_refl _)
  have hmax : ((pgC pg pgs rgs rgs (pgs - 1)).put 0 0 0).max = rgs := h1
  have htop : ((pgC pg pgs rgs rgs (pgs - 1)).put 0 0 0).top = rgs - 1 := h2
  have hn : ((pgC pg pgs rgs rgs (pgs - 1)).put 0 0 0).next = some 0 := by
    unfold Ch.next
    rw [htop]
    show ((pgC pg pgs rgs rgs (pgs - 1)).put 0 0 0).scan (rgs - 1) 0 rgs = some 0
    obtain ⟨n, hn⟩ : ∃ n, rgs = n + 2 := ⟨rgs - 2, by omega⟩
    have e1 := Chart.scan_miss (c := (pgC pg pgs rgs rgs (pgs - 1)).put 0 0 0) (first := rgs - 1) (i := 0) (n := n + 1) (by
      show ((pgC pg pgs rgs rgs (pgs - 1)).put 0 0 0).ep ((rgs - 1 + 0) % rgs) ≠ 0
      rw [Nat.add_zero, Nat.mod_eq_of_lt (by omega), gone_ep (by omega), if_neg (by omega), if_pos (by omega)]; omega)
    have e2 := Chart.scan_hit (c := (pgC pg pgs rgs rgs (pgs - 1)).put 0 0 0) (first := rgs - 1) (i := 1) (n := n) (by
      show ((pgC pg pgs rgs rgs (pgs - 1)).put 0 0 0).ep ((rgs - 1 + 1) % rgs) = 0
      rw [show rgs - 1 + 1 = rgs by omega, Nat.mod_self, gone_ep (by omega), if_pos rfl])
    rw [show (rgs - 1 + 1) % ((pgC pg pgs rgs rgs (pgs - 1)).put 0 0 0).rgs = 0 by
      show (rgs - 1 + 1) % rgs = 0
      rw [show rgs - 1 + 1 = rgs by omega, Nat.mod_self]] at e2
    have e3 := e1.trans e2
    rw [show n + 1 + 1 = rgs by omega] at e3
    exact e3
  rw [Chart.open_at (by rw [hmax]; omega) hn, hmax]
theorem blank_in {im : List UInt8} {a q n : Nat} (h : q + n ≤ a) : Flash.blank (cut (over im 0 (List.replicate a 255)) q n) = true := by
  have e : cut (over im 0 (List.replicate a 255)) q n = List.replicate n 255 := by
    unfold cut over
    simp only [List.take_zero, List.nil_append, Nat.zero_add]
    rw [List.drop_append_of_le_length (by rw [List.length_replicate]; omega), List.drop_replicate, List.take_append_of_le_length (by rw [List.length_replicate]; omega), List.take_replicate, Nat.min_eq_left (by omega)]
  rw [e]; exact Flash.blank_replicate n
theorem append_again {pg pgs rgs : Nat} (z : Sz pg pgs rgs) {t : Tp} (h : Fil pg pgs rgs t rgs (pgs - 1) none) {f : Fr} (hf : f.Ok pg) : ∃ t', appendT (goneT t) f = ((1, 0), t') := by
  have z1 := z.s0
  have z2 := z.r0
  have z3 := z.p0
  have hc : (goneT t).c = (pgC pg pgs rgs rgs (pgs - 1)).put 0 0 0 := by unfold goneT; rw [h.c]
  have hg : Geom.rightG (goneT t).geo = true := Geom.right_small.2 ⟨by have := z.p0; simp only [Tp.geo, goneT, h.epg]; omega, by have := z.p1; simp only [Tp.geo, goneT, h.epg]; omega, by have := z.s0; simp only [Tp.geo, goneT, h.epgs]; omega, by have := z.s1; simp only [Tp.geo, goneT, h.epgs]; omega, by have := z.r0; simp only [Tp.geo, goneT, h.ergs]; omega, by have := z.r1; simp only [Tp.geo, goneT, h.ergs]; omega⟩
  have hcode : bytesG (goneT t).geo f = (page pg f, 0) := by
    rw [Go.Proofs.YtcmjambbdfangaaGreat.Frame.bytesG_ok hg (by have := hf.k1; have := hf.k4; omega) (by have := hf.fits; simp only [Tp.geo, goneT, h.epg, Int.toNat_natCast]; omega)]
    simp only [Tp.geo, goneT, h.epg, Int.toNat_natCast]
  have hleft : (goneT t).c.left = 0 := by
    rw [hc]
    show ((pgC pg pgs rgs rgs (pgs - 1)).put 0 0 0).left = 0
    have hl := Chart.pg_full_left (pg := pg) (pgs := pgs) (rgs := rgs) (by omega)
    unfold Ch.left at hl ⊢
    have hn : (pgC pg pgs rgs rgs (pgs - 1)).now = some (rgs - 1) := by unfold pgC; simp only; rw [if_neg (by omega)]
    have hn2 : ((pgC pg pgs rgs rgs (pgs - 1)).put 0 0 0).now = some (rgs - 1) := hn
    rw [hn] at hl
    rw [hn2]
    simp only at hl ⊢
    rw [Chart.put_us (Chart.pg_len _ _ _ _ _) (show 0 < (pgC pg pgs rgs rgs (pgs - 1)).rgs by show 0 < rgs; omega), if_neg (by omega)]
    exact hl
  have hfu : (goneT t).d.fuse = (none : Option Nat).map (· - (goneT t).d.wait.length) := by show t.d.fuse = none; rw [h.fuse]; rfl
  have hpgs : pgs * rgs = (goneT t).d.n := by unfold goneT Dev.n; simp only [h.epgs, h.ergs]
  have hbig : 2 ≤ pgs * rgs := Nat.le_trans (by omega) (Nat.mul_le_mul z1 z2)
  have hsz : pg + pg ≤ t.d.pgs * t.d.pg := by rw [h.epgs, h.epg, ← Nat.two_mul]; exact Nat.mul_le_mul_right _ (by omega)
  obtain ⟨e, he, hA, hdn, hfe⟩ := prog_goes (d := (goneT t).d) (p := 0) (b := page pg (headF (rgs + 1) 0)) (fz := none) h.down (by rw [← hpgs]; omega) (by rw [Frame.page_length (head_fits z.p0 z.p1)]; exact h.epg.symm) rfl (by
    show Flash.blank (cut (over (flushI t) 0 (List.replicate (t.d.pgs * t.d.pg) 255)) (0 * t.d.pg) t.d.pg) = true
    exact blank_in (by rw [h.epg] at hsz ⊢; omega)) hfu (fun n hn => by cases hn)
  have ho : openT (goneT t) = (0, ⟨e, ((pgC pg pgs rgs rgs (pgs - 1)).put 0 0 0).openAt 0⟩) := by
    unfold openT headB
    rw [hc, gone_open z]
    simp only [Bool.true_eq_false, if_false]
    rw [show (goneT t).d.pg = pg from h.epg, show 0 * (goneT t).d.pgs = 0 from Nat.zero_mul _, he]
  have htk : takeC (((pgC pg pgs rgs rgs (pgs - 1)).put 0 0 0).openAt 0) = ((1, true), (((pgC pg pgs rgs rgs (pgs - 1)).put 0 0 0).openAt 0).takeAt 0) := by
    have hu : (((pgC pg pgs rgs rgs (pgs - 1)).put 0 0 0).openAt 0).us 0 = 0 := by
      have := Chart.put_us (c := (pgC pg pgs rgs rgs (pgs - 1)).put 0 0 0) (i := 0) (e := ((pgC pg pgs rgs rgs (pgs - 1)).put 0 0 0).max + 1) (u := 0) (by show ((pgC pg pgs rgs rgs (pgs - 1)).st.set 0 (0, 0)).length = rgs; rw [List.length_set, Chart.pg_len]) (show 0 < rgs by omega) 0
      rw [if_pos rfl] at this
      exact this
    have := Chart.take_open (c := ((pgC pg pgs rgs rgs (pgs - 1)).put 0 0 0).openAt 0) (k := 0) rfl (by rw [hu]; show 0 < pgs - 1; omega)
    rw [hu, Nat.zero_mul] at this
    exact this
  obtain ⟨e2, he2, _, _, _⟩ := prog_goes (d := e) (p := 1) (b := page pg f) (fz := none) hdn (by unfold Dev.n; rw [hA.pgs, hA.rgs]; show 1 < (goneT t).d.n; omega) (by rw [Frame.page_length hf, hA.pg]; exact h.epg.symm) (by rw [hA.waits]; rfl) (by
    rw [hA.img, hA.pg]
    show Flash.blank (cut (over (flushI t) 0 (List.replicate (t.d.pgs * t.d.pg) 255)) (1 * t.d.pg) t.d.pg) = true
    exact blank_in (by rw [h.epg] at hsz ⊢; omega)) (by rw [hfe]; rfl) (fun n hn => by cases hn)
  refine ⟨⟨e2, (((pgC pg pgs rgs rgs (pgs - 1)).put 0 0 0).openAt 0).takeAt 0⟩, ?_⟩
  unfold appendT
  rw [hcode, if_neg (by simp), if_pos hleft, ho, if_neg (by simp)]
  unfold writeT
  rw [htk]
  simp only
  have he3 : programD e ((1 : Nat) : Int) (page pg f) = (0, e2) := he2
  rw [he3, if_neg (by simp)]
end Go.Proofs.YtcmjambbdfangaaGreat.Tape
