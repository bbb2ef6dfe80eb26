/-
  What follows of the document's device for the statements of chapter 7. Nothing of the program.
-/
import Derived.Test.YtdbfclngllhdlaaFlashM
set_option linter.unusedVariables false
set_option linter.unusedSimpArgs false
namespace Go.Proofs.Ytdbfclngllhdlaa.Flash

theorem has_nat {d : Dev} {p : Nat} (h : p < d.n) : d.has (p : Int) = true := by
  unfold Dev.has; simp; omega
theorem program_ok {d : Dev} {p : Nat} {b : List UInt8} (h1 : d.down = false) (h2 : p < d.n) (h3 : b.length = d.pg) (h4 : d.waits p = false) (h5 : blank (d.held p) = true) :
    programD d p b = (if d.blow.1 then 6 else 0, { d.blow.2 with wait := d.wait ++ [(p, b)] }) := by
  unfold programD
  rw [if_neg (by simp [h1]), if_neg (by simp [has_nat h2, h3]), Int.toNat_natCast, if_neg (by simp [h4, h5])]
theorem program_state {d : Dev} {p : Nat} {b : List UInt8} (h1 : d.down = false) (h2 : p < d.n) (h3 : b.length = d.pg) (h4 : d.waits p = true ∨ blank (d.held p) = false) : programD d p b = (7, d) := by
  unfold programD
  rw [if_neg (by simp [h1]), if_neg (by simp [has_nat h2, h3]), Int.toNat_natCast, if_pos h4]
theorem program_arg {d : Dev} {p : Int} {b : List UInt8} (h1 : d.down = false) (h2 : d.has p = false ∨ b.length ≠ d.pg) : programD d p b = (1, d) := by
  unfold programD
  rw [if_neg (by simp [h1]), if_pos h2]
theorem held_none {d : Dev} {p : Nat} (h : d.wait = []) : d.held p = cut d.img (p * d.pg) d.pg := by unfold Dev.held; rw [h]; rfl
/-- the document's small device, up, without a fuse -/
def tinyD (img : List UInt8) (wait : List (Nat × List UInt8)) : Dev := ⟨32, 3, 4, img, wait, none, false⟩
def ff (n : Nat) : List UInt8 := List.replicate n 255
theorem ff_length (n : Nat) : (ff n).length = n := by simp [ff]
theorem new_tiny : newD 32 3 4 [] = tinyD (ff 384) [] := rfl
theorem tiny_n (img : List UInt8) (wait : List (Nat × List UInt8)) : (tinyD img wait).n = 12 := rfl
theorem tiny_program {img : List UInt8} {p : Nat} {b : List UInt8} (hp : p < 12) (hb : b.length = 32) (hl : blank (cut img (p * 32) 32) = true) : programD (tinyD img []) p b = (0, tinyD img [(p, b)]) :=
  program_ok rfl hp hb rfl hl
theorem tiny_flush (img : List UInt8) (wait : List (Nat × List UInt8)) : flushD (tinyD img wait) = (0, tinyD (wait.foldl (fun im x => over im (x.1 * 32) x.2) img) []) := rfl
theorem blank_ff {p n m : Nat} (h : p + n ≤ m) : blank (cut (ff m) p n) = true := by unfold ff; rw [cut_replicate 255 h]; exact blank_replicate n
theorem tiny_read {img : List UInt8} {p : Nat} (hp : p < 12) : readD (tinyD img []) p = (cut img (p * 32) 32, 0) := by
  unfold readD
  rw [if_neg (by simp [tinyD]), has_nat (by exact hp), if_neg (by simp), Int.toNat_natCast, held_none rfl]; rfl
/-- FlashTorn -/
def tornI (a b : List UInt8) (m : Int) : List UInt8 := over (over (ff 384) 32 a) 128 (b.take (tornN 32 m))
theorem torn_1 {a : List UInt8} (ha : a.length = 32) : programD (newD 32 3 4 []) 1 a = (0, tinyD (ff 384) [(1, a)]) := by rw [new_tiny]; exact tiny_program (p := 1) (by omega) ha (blank_ff (by omega))
theorem torn_2 (a : List UInt8) : flushD (tinyD (ff 384) [(1, a)]) = (0, tinyD (over (ff 384) 32 a) []) := rfl
theorem torn_3 {a b : List UInt8} (ha : a.length = 32) (hb : b.length = 32) : programD (tinyD (over (ff 384) 32 a) []) 4 b = (0, tinyD (over (ff 384) 32 a) [(4, b)]) :=
  tiny_program (p := 4) (by omega) hb (by rw [cut_over_after (by omega) (by rw [ff_length]; omega)]; exact blank_ff (by omega))
theorem torn_4 (a b : List UInt8) (m : Int) : crashD (tinyD (over (ff 384) 32 a) [(4, b)]) [m] = tinyD (tornI a b m) [] := by unfold crashD tinyD tornI; simp
theorem torn_5 {a : List UInt8} (ha : a.length = 32) (b : List UInt8) (m : Int) : readD (tinyD (tornI a b m) []) 1 = (a, 0) := by
  have h := tiny_read (img := tornI a b m) (p := 1) (by omega)
  rw [show ((1 : Nat) : Int) = 1 from rfl] at h
  rw [h]
  unfold tornI
  rw [cut_over_before (by omega) (by rw [over_length] <;> (simp [ff_length, ha])), cut_over_same (by rw [ff_length]; omega) ha]
theorem torn_6 {a b : List UInt8} (ha : a.length = 32) (hb : b.length = 32) (m : Int) : readD (tinyD (tornI a b m) []) 4 = (b.take (tornN 32 m) ++ ff (32 - tornN 32 m), 0) := by
  have h := tiny_read (img := tornI a b m) (p := 4) (by omega)
  rw [show ((4 : Nat) : Int) = 4 from rfl] at h
  have hk := tornN_le 32 (by omega) m
  have hl : (b.take (tornN 32 m)).length = tornN 32 m := by rw [List.length_take]; omega
  have h1 : (over (ff 384) 32 a).length = 384 := by rw [over_length] <;> (simp [ff_length, ha])
  rw [h]
  unfold tornI
  rw [cut_over_part (by omega) (by omega), hl, cut_over_after (by omega) (by rw [ff_length]; omega)]
  unfold ff
  rw [cut_replicate 255 (by omega)]
/-- FlashFuses -/
def fusedD (b : List UInt8) (n i : Nat) (down : Bool) : Dev := ⟨32, 3, 4, ff 384, (List.range i).map (fun j => (j, b)), some (n - i), down⟩
theorem held_fused {b : List UInt8} {n i p : Nat} {down : Bool} (h : i ≤ p) (hp : p < 12) : blank ((fusedD b n i down).held p) = true ∧ (fusedD b n i down).waits p = false := by
  have hw : ∀ x ∈ (List.range i).map (fun j => (j, b)), x.1 ≠ p := by
    intro x hx
    obtain ⟨j, hj, rfl⟩ := List.mem_map.1 hx
    have := List.mem_range.1 hj
    simp; omega
  constructor
  · have : ∀ (l : List (Nat × List UInt8)) (s : List UInt8), (∀ x ∈ l, x.1 ≠ p) → l.foldl (fun s x => if x.1 = p then x.2 else s) s = s := by
      intro l
      induction l with
      | nil => intros; rfl
      | cons x r ih => intro s h; rw [List.foldl_cons, if_neg (h x (List.mem_cons_self ..))]; exact ih s (fun y hy => h y (List.mem_cons_of_mem _ hy))
    unfold Dev.held fusedD
    rw [this _ _ hw]
    show blank (cut (ff 384) (p * 32) 32) = true
    exact blank_ff (by omega)
  · unfold Dev.waits fusedD
    rw [List.any_eq_false]
    intro x hx; simpa using hw x hx
theorem fuse_0 (b : List UInt8) (n : Nat) : fuseD (newD 32 3 4 []) n = fusedD b n 0 false := by
  unfold fuseD fusedD
  rw [if_neg (by omega), Int.toNat_natCast]; rfl
theorem fuse_bad {b : List UInt8} {n i : Nat} (p : Int) (s : List UInt8) (hs : s.length = 1) : programD (fusedD b n i false) p s = (1, fusedD b n i false) := program_arg rfl (.inr (by rw [hs]; simp [fusedD]))
theorem fused_succ (b : List UInt8) (i : Nat) : (List.range i).map (fun j => (j, b)) ++ [(i, b)] = (List.range (i + 1)).map (fun j => (j, b)) := by rw [List.range_succ, List.map_append]; rfl
theorem fuse_lt {b : List UInt8} {n i : Nat} (hb : b.length = 32) (h : i < n) (hn : n < 12) : programD (fusedD b n i false) i b = (0, fusedD b n (i + 1) false) := by
  have h0 := held_fused (b := b) (n := n) (down := false) (Nat.le_refl i) (by omega)
  rw [program_ok rfl (show i < 12 by omega) hb h0.2 h0.1]
  have e : (fusedD b n i false).blow = (false, { fusedD b n i false with fuse := some (n - (i + 1)) }) := by
    unfold Dev.blow fusedD
    rw [show n - i = (n - (i + 1)) + 1 by omega]
  rw [e]
  simp only [Bool.false_eq_true, if_false]
  unfold fusedD
  rw [fused_succ]
theorem fuse_at {b : List UInt8} {n : Nat} (hb : b.length = 32) (hn : n < 12) : programD (fusedD b n n false) n b = (6, fusedD b n (n + 1) true) := by
  have h0 := held_fused (b := b) (n := n) (down := false) (Nat.le_refl n) (by omega)
  rw [program_ok rfl (show n < 12 by omega) hb h0.2 h0.1]
  have e : (fusedD b n n false).blow = (true, { fusedD b n n false with down := true }) := by
    unfold Dev.blow fusedD
    rw [Nat.sub_self]
  rw [e]
  simp only [if_true]
  unfold fusedD
  rw [fused_succ, Nat.sub_self, show n - (n + 1) = 0 by omega]
theorem fuse_read (b : List UInt8) (n i : Nat) (p : Int) : readD (fusedD b n i true) p = ([], 6) := rfl
theorem fuse_flush (b : List UInt8) (n i : Nat) : flushD (fusedD b n i true) = (6, fusedD b n i true) := rfl
theorem fuse_erase (b : List UInt8) (n i : Nat) (r : Int) : eraseD (fusedD b n i true) r = (6, fusedD b n i true) := rfl
theorem fuse_wait (b : List UInt8) (n i : Nat) (down : Bool) : (fusedD b n i down).wait.length = i := by simp [fusedD]
/-- FlashErased -/
def erasedD (img : List UInt8) : Dev := ⟨32, 3, 4, img, [(6, ff 32), (7, ff 32), (8, ff 32)], some 0, true⟩
def erasedI (img : List UInt8) (mask : List Int) : List UInt8 := over (over (over img 192 (ff (tornN 32 (mask.getD 0 0)))) 224 (ff (tornN 32 (mask.getD 1 0)))) 256 (ff (tornN 32 (mask.getD 2 0)))
theorem new_full {img : List UInt8} (h : img.length = 384) : newD 32 3 4 img = tinyD img [] := by
  unfold newD tinyD
  rw [h]; simp
theorem erased_1 (img : List UInt8) : eraseD (fuseD (tinyD img []) 0) 2 = (6, erasedD img) := rfl
theorem take_ff {k n : Nat} (h : k ≤ n) : (ff n).take k = ff k := by unfold ff; rw [List.take_replicate]; congr 1; omega
theorem erased_2 (img : List UInt8) (mask : List Int) : crashD (erasedD img) mask = tinyD (erasedI img mask) [] := by
  have h0 := tornN_le 32 (by omega) (mask.getD 0 0)
  have h1 := tornN_le 32 (by omega) (mask.getD 1 0)
  have h2 := tornN_le 32 (by omega) (mask.getD 2 0)
  unfold erasedI
  rw [← take_ff h0, ← take_ff h1, ← take_ff h2]
  rfl
theorem erased_len {img : List UInt8} (h : img.length = 384) (mask : List Int) : (erasedI img mask).length = 384 := by
  have h0 := tornN_le 32 (by omega) (mask.getD 0 0)
  have h1 := tornN_le 32 (by omega) (mask.getD 1 0)
  have h2 := tornN_le 32 (by omega) (mask.getD 2 0)
  unfold erasedI
  have e0 := over_length (img := img) (p := 192) (bs := ff (tornN 32 (mask.getD 0 0))) (by rw [ff_length]; omega)
  have e1 := over_length (img := over img 192 (ff (tornN 32 (mask.getD 0 0)))) (p := 224) (bs := ff (tornN 32 (mask.getD 1 0))) (by rw [ff_length]; omega)
  rw [over_length (by rw [ff_length]; omega)]
  omega
theorem erased_take {img : List UInt8} (h : img.length = 384) (mask : List Int) : (erasedI img mask).take 192 = img.take 192 := by
  have h0 := tornN_le 32 (by omega) (mask.getD 0 0)
  have h1 := tornN_le 32 (by omega) (mask.getD 1 0)
  have e0 := over_length (img := img) (p := 192) (bs := ff (tornN 32 (mask.getD 0 0))) (by rw [ff_length]; omega)
  have e1 := over_length (img := over img 192 (ff (tornN 32 (mask.getD 0 0)))) (p := 224) (bs := ff (tornN 32 (mask.getD 1 0))) (by rw [ff_length]; omega)
  unfold erasedI
  rw [take_over (by omega) (by omega), take_over (by omega) (by omega), take_over (by omega) (by omega)]
theorem erased_drop {img : List UInt8} (h : img.length = 384) (mask : List Int) : (erasedI img mask).drop 288 = img.drop 288 := by
  have h0 := tornN_le 32 (by omega) (mask.getD 0 0)
  have h1 := tornN_le 32 (by omega) (mask.getD 1 0)
  have h2 := tornN_le 32 (by omega) (mask.getD 2 0)
  have e0 := over_length (img := img) (p := 192) (bs := ff (tornN 32 (mask.getD 0 0))) (by rw [ff_length]; omega)
  have e1 := over_length (img := over img 192 (ff (tornN 32 (mask.getD 0 0)))) (p := 224) (bs := ff (tornN 32 (mask.getD 1 0))) (by rw [ff_length]; omega)
  unfold erasedI
  rw [drop_over (by rw [ff_length]; omega) (by omega), drop_over (by rw [ff_length]; omega) (by omega), drop_over (by rw [ff_length]; omega) (by omega)]
theorem erased_cut {img : List UInt8} (h : img.length = 384) (mask : List Int) {i : Nat} (hi : i < 3) :
    cut (erasedI img mask) (192 + 32 * i) 32 = ff (tornN 32 (mask.getD i 0)) ++ cut img (192 + 32 * i + tornN 32 (mask.getD i 0)) (32 - tornN 32 (mask.getD i 0)) := by
  have h0 := tornN_le 32 (by omega) (mask.getD 0 0)
  have h1 := tornN_le 32 (by omega) (mask.getD 1 0)
  have h2 := tornN_le 32 (by omega) (mask.getD 2 0)
  have e0 := over_length (img := img) (p := 192) (bs := ff (tornN 32 (mask.getD 0 0))) (by rw [ff_length]; omega)
  have e1 := over_length (img := over img 192 (ff (tornN 32 (mask.getD 0 0)))) (p := 224) (bs := ff (tornN 32 (mask.getD 1 0))) (by rw [ff_length]; omega)
  unfold erasedI
  match i, hi with
  | 0, _ =>
    rw [cut_over_before (by omega) (by omega), cut_over_before (by omega) (by omega), cut_over_part (by omega) (by rw [ff_length]; omega), ff_length]
  | 1, _ =>
    rw [cut_over_before (by omega) (by omega), cut_over_part (by omega) (by rw [ff_length]; omega), ff_length, cut_over_after (by rw [ff_length]; omega) (by omega)]
  | 2, _ =>
    rw [cut_over_part (by omega) (by rw [ff_length]; omega), ff_length, cut_over_after (by rw [ff_length]; omega) (by omega), cut_over_after (by rw [ff_length]; omega) (by omega)]
/-- FlashOnce -/
theorem once_y {p : Nat} {a b : List UInt8} (hp : p < 12) (hb : b.length = 32) (img : List UInt8) : programD (tinyD img [(p, a)]) p b = (7, tinyD img [(p, a)]) := program_state rfl hp hb (.inl (by simp [Dev.waits, tinyD]))
theorem once_z {p : Nat} {a : List UInt8} (hp : p < 12) (img : List UInt8) : eraseD (tinyD img [(p, a)]) ((p / 3 : Nat) : Int) = (7, tinyD img [(p, a)]) := by
  unfold eraseD
  rw [if_neg (by simp [tinyD]), if_neg (by simp [tinyD]; omega), Int.toNat_natCast, if_pos (by rw [List.any_eq_true]; exact ⟨(p, a), by simp [tinyD], by
    show (decide (p / 3 * 3 ≤ p) && decide (p < p / 3 * 3 + 3)) = true
    rw [decide_eq_true (by omega), decide_eq_true (by omega)]; rfl⟩)]
theorem once_v0 {p : Nat} {a b : List UInt8} (hp : p < 12) (ha : a.length = 32) (hb : b.length = 32) (h : blank a = true) : programD (tinyD (over (ff 384) (p * 32) a) []) p b = (0, tinyD (over (ff 384) (p * 32) a) [(p, b)]) :=
  tiny_program hp hb (by rw [cut_over_same (by rw [ff_length]; omega) ha]; exact h)
theorem once_v1 {p : Nat} {a b : List UInt8} (hp : p < 12) (ha : a.length = 32) (hb : b.length = 32) (h : blank a = false) : programD (tinyD (over (ff 384) (p * 32) a) []) p b = (7, tinyD (over (ff 384) (p * 32) a) []) :=
  program_state rfl hp hb (.inr (by rw [held_none rfl]; show blank (cut (over (ff 384) (p * 32) a) (p * 32) 32) = false; rw [cut_over_same (by rw [ff_length]; omega) ha]; exact h))
theorem once_w {p : Nat} (hp : p < 12) (img : List UInt8) : eraseD (tinyD img []) ((p / 3 : Nat) : Int) = (0, tinyD (over img (p / 3 * 3 * 32) (ff 96)) []) := by
  unfold eraseD
  rw [if_neg (by simp [tinyD]), if_neg (by simp [tinyD]; omega), Int.toNat_natCast, if_neg (by simp [tinyD]), if_neg (by simp [tinyD, Dev.blow])]
  rfl
theorem cut_mid {img : List UInt8} {q p : Nat} (hq : q + 96 ≤ img.length) (h1 : q ≤ p) (h2 : p + 32 ≤ q + 96) : cut (over img q (ff 96)) p 32 = ff 32 := by
  unfold cut over
  have hl : (img.take q).length = q := by simp; omega
  rw [List.append_assoc, List.drop_append, List.drop_eq_nil_of_le (by omega), List.nil_append, hl, List.drop_append_of_le_length (by rw [ff_length]; omega), List.take_append_of_le_length (by rw [List.length_drop, ff_length]; omega)]
  unfold ff
  rw [List.drop_replicate, List.take_replicate]
  congr 1; omega
theorem once_s {p : Nat} (hp : p < 12) {img : List UInt8} (hl : img.length = 384) : readD (tinyD (over img (p / 3 * 3 * 32) (ff 96)) []) p = (ff 32, 0) := by
  rw [tiny_read hp, cut_mid (by omega) (by omega) (by omega)]
theorem once_end {p : Nat} (hp : p < 12) {img b : List UInt8} (hl : img.length = 384) (hb : b.length = 32) : programD (tinyD (over img (p / 3 * 3 * 32) (ff 96)) []) p b = (0, tinyD (over img (p / 3 * 3 * 32) (ff 96)) [(p, b)]) :=
  tiny_program hp hb (by rw [cut_mid (by omega) (by omega) (by omega)]; exact blank_replicate 32)
/-- FlashRots -/
theorem rot_ok {d : Dev} {p k : Nat} (hp : p < d.n) (hk : k < d.pg) (x : UInt8) : rotD d p k x = (0, { d with img := d.img.modify (p * d.pg + k) (· ^^^ x) }) := by
  unfold rotD
  rw [if_neg (by rw [has_nat hp]; simp; omega), Int.toNat_natCast, Int.toNat_natCast]
theorem rot_rot (l : List UInt8) (i : Nat) (x : UInt8) : (l.modify i (· ^^^ x)).modify i (· ^^^ x) = l := by
  apply List.ext_getElem
  · simp
  · intro j h1 h2
    simp only [List.getElem_modify]
    split
    · rename_i h; subst h; simp [UInt8.xor_assoc]
    · rfl
end Go.Proofs.Ytdbfclngllhdlaa.Flash
