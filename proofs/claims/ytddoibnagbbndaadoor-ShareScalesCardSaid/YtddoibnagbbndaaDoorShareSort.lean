/-
  The order of places (the greatest rest first, of equal ones the first); rows as functions; what swaps, rotations, merges of ordered parts leave; ranks. Pure.
-/
import Derived.Test.YtddoibnagbbndaaDoorFixMath
namespace Go.Proofs.YtddoibnagbbndaaDoor
open Go
set_option linter.unusedVariables false

abbrev LtR (R : Nat → Int) (x y : Nat) : Prop := R y < R x ∨ (R x = R y ∧ x < y)
def ltR (R : Nat → Int) (x y : Nat) : Bool := decide (LtR R x y)
theorem ltR_iff {R : Nat → Int} {x y : Nat} : ltR R x y = true ↔ LtR R x y := decide_eq_true_iff
theorem ltR_no {R : Nat → Int} {x y : Nat} : ltR R x y = false ↔ ¬ LtR R x y := decide_eq_false_iff_not
theorem LtR.trans {R : Nat → Int} {x y z : Nat} (h : LtR R x y) (k : LtR R y z) : LtR R x z := by unfold LtR at *; omega
theorem LtR.irrefl {R : Nat → Int} {x : Nat} : ¬ LtR R x x := by unfold LtR; omega
theorem LtR.turn {R : Nat → Int} {x y : Nat} (h : ¬ LtR R x y) (hn : x ≠ y) : LtR R y x := by unfold LtR at *; omega
theorem LtR.asymm {R : Nat → Int} {x y : Nat} (h : LtR R x y) : ¬ LtR R y x := by unfold LtR at *; omega
theorem ltR_cmp {R : Nat → Int} {x y : Nat} (h : y < x) : ltR R x y = decide (R y < R x) := by
  unfold ltR LtR
  by_cases k : R y < R x
  · simp [k]
  · rw [decide_eq_false k]; exact decide_eq_false (by omega)

def swp23 (f : Nat → Nat) (i j : Nat) : Nat → Nat := fun x => if x = i then f j else if x = j then f i else f x
def swF (f : Nat → Nat) (a b n : Nat) : Nat → Nat := fun x => if a ≤ x ∧ x < a + n then f (x - a + b) else if b ≤ x ∧ x < b + n then f (x - b + a) else f x
def roF (f : Nat → Nat) (a m b : Nat) : Nat → Nat := fun x => if a ≤ x ∧ x < a + (b - m) then f (x + (m - a)) else if a + (b - m) ≤ x ∧ x < b then f (x - (b - m)) else f x
def intF (f : Nat → Nat) (n : Nat) : List Int := (List.range n).map fun k => (f k : Int)
theorem intF_len (f : Nat → Nat) (n : Nat) : (intF f n).length = n := by simp [intF]
theorem intF_at (f : Nat → Nat) {n k : Nat} (h : k < n) : (intF f n).getD k 0 = (f k : Int) := by
  unfold intF
  rw [List.getD_eq_getElem?_getD, List.getElem?_map, List.getElem?_range h]; rfl
theorem intF_same {f g : Nat → Nat} {n : Nat} (h : ∀ x, x < n → f x = g x) : intF f n = intF g n := by
  unfold intF
  exact List.map_congr_left fun x hx => by rw [h x (List.mem_range.1 hx)]
theorem intF_set (f : Nat → Nat) (n i v : Nat) : (intF f n).set i (v : Int) = intF (fun x => if x = i then v else f x) n := by
  unfold intF
  refine List.ext_getElem (by simp) fun k h1 h2 => ?_
  simp only [List.length_set, List.length_map, List.length_range] at h1
  rw [List.getElem_set]
  simp only [List.getElem_map, List.getElem_range]
  by_cases e : i = k
  · subst e; simp
  · rw [if_neg e, if_neg (fun q => e q.symm)]
theorem intF_swap (f : Nat → Nat) (n i j : Nat) : ((intF f n).set i (f j : Int)).set j (f i : Int) = intF (swp23 f i j) n := by
  rw [intF_set, intF_set]
  refine intF_same fun x _ => ?_
  unfold swp23
  by_cases h : x = j
  · subst h
    by_cases h2 : x = i
    · subst h2; simp
    · simp [h2]
  · simp [h]
theorem sw_zero (f : Nat → Nat) (a b : Nat) : swF f a b 0 = f := by
  funext x
  unfold swF
  rw [if_neg (by omega), if_neg (by omega)]
theorem sw_at_l (f : Nat → Nat) {a b k : Nat} (h : a + k < b) : swF f a b k (a + k) = f (a + k) := by
  unfold swF
  rw [if_neg (by omega), if_neg (by omega)]
theorem sw_at_r (f : Nat → Nat) {a b k : Nat} (h : a + k < b) : swF f a b k (b + k) = f (b + k) := by
  unfold swF
  rw [if_neg (by omega), if_neg (by omega)]
theorem sw_step (f : Nat → Nat) {a b k : Nat} (h : a + k < b) : swp23 (swF f a b k) (a + k) (b + k) = swF f a b (k + 1) := by
  funext x
  unfold swp23
  rw [sw_at_l f h, sw_at_r f h]
  unfold swF
  by_cases h1 : x = a + k
  · subst h1
    rw [if_pos rfl, if_pos (by omega)]
    congr 1; omega
  · by_cases h2 : x = b + k
    · subst h2
      rw [if_neg h1, if_pos rfl, if_neg (by omega), if_pos (by omega)]
      congr 1; omega
    · rw [if_neg h1, if_neg h2]
      by_cases h3 : a ≤ x ∧ x < a + k
      · rw [if_pos h3, if_pos (by omega)]
      · rw [if_neg h3, if_neg (c := a ≤ x ∧ x < a + (k + 1)) (by omega)]
        by_cases h4 : b ≤ x ∧ x < b + k
        · rw [if_pos h4, if_pos (by omega)]
        · rw [if_neg h4, if_neg (by omega)]
theorem ro_none_l (f : Nat → Nat) (a b : Nat) : roF f a a b = f := by
  funext x
  unfold roF
  by_cases h : a ≤ x ∧ x < a + (b - a)
  · rw [if_pos h]; congr 1; omega
  · rw [if_neg h, if_neg (by omega)]
theorem ro_none_r (f : Nat → Nat) (a m : Nat) (h : a ≤ m) : roF f a m m = f := by
  funext x
  unfold roF
  rw [if_neg (by omega)]
  by_cases h : a + (m - m) ≤ x ∧ x < m
  · rw [if_pos h]; congr 1; omega
  · rw [if_neg h]
/-- parts of one length change places. -/
theorem ro_even (f : Nat → Nat) {m i : Nat} (h : i ≤ m) : roF f (m - i) m (m + i) = swF f (m - i) m i := by
  funext x
  unfold roF swF
  by_cases h1 : m - i ≤ x ∧ x < m - i + i
  · rw [if_pos (by omega), if_pos h1]; congr 1; omega
  · rw [if_neg (by omega), if_neg h1]
    by_cases h2 : m ≤ x ∧ x < m + i
    · rw [if_pos (by omega), if_pos h2]; congr 1; omega
    · rw [if_neg (by omega), if_neg h2]
theorem ro_more (f : Nat → Nat) {m i j : Nat} (h : i ≤ m) (hij : j < i) : roF (swF f (m - i) m j) (m - (i - j)) m (m + j) = roF f (m - i) m (m + j) := by
  funext x
  unfold roF swF
  by_cases h1 : m - i ≤ x ∧ x < m - i + j
  · rw [if_neg (by omega), if_neg (by omega), if_pos (by omega), if_pos (by omega)]; congr 1; omega
  · by_cases h2 : m - (i - j) ≤ x ∧ x < m - (i - j) + (m + j - m)
    · rw [if_pos h2]
      by_cases h3 : m - i ≤ x + (m - (m - (i - j))) ∧ x + (m - (m - (i - j))) < m - i + j
      · omega
      · rw [if_neg h3, if_pos (by omega), if_neg (by omega), if_pos (by omega)]; congr 1; omega
    · rw [if_neg h2]
      by_cases h4 : m - (i - j) + (m + j - m) ≤ x ∧ x < m + j
      · rw [if_pos h4, if_neg (by omega), if_neg (by omega), if_neg (by omega), if_pos (by omega)]
      · rw [if_neg h4, if_neg (by omega), if_neg (by omega), if_neg (by omega), if_neg (by omega)]
theorem ro_less (f : Nat → Nat) {m i j : Nat} (h : i ≤ m) (hij : i < j) : roF (swF f (m - i) (m + j - i) i) (m - i) m (m + (j - i)) = roF f (m - i) m (m + j) := by
  funext x
  unfold roF swF
  by_cases h1 : m - i ≤ x ∧ x < m - i + (m + (j - i) - m)
  · rw [if_pos h1, if_pos (c := m - i ≤ x ∧ x < m - i + (m + j - m)) (by omega)]
    by_cases h3 : m - i ≤ x + (m - (m - i)) ∧ x + (m - (m - i)) < m - i + i
    · omega
    · rw [if_neg h3, if_neg (by omega)]
  · rw [if_neg h1]
    by_cases h2 : m - i + (m + (j - i) - m) ≤ x ∧ x < m + (j - i)
    · rw [if_pos h2, if_pos (by omega), if_pos (by omega)]; congr 1; omega
    · rw [if_neg h2]
      by_cases h4 : m + j - i ≤ x ∧ x < m + j
      · rw [if_neg (by omega), if_pos (by omega), if_neg (by omega), if_pos (by omega)]; congr 1; omega
      · rw [if_neg (by omega), if_neg (by omega), if_neg (by omega), if_neg (by omega)]

/-- in order from a to b. -/
def SoR (R : Nat → Int) (f : Nat → Nat) (a b : Nat) : Prop := ∀ x y, a ≤ x → x < y → y < b → LtR R (f x) (f y)
/-- g is f, but that from a to b what stands there may stand elsewhere there. -/
def Mix23 (f g : Nat → Nat) (a b : Nat) : Prop := (∀ x, a ≤ x → x < b → ∃ y, a ≤ y ∧ y < b ∧ g x = f y) ∧ ∀ x, ¬ (a ≤ x ∧ x < b) → g x = f x
theorem Mix23.refl (f : Nat → Nat) (a b : Nat) : Mix23 f f a b := ⟨fun x h1 h2 => ⟨x, h1, h2, rfl⟩, fun _ _ => rfl⟩
theorem Mix23.more {f g : Nat → Nat} {a b a' b' : Nat} (h : Mix23 f g a b) (h1 : a' ≤ a) (h2 : b ≤ b') : Mix23 f g a' b' := by
  refine ⟨fun x p q => ?_, fun x p => h.2 x (by omega)⟩
  by_cases e : a ≤ x ∧ x < b
  · obtain ⟨y, y1, y2, y3⟩ := h.1 x e.1 e.2
    exact ⟨y, by omega, by omega, y3⟩
  · exact ⟨x, p, q, h.2 x e⟩
theorem Mix23.trans {f g h : Nat → Nat} {a b : Nat} (p : Mix23 f g a b) (q : Mix23 g h a b) : Mix23 f h a b := by
  refine ⟨fun x x1 x2 => ?_, fun x hx => (q.2 x hx).trans (p.2 x hx)⟩
  obtain ⟨y, y1, y2, y3⟩ := q.1 x x1 x2
  obtain ⟨z, z1, z2, z3⟩ := p.1 y y1 y2
  exact ⟨z, z1, z2, y3.trans z3⟩
theorem Mix23.lt {f g : Nat → Nat} {a b n : Nat} (h : Mix23 f g a b) (hb : b ≤ n) (hf : ∀ x, x < n → f x < n) : ∀ x, x < n → g x < n := fun x hx => by
  by_cases e : a ≤ x ∧ x < b
  · obtain ⟨y, y1, y2, y3⟩ := h.1 x e.1 e.2
    rw [y3]; exact hf y (by omega)
  · rw [h.2 x e]; exact hf x hx
theorem mix_swp (f : Nat → Nat) {a b i j : Nat} (hi : a ≤ i ∧ i < b) (hj : a ≤ j ∧ j < b) : Mix23 f (swp23 f i j) a b := by
  refine ⟨fun x h1 h2 => ?_, fun x h => ?_⟩
  · unfold swp23
    by_cases e : x = i
    · exact ⟨j, hj.1, hj.2, by rw [if_pos e]⟩
    · rw [if_neg e]
      by_cases e2 : x = j
      · exact ⟨i, hi.1, hi.2, by rw [if_pos e2]⟩
      · exact ⟨x, h1, h2, by rw [if_neg e2]⟩
  · unfold swp23
    rw [if_neg (by omega), if_neg (by omega)]
theorem mix_ro (f : Nat → Nat) {a s m e b : Nat} (h1 : a ≤ s) (h2 : s ≤ m) (h3 : m ≤ e) (h4 : e ≤ b) : Mix23 f (roF f s m e) a b := by
  refine ⟨fun x p q => ?_, fun x h => ?_⟩
  · unfold roF
    by_cases c1 : s ≤ x ∧ x < s + (e - m)
    · exact ⟨x + (m - s), by omega, by omega, by rw [if_pos c1]⟩
    · rw [if_neg c1]
      by_cases c2 : s + (e - m) ≤ x ∧ x < e
      · exact ⟨x - (e - m), by omega, by omega, by rw [if_pos c2]⟩
      · exact ⟨x, p, q, by rw [if_neg c2]⟩
  · unfold roF
    rw [if_neg (by omega), if_neg (by omega)]
theorem SoR.less {R : Nat → Int} {f : Nat → Nat} {a b a' b' : Nat} (h : SoR R f a b) (h1 : a ≤ a') (h2 : b' ≤ b) : SoR R f a' b' := fun x y p q r => h x y (by omega) q (by omega)
theorem SoR.none {R : Nat → Int} {f : Nat → Nat} {a b : Nat} (h : b ≤ a + 1) : SoR R f a b := fun x y p q r => by omega

/-- the parts of two runs that are to be merged: from a to s and m to e the lesser ones. -/
structure Cut23 (R : Nat → Int) (f : Nat → Nat) (a s m e b : Nat) : Prop where
  h1 : a ≤ s
  h2 : s ≤ m
  h3 : m ≤ e
  h4 : e ≤ b
  so1 : SoR R f a m
  so2 : SoR R f m b
  le : ∀ x y, a ≤ x → x < s → e ≤ y → y < b → LtR R (f x) (f y)
  ge : ∀ x y, m ≤ y → y < e → s ≤ x → x < m → LtR R (f y) (f x)
section
variable {R : Nat → Int} {f : Nat → Nat} {a s m e b : Nat}
theorem ro_lo (h2 : s ≤ m) {x : Nat} (h : x < s) : roF f s m e x = f x := by unfold roF; rw [if_neg (by omega), if_neg (by omega)]
theorem ro_hi (h2 : s ≤ m) (h3 : m ≤ e) {x : Nat} (h : e ≤ x) : roF f s m e x = f x := by unfold roF; rw [if_neg (by omega), if_neg (by omega)]
theorem ro_m1 {x : Nat} (h : s ≤ x ∧ x < s + (e - m)) : roF f s m e x = f (x + (m - s)) := by unfold roF; rw [if_pos h]
theorem ro_m2 {x : Nat} (h : s + (e - m) ≤ x ∧ x < e) : roF f s m e x = f (x - (e - m)) := by unfold roF; rw [if_neg (by omega), if_pos h]
theorem Cut23.parts (h : Cut23 R f a s m e b) : SoR R (roF f s m e) a s ∧ SoR R (roF f s m e) s (s + (e - m)) ∧ SoR R (roF f s m e) (s + (e - m)) e ∧ SoR R (roF f s m e) e b := by
  have := h.h1; have := h.h2; have := h.h3; have := h.h4
  refine ⟨fun x y p q r => ?_, fun x y p q r => ?_, fun x y p q r => ?_, fun x y p q r => ?_⟩
  · rw [ro_lo h.h2 (by omega), ro_lo h.h2 (by omega)]; exact h.so1 x y p q (by omega)
  · rw [ro_m1 (by omega), ro_m1 (by omega)]; exact h.so2 _ _ (by omega) (by omega) (by omega)
  · rw [ro_m2 (by omega), ro_m2 (by omega)]; exact h.so1 _ _ (by omega) (by omega) (by omega)
  · rw [ro_hi h.h2 h.h3 (by omega), ro_hi h.h2 h.h3 (by omega)]; exact h.so2 _ _ (by omega) (by omega) (by omega)
theorem Cut23.cross (h : Cut23 R f a s m e b) {x y : Nat} (h1 : a ≤ x) (h2 : x < s + (e - m)) (h3 : s + (e - m) ≤ y) (h4 : y < b) : LtR R (roF f s m e x) (roF f s m e y) := by
  have := h.h1; have := h.h2; have := h.h3; have := h.h4
  by_cases c1 : x < s
  · rw [ro_lo h.h2 c1]
    by_cases c2 : y < e
    · rw [ro_m2 (by omega)]; exact h.so1 _ _ h1 (by omega) (by omega)
    · rw [ro_hi h.h2 h.h3 (by omega)]; exact h.le _ _ h1 c1 (by omega) h4
  · rw [ro_m1 (by omega)]
    by_cases c2 : y < e
    · rw [ro_m2 (by omega)]; exact h.ge _ _ (by omega) (by omega) (by omega) (by omega)
    · rw [ro_hi h.h2 h.h3 (by omega)]; exact h.so2 _ _ (by omega) (by omega) (by omega)
/-- behind both merges all is in order. -/
theorem Cut23.done (h : Cut23 R f a s m e b) {g1 g2 : Nat → Nat} (m1 : Mix23 (roF f s m e) g1 a (s + (e - m))) (s1 : SoR R g1 a (s + (e - m))) (m2 : Mix23 g1 g2 (s + (e - m)) b) (s2 : SoR R g2 (s + (e - m)) b) : Mix23 f g2 a b ∧ SoR R g2 a b := by
  have i1 := h.h1; have i2 := h.h2; have i3 := h.h3; have i4 := h.h4
  refine ⟨((mix_ro f h.h1 h.h2 h.h3 h.h4).trans (m1.more (Nat.le_refl _) (by omega))).trans (m2.more (by omega) (Nat.le_refl _)), fun x y p q r => ?_⟩
  by_cases c1 : s + (e - m) ≤ x
  · exact s2 x y c1 q r
  · by_cases c2 : y < s + (e - m)
    · rw [m2.2 x (by omega), m2.2 y (by omega)]; exact s1 x y p q c2
    · obtain ⟨y', y1, y2, y3⟩ := m2.1 y (by omega) r
      rw [y3, m1.2 y' (by omega), m2.2 x (by omega)]
      obtain ⟨x', x1, x2, x3⟩ := m1.1 x p (by omega)
      rw [x3]
      exact h.cross x1 x2 y1 y2
/-- what the two merges are handed. -/
theorem Cut23.left (h : Cut23 R f a s m e b) (hx : ∀ x y, a ≤ x → x < m → m ≤ y → y < b → f x < f y) : ∀ x y, a ≤ x → x < s → s ≤ y → y < s + (e - m) → roF f s m e x < roF f s m e y := fun x y p q r t => by
  have := h.h1; have := h.h2; have := h.h3; have := h.h4
  rw [ro_lo h.h2 q, ro_m1 (by omega)]; exact hx _ _ p (by omega) (by omega) (by omega)
theorem Cut23.right (h : Cut23 R f a s m e b) (hx : ∀ x y, a ≤ x → x < m → m ≤ y → y < b → f x < f y) : ∀ x y, s + (e - m) ≤ x → x < e → e ≤ y → y < b → roF f s m e x < roF f s m e y := fun x y p q r t => by
  have := h.h1; have := h.h2; have := h.h3; have := h.h4
  rw [ro_m2 (by omega), ro_hi h.h2 h.h3 (by omega)]; exact hx _ _ (by omega) (by omega) (by omega) (by omega)
/-- one number of the left run: e is the first behind it. -/
theorem one_left (hx : ∀ y, a + 1 ≤ y → y < b → f a < f y) (so2 : SoR R f (a + 1) b) (h3 : a + 1 ≤ e) (h4 : e ≤ b) (lo : ∀ y, a + 1 ≤ y → y < e → LtR R (f y) (f a)) (hi : e < b → ¬ LtR R (f e) (f a)) : Mix23 f (roF f a (a + 1) e) a b ∧ SoR R (roF f a (a + 1) e) a b := by
  have hc : Cut23 R f a a (a + 1) e b := ⟨Nat.le_refl _, by omega, h3, h4, SoR.none (by omega), so2, fun x y p q => by omega, fun x y p q r t => by
    obtain rfl : x = a := by omega
    exact lo y p q⟩
  refine ⟨mix_ro f (Nat.le_refl _) (by omega) h3 h4, fun x y p q r => ?_⟩
  by_cases c1 : x < a + (e - (a + 1))
  · by_cases c2 : y < a + (e - (a + 1))
    · exact hc.parts.2.1 x y p q c2
    · exact hc.cross p c1 (by omega) r
  · by_cases c2 : e ≤ x
    · exact hc.parts.2.2.2 x y c2 q r
    · rw [ro_m2 (by omega), ro_hi (by omega) h3 (by omega)]
      have e1 : x - (e - (a + 1)) = a := by omega
      rw [e1]
      have h5 : LtR R (f a) (f e) := LtR.turn (hi (by omega)) (by have := hx e (by omega) (by omega); omega)
      by_cases c3 : y = e
      · subst c3; exact h5
      · exact h5.trans (so2 e y (by omega) (by omega) r)
/-- one number of the right run: s is the first that it is ahead of. -/
theorem one_right (hx : ∀ y, a ≤ y → y < m → f y < f m) (so1 : SoR R f a m) (h1 : a ≤ s) (h2 : s ≤ m) (lo : ∀ y, a ≤ y → y < s → ¬ LtR R (f m) (f y)) (hi : ∀ y, s ≤ y → y < m → LtR R (f m) (f y)) : Mix23 f (roF f s m (m + 1)) a (m + 1) ∧ SoR R (roF f s m (m + 1)) a (m + 1) := by
  have hc : Cut23 R f a s m (m + 1) (m + 1) := ⟨h1, h2, by omega, Nat.le_refl _, so1, SoR.none (by omega), fun x y p q r t => by omega, fun x y p q r t => by
    obtain rfl : y = m := by omega
    exact hi x r t⟩
  refine ⟨mix_ro f h1 h2 (by omega) (Nat.le_refl _), fun x y p q r => ?_⟩
  by_cases c1 : x < s
  · by_cases c2 : y < s
    · exact hc.parts.1 x y p q c2
    · by_cases c3 : y = s
      · subst c3
        rw [ro_lo h2 c1, ro_m1 (by omega)]
        have e1 : y + (m - y) = m := by omega
        rw [e1]
        exact LtR.turn (lo x p c1) (by have := hx x p (by omega); omega)
      · exact hc.cross p (by omega) (by omega) r
  · by_cases c2 : x = s
    · exact hc.cross p (by omega) (by omega) r
    · exact hc.parts.2.2.1 x y (by omega) q r
/-- one number of the left run, its place found by what stands at its ends. -/
theorem one_left' (hx : ∀ y, a + 1 ≤ y → y < b → f a < f y) (so2 : SoR R f (a + 1) b) (h3 : a + 1 ≤ e) (h4 : e ≤ b) (lo : a + 1 < e → LtR R (f (e - 1)) (f a)) (hi : e < b → ¬ LtR R (f e) (f a)) : Mix23 f (roF f a (a + 1) e) a b ∧ SoR R (roF f a (a + 1) e) a b :=
  one_left hx so2 h3 h4 (fun y p q => by
    have h5 := lo (by omega)
    by_cases c : y = e - 1
    · rw [c]; exact h5
    · exact (so2 y (e - 1) p (by omega) (by omega)).trans h5) hi
theorem one_right' (hx : ∀ y, a ≤ y → y < m → f y < f m) (so1 : SoR R f a m) (h1 : a ≤ s) (h2 : s ≤ m) (lo : a < s → ¬ LtR R (f m) (f (s - 1))) (hi : s < m → LtR R (f m) (f s)) : Mix23 f (roF f s m (m + 1)) a (m + 1) ∧ SoR R (roF f s m (m + 1)) a (m + 1) :=
  one_right hx so1 h1 h2 (fun y p q h => by
    have h5 := lo (by omega)
    by_cases c : y = s - 1
    · rw [c] at h; exact h5 h
    · exact h5 (h.trans (so1 y (s - 1) p (by omega) (by omega)))) (fun y p q => by
    have h5 := hi (by omega)
    by_cases c : y = s
    · rw [c]; exact h5
    · exact h5.trans (so1 s y h1 (by omega) q))
theorem ro_up (f : Nat → Nat) {a k : Nat} (h : a ≤ k) : swp23 (roF f a (a + 1) (k + 1)) k (k + 1) = roF f a (a + 1) (k + 1 + 1) := by
  have e1 : roF f a (a + 1) (k + 1) k = f a := by unfold roF; rw [if_neg (by omega), if_pos (by omega)]; congr 1; omega
  have e2 : roF f a (a + 1) (k + 1) (k + 1) = f (k + 1) := by unfold roF; rw [if_neg (by omega), if_neg (by omega)]
  funext x
  unfold swp23
  rw [e1, e2]
  unfold roF
  by_cases c1 : x = k
  · subst c1; rw [if_pos rfl, if_pos (by omega)]; congr 1; omega
  · rw [if_neg c1]
    by_cases c2 : x = k + 1
    · subst c2; rw [if_pos rfl, if_neg (by omega), if_pos (by omega)]; congr 1; omega
    · rw [if_neg c2]
      by_cases c3 : a ≤ x ∧ x < a + (k + 1 - (a + 1))
      · rw [if_pos c3, if_pos (by omega)]
      · rw [if_neg c3, if_neg (by omega), if_neg (by omega), if_neg (by omega)]
theorem ro_down (f : Nat → Nat) {m k : Nat} (h : k < m) : swp23 (roF f (k + 1) m (m + 1)) (k + 1) k = roF f k m (m + 1) := by
  have e1 : roF f (k + 1) m (m + 1) (k + 1) = f m := by unfold roF; rw [if_pos (by omega)]; congr 1; omega
  have e2 : roF f (k + 1) m (m + 1) k = f k := by unfold roF; rw [if_neg (by omega), if_neg (by omega)]
  funext x
  unfold swp23
  rw [e1, e2]
  unfold roF
  by_cases c1 : x = k + 1
  · subst c1; rw [if_pos rfl, if_neg (by omega), if_pos (by omega)]; congr 1; omega
  · rw [if_neg c1]
    by_cases c2 : x = k
    · subst c2; rw [if_pos rfl, if_pos (by omega)]; congr 1; omega
    · rw [if_neg c2]
      by_cases c3 : k + 1 + (m + 1 - m) ≤ x ∧ x < m + 1
      · rw [if_neg (by omega), if_pos c3, if_neg (by omega), if_pos (by omega)]
      · rw [if_neg (by omega), if_neg c3, if_neg (by omega), if_neg (by omega)]
/-- what the search in both runs finds. -/
theorem cut_found {c0 c1 : Nat} (hx : ∀ x y, a ≤ x → x < m → m ≤ y → y < b → f x < f y) (so1 : SoR R f a m) (so2 : SoR R f m b) (ham : a < m) (hmb : m < b)
    {mid n : Nat} (hmid : mid = (a + b) / 2) (hn : n = mid + m) (hc : (mid < m ∧ c0 = n - b ∧ c1 = mid) ∨ (m ≤ mid ∧ c0 = a ∧ c1 = m)) (hs0 : c0 ≤ s) (hs1 : s ≤ c1) (he : e = n - s)
    (lo : c0 < s → ¬ LtR R (f (n - 1 - (s - 1))) (f (s - 1))) (hi : s < c1 → LtR R (f (n - 1 - s)) (f s)) :
    Cut23 R f a s m e b ∧ s + (e - m) = mid ∧ a < mid ∧ mid < b ∧ s ≤ mid ∧ mid ≤ e := by
  have k1 : a ≤ s ∧ s ≤ m ∧ m ≤ e ∧ e ≤ b := by omega
  refine ⟨⟨k1.1, k1.2.1, k1.2.2.1, k1.2.2.2, so1, so2, fun x y p q r t => ?_, fun x y p q r t => ?_⟩, by omega, by omega, by omega, by omega, by omega⟩
  · have h5 := lo (by omega)
    have h6 : LtR R (f (s - 1)) (f (n - 1 - (s - 1))) := LtR.turn h5 (by have := hx (s - 1) (n - 1 - (s - 1)) (by omega) (by omega) (by omega) (by omega); omega)
    have h7 : LtR R (f x) (f (n - 1 - (s - 1))) := by
      by_cases c : x = s - 1
      · rw [c]; exact h6
      · exact (so1 x (s - 1) p (by omega) (by omega)).trans h6
    by_cases c : y = n - 1 - (s - 1)
    · rw [c]; exact h7
    · exact h7.trans (so2 _ y (by omega) (by omega) t)
  · have h5 := hi (by omega)
    have h6 : LtR R (f y) (f s) := by
      by_cases c : y = n - 1 - s
      · rw [c]; exact h5
      · exact (so2 y _ p (by omega) (by omega)).trans h5
    by_cases c : x = s
    · rw [c]; exact h6
    · exact h6.trans (so1 s x (by omega) (by omega) t)
end

/-! One that is put into its place: from i down to j. -/
structure InsI (R : Nat → Int) (f h : Nat → Nat) (a i j : Nat) : Prop where
  mix : Mix23 f h a (i + 1)
  val : h j = f i
  oth : ∀ x, a ≤ x → x ≤ i → x ≠ j → h x < f i
  so : ∀ x y, a ≤ x → x < y → y ≤ i → x ≠ j → y ≠ j → LtR R (h x) (h y)
  up : ∀ y, j < y → y ≤ i → LtR R (h j) (h y)
section
variable {R : Nat → Int} {f g h : Nat → Nat} {a b i j : Nat}
theorem ins_first (hm : Mix23 f g a i) (hs : SoR R g a i) (hf : ∀ x, a ≤ x → x < i → f x < f i) : InsI R f g a i i := by
  refine ⟨hm.more (Nat.le_refl _) (by omega), hm.2 i (by omega), fun x p q r => ?_, fun x y p q r t u => hs x y p q (by omega), fun y p q => by omega⟩
  obtain ⟨z, z1, z2, z3⟩ := hm.1 x p (by omega)
  rw [z3]; exact hf z z1 z2
theorem InsI.step (q : InsI R f h a i (j + 1)) (ha : a ≤ j) (hj : j < i) (hl : LtR R (h (j + 1)) (h j)) : InsI R f (swp23 h (j + 1) j) a i j := by
  have s1 : swp23 h (j + 1) j (j + 1) = h j := by unfold swp23; rw [if_pos rfl]
  have s2 : swp23 h (j + 1) j j = h (j + 1) := by unfold swp23; rw [if_neg (by omega), if_pos rfl]
  have s3 : ∀ x, x ≠ j → x ≠ j + 1 → swp23 h (j + 1) j x = h x := fun x p r => by unfold swp23; rw [if_neg r, if_neg p]
  refine ⟨q.mix.trans (mix_swp h (by omega) (by omega)), s2.trans q.val, fun x p r t => ?_, fun x y p r t u v => ?_, fun y p r => ?_⟩
  · by_cases c : x = j + 1
    · rw [c, s1]; exact q.oth j ha (by omega) (by omega)
    · rw [s3 x t c]; exact q.oth x p r c
  · by_cases c : x = j + 1
    · rw [c, s1, s3 y (by omega) (by omega)]; exact q.so j y ha (by omega) t (by omega) (by omega)
    · by_cases c2 : y = j + 1
      · rw [c2, s1, s3 x u c]; exact q.so x j p (by omega) (by omega) c (by omega)
      · rw [s3 x u c, s3 y v c2]; exact q.so x y p r t c c2
  · rw [s2]
    by_cases c : y = j + 1
    · rw [c, s1]; exact hl
    · rw [s3 y (by omega) c]; exact q.up y (by omega) r
theorem InsI.stop (q : InsI R f h a i j) (ha : a ≤ j) (hj : j ≤ i) (hl : a < j → ¬ LtR R (h j) (h (j - 1))) : Mix23 f h a (i + 1) ∧ SoR R h a (i + 1) := by
  refine ⟨q.mix, fun x y p r t => ?_⟩
  by_cases c : x = j
  · subst c; exact q.up y r (by omega)
  · by_cases c2 : y = j
    · subst c2
      have h1 := hl (by omega)
      have h2 : LtR R (h (y - 1)) (h y) := LtR.turn h1 (by have := q.oth (y - 1) (by omega) (by omega) (by omega); rw [q.val]; omega)
      by_cases c3 : x = y - 1
      · rw [c3]; exact h2
      · exact (q.so x (y - 1) p (by omega) (by omega) c (by omega)).trans h2
    · exact q.so x y p r (by omega) c c2
end

/-! Ranks: how many are ahead. -/
def rk (R : Nat → Int) (n i : Nat) : Nat := ((List.range n).filter fun j => ltR R j i).length
section
variable {R : Nat → Int} {n : Nat}
theorem nodup_range' (n : Nat) : (List.range n).Nodup := List.nodup_range
theorem nodup_ahead (i : Nat) : ((List.range n).filter fun j => ltR R j i).Nodup := List.Pairwise.filter _ List.nodup_range
theorem mem_ahead {i j : Nat} : j ∈ (List.range n).filter (fun j => ltR R j i) ↔ j < n ∧ LtR R j i := by rw [List.mem_filter, List.mem_range, ltR_iff]
theorem rk_lt {i j : Nat} (hi : i < n) (h : LtR R i j) : rk R n i < rk R n j := by
  have hn : (((List.range n).filter fun k => ltR R k i) ++ [i]).Nodup := List.nodup_append.2 ⟨nodup_ahead i, List.pairwise_singleton _ _, fun x hx y hy => by
    rw [List.mem_singleton] at hy
    rintro rfl
    subst hy
    exact LtR.irrefl (mem_ahead.1 hx).2⟩
  have := List.Nodup.length_le_of_subset hn (l₂ := (List.range n).filter fun k => ltR R k j) fun x hx => by
    rcases List.mem_append.1 hx with hx | hx
    · exact mem_ahead.2 ⟨(mem_ahead.1 hx).1, (mem_ahead.1 hx).2.trans h⟩
    · rw [List.mem_singleton] at hx; subst hx; exact mem_ahead.2 ⟨hi, h⟩
  rw [List.length_append, List.length_singleton] at this
  exact this
theorem rk_n {i : Nat} (hi : i < n) : rk R n i < n := by
  have hn : (((List.range n).filter fun k => ltR R k i) ++ [i]).Nodup := List.nodup_append.2 ⟨nodup_ahead i, List.pairwise_singleton _ _, fun x hx y hy => by
    rw [List.mem_singleton] at hy
    rintro rfl
    subst hy
    exact LtR.irrefl (mem_ahead.1 hx).2⟩
  have := List.Nodup.length_le_of_subset hn (l₂ := List.range n) fun x hx => by
    rcases List.mem_append.1 hx with hx | hx
    · exact List.mem_range.2 (mem_ahead.1 hx).1
    · rw [List.mem_singleton] at hx; subst hx; exact List.mem_range.2 hi
  rw [List.length_append, List.length_singleton, List.length_range] at this
  exact this
theorem rk_inj {i j : Nat} (hi : i < n) (hj : j < n) (h : rk R n i = rk R n j) : i = j := by
  by_cases e : i = j
  · exact e
  · by_cases c : LtR R i j
    · have := rk_lt hi c; omega
    · have := rk_lt hj (LtR.turn c e); omega
/-- in order: each stands at its rank. -/
theorem rk_at {f : Nat → Nat} (hf : ∀ x, x < n → f x < n) (hs : SoR R f 0 n) {x : Nat} (hx : x < n) : rk R n (f x) = x := by
  have inj : ∀ p q, p < n → q < n → p ≠ q → f p ≠ f q := fun p q h1 h2 h3 e => by
    by_cases c : p < q
    · have := hs p q (Nat.zero_le _) c h2; rw [e] at this; exact LtR.irrefl this
    · have := hs q p (Nat.zero_le _) (by omega) h1; rw [e] at this; exact LtR.irrefl this
  have up : x ≤ rk R n (f x) := by
    have hn : ((List.range x).map f).Nodup := List.pairwise_map.2 (List.pairwise_iff_getElem.2 fun p q h1 h2 h3 => by
      rw [List.length_range] at h1 h2
      rw [List.getElem_range, List.getElem_range]
      exact inj p q (by omega) (by omega) (by omega))
    have := List.Nodup.length_le_of_subset hn (l₂ := (List.range n).filter fun k => ltR R k (f x)) fun z hz => by
      obtain ⟨p, hp, rfl⟩ := List.mem_map.1 hz
      rw [List.mem_range] at hp
      exact mem_ahead.2 ⟨hf p (by omega), hs p x (Nat.zero_le _) hp hx⟩
    rw [List.length_map, List.length_range] at this
    exact this
  have dn : rk R n (f x) + (n - x) ≤ n := by
    have hn : (((List.range n).filter fun k => ltR R k (f x)) ++ ((List.range (n - x)).map fun p => f (x + p))).Nodup := by
      refine List.nodup_append.2 ⟨nodup_ahead _, List.pairwise_map.2 (List.pairwise_iff_getElem.2 fun p q h1 h2 h3 => ?_), fun z hz y hy => ?_⟩
      · rw [List.length_range] at h1 h2
        rw [List.getElem_range, List.getElem_range]
        exact inj _ _ (by omega) (by omega) (by omega)
      · obtain ⟨p, hp, rfl⟩ := List.mem_map.1 hy
        rw [List.mem_range] at hp
        rintro rfl
        have h1 := (mem_ahead.1 hz).2
        by_cases c : p = 0
        · subst c; exact LtR.irrefl h1
        · exact LtR.irrefl (h1.trans (hs x (x + p) (Nat.zero_le _) (by omega) (by omega)))
    have := List.Nodup.length_le_of_subset hn (l₂ := List.range n) fun z hz => by
      rcases List.mem_append.1 hz with hz | hz
      · exact List.mem_range.2 (mem_ahead.1 hz).1
      · obtain ⟨p, hp, rfl⟩ := List.mem_map.1 hz
        rw [List.mem_range] at hp
        exact List.mem_range.2 (hf _ (by omega))
    rw [List.length_append, List.length_map, List.length_range, List.length_range] at this
    exact this
  omega
end
end Go.Proofs.YtddoibnagbbndaaDoor
