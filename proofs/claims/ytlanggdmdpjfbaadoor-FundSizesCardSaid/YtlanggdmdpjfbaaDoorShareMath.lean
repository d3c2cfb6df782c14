/-
  The order of places (the greatest rest first, of equal ones the first); rows as functions; what swaps, rotations, merges of ordered parts leave; ranks. Pure.
  Shares: each one's part cut down, what is left to the greatest rests; what they sum to; twice the weights, one, alike ones. Pure.
  What the shares sum to; their order; twice the weights; one weight; weights that are alike. Pure.
-/
import Derived.Test.YtlanggdmdpjfbaaDoorFixMath
namespace Go.Proofs.YtlanggdmdpjfbaaDoor
open Go
set_option linter.unusedVariables false

abbrev LtR (R : Nat → Int) (x y : Nat) : Prop := R y < R x ∨ (R x = R y ∧ x < y)
def ltR (R : Nat → Int) (x y : Nat) : Bool := decide (LtR R x y)
theorem ltR_iff {R : Nat → Int} {x y : Nat} : ltR R x y = true ↔ LtR R x y := decide_eq_true_iff
theorem ltR_no {R : Nat → Int} {x y : Nat} : ltR R x y = false ↔ ¬ LtR R x y := decide_eq_false_iff_not
theorem LtR.trans {R : Nat → Int} {x y z : Nat} (h : LtR R x y) (k : LtR R y z) : LtR R x z := by unfold LtR at *; omega
theorem LtR.irrefl {R : Nat → Int} {x : Nat} : ¬ LtR R x x := by unfold LtR; omega
theorem LtR.turn {R : Nat → Int} {x y : Nat} (h : ¬ LtR R x y) (hn : x ≠ y) : LtR R y x := by unfold LtR at *; omega
theorem LtR.asymm {R : Nat → Int} {x y : Nat} (h : LtR R x y) : ¬ LtR R y x := by unfold LtR at *; omega
theorem ltR_cmp {R : Nat → Int} {x y : Nat} (h : y < x) : ltR R x y = decide (R y < R x) := by
  unfold ltR LtR
  by_cases k : R y < R x
  · simp [k]
  · rw [decide_eq_false k]; exact decide_eq_false (by omega)

def swp23 (f : Nat → Nat) (i j : Nat) : Nat → Nat := fun x => if x = i then f j else if x = j then f i else f x
def swF (f : Nat → Nat) (a b n : Nat) : Nat → Nat := fun x => if a ≤ x ∧ x < a + n then f (x - a + b) else if b ≤ x ∧ x < b + n then f (x - b + a) else f x
def roF (f : Nat → Nat) (a m b : Nat) : Nat → Nat := fun x => if a ≤ x ∧ x < a + (b - m) then f (x + (m - a)) else if a + (b - m) ≤ x ∧ x < b then f (x - (b - m)) else f x
def intF (f : Nat → Nat) (n : Nat) : List Int := (List.range n).map fun k => (f k : Int)
theorem intF_len (f : Nat → Nat) (n : Nat) : (intF f n).length = n := by simp [intF]
theorem intF_at (f : Nat → Nat) {n k : Nat} (h : k < n) : (intF f n).getD k 0 = (f k : Int) := by
  unfold intF
  rw [List.getD_eq_getElem?_getD, List.getElem?_map, List.getElem?_range h]; rfl
theorem intF_same {f g : Nat → Nat} {n : Nat} (h : ∀ x, x < n → f x = g x) : intF f n = intF g n := by
  unfold intF
  exact List.map_congr_left fun x hx => by rw [h x (List.mem_range.1 hx)]
theorem intF_set (f : Nat → Nat) (n i v : Nat) : (intF f n).set i (v : Int) = intF (fun x => if x = i then v else f x) n := by
  unfold intF
  refine List.ext_getElem (by simp) fun k h1 h2 => ?_
  simp only [List.length_set, List.length_map, List.length_range] at h1
  rw [List.getElem_set]
  simp only [List.getElem_map, List.getElem_range]
  by_cases e : i = k
  · subst e; simp
  · rw [if_neg e, if_neg (fun q => e q.symm)]
theorem intF_swap (f : Nat → Nat) (n i j : Nat) : ((intF f n).set i (f j : Int)).set j (f i : Int) = intF (swp23 f i j) n := by
  rw [intF_set, intF_set]
  refine intF_same fun x _ => ?_
  unfold swp23
  by_cases h : x = j
  · subst h
    by_cases h2 : x = i
    · subst h2; simp
    · simp [h2]
  · simp [h]
theorem sw_zero (f : Nat → Nat) (a b : Nat) : swF f a b 0 = f := by
  funext x
  unfold swF
  rw [if_neg (by omega), if_neg (by omega)]
theorem sw_at_l (f : Nat → Nat) {a b k : Nat} (h : a + k < b) : swF f a b k (a + k) = f (a + k) := by
  unfold swF
  rw [if_neg (by omega), if_neg (by omega)]
theorem sw_at_r (f : Nat → Nat) {a b k : Nat} (h : a + k < b) : swF f a b k (b + k) = f (b + k) := by
  unfold swF
  rw [if_neg (by omega), if_neg (by omega)]
theorem sw_step (f : Nat → Nat) {a b k : Nat} (h : a + k < b) : swp23 (swF f a b k) (a + k) (b + k) = swF f a b (k + 1) := by
  funext x
  unfold swp23
  rw [sw_at_l f h, sw_at_r f h]
  unfold swF
  by_cases h1 : x = a + k
  · subst h1
    rw [if_pos rfl, if_pos (by omega)]
    congr 1; omega
  · by_cases h2 : x = b + k
    · subst h2
      rw [if_neg h1, if_pos rfl, if_neg (by omega), if_pos (by omega)]
      congr 1; omega
    · rw [if_neg h1, if_neg h2]
      by_cases h3 : a ≤ x ∧ x < a + k
      · rw [if_pos h3, if_pos (by omega)]
      · rw [if_neg h3, if_neg (c := a ≤ x ∧ x < a + (k + 1)) (by omega)]
        by_cases h4 : b ≤ x ∧ x < b + k
        · rw [if_pos h4, if_pos (by omega)]
        · rw [if_neg h4, if_neg (by omega)]
theorem ro_none_l (f : Nat → Nat) (a b : Nat) : roF f a a b = f := by
  funext x
  unfold roF
  by_cases h : a ≤ x ∧ x < a + (b - a)
  · rw [if_pos h]; congr 1; omega
  · rw [if_neg h, if_neg (by omega)]
theorem ro_none_r (f : Nat → Nat) (a m : Nat) (h : a ≤ m) : roF f a m m = f := by
  funext x
  unfold roF
  rw [if_neg (by omega)]
  by_cases h : a + (m - m) ≤ x ∧ x < m
  · rw [if_pos h]; congr 1; omega
  · rw [if_neg h]
/-- parts of one length change places. -/
theorem ro_even (f : Nat → Nat) {m i : Nat} (h : i ≤ m) : roF f (m - i) m (m + i) = swF f (m - i) m i := by
  funext x
  unfold roF swF
  by_cases h1 : m - i ≤ x ∧ x < m - i + i
  · rw [if_pos (by omega), if_pos h1]; congr 1; omega
  · rw [if_neg (by omega), if_neg h1]
    by_cases h2 : m ≤ x ∧ x < m + i
    · rw [if_pos (by omega), if_pos h2]; congr 1; omega
    · rw [if_neg (by omega), if_neg h2]
theorem ro_more (f : Nat → Nat) {m i j : Nat} (h : i ≤ m) (hij : j < i) : roF (swF f (m - i) m j) (m - (i - j)) m (m + j) = roF f (m - i) m (m + j) := by
  funext x
  unfold roF swF
  by_cases h1 : m - i ≤ x ∧ x < m - i + j
  · rw [if_neg (by omega), if_neg (by omega), if_pos (by omega), if_pos (by omega)]; congr 1; omega
  · by_cases h2 : m - (i - j) ≤ x ∧ x < m - (i - j) + (m + j - m)
    · rw [if_pos h2]
      by_cases h3 : m - i ≤ x + (m - (m - (i - j))) ∧ x + (m - (m - (i - j))) < m - i + j
      · omega
      · rw [if_neg h3, if_pos (by omega), if_neg (by omega), if_pos (by omega)]; congr 1; omega
    · rw [if_neg h2]
      by_cases h4 : m - (i - j) + (m + j - m) ≤ x ∧ x < m + j
      · rw [if_pos h4, if_neg (by omega), if_neg (by omega), if_neg (by omega), if_pos (by omega)]
      · rw [if_neg h4, if_neg (by omega), if_neg (by omega), if_neg (by omega), if_neg (by omega)]
theorem ro_less (f : Nat → Nat) {m i j : Nat} (h : i ≤ m) (hij : i < j) : roF (swF f (m - i) (m + j - i) i) (m - i) m (m + (j - i)) = roF f (m - i) m (m + j) := by
  funext x
  unfold roF swF
  by_cases h1 : m - i ≤ x ∧ x < m - i + (m + (j - i) - m)
  · rw [if_pos h1, if_pos (c := m - i ≤ x ∧ x < m - i + (m + j - m)) (by omega)]
    by_cases h3 : m - i ≤ x + (m - (m - i)) ∧ x + (m - (m - i)) < m - i + i
    · omega
    · rw [if_neg h3, if_neg (by omega)]
  · rw [if_neg h1]
    by_cases h2 : m - i + (m + (j - i) - m) ≤ x ∧ x < m + (j - i)
    · rw [if_pos h2, if_pos (by omega), if_pos (by omega)]; congr 1; omega
    · rw [if_neg h2]
      by_cases h4 : m + j - i ≤ x ∧ x < m + j
      · rw [if_neg (by omega), if_pos (by omega), if_neg (by omega), if_pos (by omega)]; congr 1; omega
      · rw [if_neg (by omega), if_neg (by omega), if_neg (by omega), if_neg (by omega)]

/-- in order from a to b. -/
def SoR (R : Nat → Int) (f : Nat → Nat) (a b : Nat) : Prop := ∀ x y, a ≤ x → x < y → y < b → LtR R (f x) (f y)
/-- g is f, but that from a to b what stands there may stand elsewhere there. -/
def Mix23 (f g : Nat → Nat) (a b : Nat) : Prop := (∀ x, a ≤ x → x < b → ∃ y, a ≤ y ∧ y < b ∧ g x = f y) ∧ ∀ x, ¬ (a ≤ x ∧ x < b) → g x = f x
theorem Mix23.refl (f : Nat → Nat) (a b : Nat) : Mix23 f f a b := ⟨fun x h1 h2 => ⟨x, h1, h2, rfl⟩, fun _ _ => rfl⟩
theorem Mix23.more {f g : Nat → Nat} {a b a' b' : Nat} (h : Mix23 f g a b) (h1 : a' ≤ a) (h2 : b ≤ b') : Mix23 f g a' b' := by
  refine ⟨fun x p q => ?_, fun x p => h.2 x (by omega)⟩
  by_cases e : a ≤ x ∧ x < b
  · obtain ⟨y, y1, y2, y3⟩ := h.1 x e.1 e.2
    exact ⟨y, by omega, by omega, y3⟩
  · exact ⟨x, p, q, h.2 x e⟩
theorem Mix23.trans {f g h : Nat → Nat} {a b : Nat} (p : Mix23 f g a b) (q : Mix23 g h a b) : Mix23 f h a b := by
  refine ⟨fun x x1 x2 => ?_, fun x hx => (q.2 x hx).trans (p.2 x hx)⟩
  obtain ⟨y, y1, y2, y3⟩ := q.1 x x1 x2
  obtain ⟨z, z1, z2, z3⟩ := p.1 y y1 y2
  exact ⟨z, z1, z2, y3.trans z3⟩
theorem Mix23.lt {f g : Nat → Nat} {a b n : Nat} (h : Mix23 f g a b) (hb : b ≤ n) (hf : ∀ x, x < n → f x < n) : ∀ x, x < n → g x < n := fun x hx => by
  by_cases e : a ≤ x ∧ x < b
  · obtain ⟨y, y1, y2, y3⟩ := h.1 x e.1 e.2
    rw [y3]; exact hf y (by omega)
  · rw [h.2 x e]; exact hf x hx
theorem mix_swp (f : Nat → Nat) {a b i j : Nat} (hi : a ≤ i ∧ i < b) (hj : a ≤ j ∧ j < b) : Mix23 f (swp23 f i j) a b := by
  refine ⟨fun x h1 h2 => ?_, fun x h => ?_⟩
  · unfold swp23
    by_cases e : x = i
    · exact ⟨j, hj.1, hj.2, by rw [if_pos e]⟩
    · rw [if_neg e]
      by_cases e2 : x = j
      · exact ⟨i, hi.1, hi.2, by rw [if_pos e2]⟩
      · exact ⟨x, h1, h2, by rw [if_neg e2]⟩
  · unfold swp23
    rw [if_neg (by omega), if_neg (by omega)]
theorem mix_ro (f : Nat → Nat) {a s m e b : Nat} (h1 : a ≤ s) (h2 : s ≤ m) (h3 : m ≤ e) (h4 : e ≤ b) : Mix23 f (roF f s m e) a b := by
  refine ⟨fun x p q => ?_, fun x h => ?_⟩
  · unfold roF
    by_cases c1 : s ≤ x ∧ x < s + (e - m)
    · exact ⟨x + (m - s), by omega, by omega, by rw [if_pos c1]⟩
    · rw [if_neg c1]
      by_cases c2 : s + (e - m) ≤ x ∧ x < e
      · exact ⟨x - (e - m), by omega, by omega, by rw [if_pos c2]⟩
      · exact ⟨x, p, q, by rw [if_neg c2]⟩
  · unfold roF
    rw [if_neg (by omega), if_neg (by omega)]
theorem SoR.less {R : Nat → Int} {f : Nat → Nat} {a b a' b' : Nat} (h : SoR R f a b) (h1 : a ≤ a') (h2 : b' ≤ b) : SoR R f a' b' := fun x y p q r => h x y (by omega) q (by omega)
theorem SoR.none {R : Nat → Int} {f : Nat → Nat} {a b : Nat} (h : b ≤ a + 1) : SoR R f a b := fun x y p q r => by omega

/-- the parts of two runs that are to be merged: from a to s and m to e the lesser ones. -/
structure Cut23 (R : Nat → Int) (f : Nat → Nat) (a s m e b : Nat) : Prop where
  h1 : a ≤ s
  h2 : s ≤ m
  h3 : m ≤ e
  h4 : e ≤ b
  so1 : SoR R f a m
  so2 : SoR R f m b
  le : ∀ x y, a ≤ x → x < s → e ≤ y → y < b → LtR R (f x) (f y)
  ge : ∀ x y, m ≤ y → y < e → s ≤ x → x < m → LtR R (f y) (f x)
section
variable {R : Nat → Int} {f : Nat → Nat} {a s m e b : Nat}
theorem ro_lo (h2 : s ≤ m) {x : Nat} (h : x < s) : roF f s m e x = f x := by unfold roF; rw [if_neg (by omega), if_neg (by omega)]
theorem ro_hi (h2 : s ≤ m) (h3 : m ≤ e) {x : Nat} (h : e ≤ x) : roF f s m e x = f x := by unfold roF; rw [if_neg (by omega), if_neg (by omega)]
theorem ro_m1 {x : Nat} (h : s ≤ x ∧ x < s + (e - m)) : roF f s m e x = f (x + (m - s)) := by unfold roF; rw [if_pos h]
theorem ro_m2 {x : Nat} (h : s + (e - m) ≤ x ∧ x < e) : roF f s m e x = f (x - (e - m)) := by unfold roF; rw [if_neg (by omega), if_pos h]
theorem Cut23.parts (h : Cut23 R f a s m e b) : SoR R (roF f s m e) a s ∧ SoR R (roF f s m e) s (s + (e - m)) ∧ SoR R (roF f s m e) (s + (e - m)) e ∧ SoR R (roF f s m e) e b := by
  have := h.h1; have := h.h2; have := h.h3; have := h.h4
  refine ⟨fun x y p q r => ?_, fun x y p q r => ?_, fun x y p q r => ?_, fun x y p q r => ?_⟩
  · rw [ro_lo h.h2 (by omega), ro_lo h.h2 (by omega)]; exact h.so1 x y p q (by omega)
  · rw [ro_m1 (by omega), ro_m1 (by omega)]; exact h.so2 _ _ (by omega) (by omega) (by omega)
  · rw [ro_m2 (by omega), ro_m2 (by omega)]; exact h.so1 _ _ (by omega) (by omega) (by omega)
  · rw [ro_hi h.h2 h.h3 (by omega), ro_hi h.h2 h.h3 (by omega)]; exact h.so2 _ _ (by omega) (by omega) (by omega)
theorem Cut23.cross (h : Cut23 R f a s m e b) {x y : Nat} (h1 : a ≤ x) (h2 : x < s + (e - m)) (h3 : s + (e - m) ≤ y) (h4 : y < b) : LtR R (roF f s m e x) (roF f s m e y) := by
  have := h.h1; have := h.h2; have := h.h3; have := h.h4
  by_cases c1 : x < s
  · rw [ro_lo h.h2 c1]
    by_cases c2 : y < e
    · rw [ro_m2 (by omega)]; exact h.so1 _ _ h1 (by omega) (by omega)
    · rw [ro_hi h.h2 h.h3 (by omega)]; exact h.le _ _ h1 c1 (by omega) h4
  · rw [ro_m1 (by omega)]
    by_cases c2 : y < e
    · rw [ro_m2 (by omega)]; exact h.ge _ _ (by omega) (by omega) (by omega) (by omega)
    · rw [ro_hi h.h2 h.h3 (by omega)]; exact h.so2 _ _ (by omega) (by omega) (by omega)
/-- behind both merges all is in order. -/
theorem Cut23.done (h : Cut23 R f a s m e b) {g1 g2 : Nat → Nat} (m1 : Mix23 (roF f s m e) g1 a (s + (e - m))) (s1 : SoR R g1 a (s + (e - m))) (m2 : Mix23 g1 g2 (s + (e - m)) b) (s2 : SoR R g2 (s + (e - m)) b) : Mix23 f g2 a b ∧ SoR R g2 a b := by
  have i1 := h.h1; have i2 := h.h2; have i3 := h.h3; have i4 := h.h4
  refine ⟨((mix_ro f h.h1 h.h2 h.h3 h.h4).trans (m1.more (Nat.le_refl _) (by omega))).trans (m2.more (by omega) (Nat.le_refl _)), fun x y p q r => ?_⟩
  by_cases c1 : s + (e - m) ≤ x
  · exact s2 x y c1 q r
  · by_cases c2 : y < s + (e - m)
    · rw [m2.2 x (by omega), m2.2 y (by omega)]; exact s1 x y p q c2
    · obtain ⟨y', y1, y2, y3⟩ := m2.1 y (by omega) r
      rw [y3, m1.2 y' (by omega), m2.2 x (by omega)]
      obtain ⟨x', x1, x2, x3⟩ := m1.1 x p (by omega)
      rw [x3]
      exact h.cross x1 x2 y1 y2
/-- what the two merges are handed. -/
theorem Cut23.left (h : Cut23 R f a s m e b) (hx : ∀ x y, a ≤ x → x < m → m ≤ y → y < b → f x < f y) : ∀ x y, a ≤ x → x < s → s ≤ y → y < s + (e - m) → roF f s m e x < roF f s m e y := fun x y p q r t => by
  have := h.h1; have := h.h2; have := h.h3; have := h.h4
  rw [ro_lo h.h2 q, ro_m1 (by omega)]; exact hx _ _ p (by omega) (by omega) (by omega)
theorem Cut23.right (h : Cut23 R f a s m e b) (hx : ∀ x y, a ≤ x → x < m → m ≤ y → y < b → f x < f y) : ∀ x y, s + (e - m) ≤ x → x < e → e ≤ y → y < b → roF f s m e x < roF f s m e y := fun x y p q r t => by
  have := h.h1; have := h.h2; have := h.h3; have := h.h4
  rw [ro_m2 (by omega), ro_hi h.h2 h.h3 (by omega)]; exact hx _ _ (by omega) (by omega) (by omega) (by omega)
/-- one number of the left run: e is the first behind it. -/
theorem one_left (hx : ∀ y, a + 1 ≤ y → y < b → f a < f y) (so2 : SoR R f (a + 1) b) (h3 : a + 1 ≤ e) (h4 : e ≤ b) (lo : ∀ y, a + 1 ≤ y → y < e → LtR R (f y) (f a)) (hi : e < b → ¬ LtR R (f e) (f a)) : Mix23 f (roF f a (a + 1) e) a b ∧ SoR R (roF f a (a + 1) e) a b := by
  have hc : Cut23 R f a a (a + 1) e b := ⟨Nat.le_refl _, by omega, h3, h4, SoR.none (by omega), so2, fun x y p q => by omega, fun x y p q r t => by
    obtain rfl : x = a := by omega
    exact lo y p q⟩
  refine ⟨mix_ro f (Nat.le_refl _) (by omega) h3 h4, fun x y p q r => ?_⟩
  by_cases c1 : x < a + (e - (a + 1))
  · by_cases c2 : y < a + (e - (a + 1))
    · exact hc.parts.2.1 x y p q c2
    · exact hc.cross p c1 (by omega) r
  · by_cases c2 : e ≤ x
    · exact hc.parts.2.2.2 x y c2 q r
    · rw [ro_m2 (by omega), ro_hi (by omega) h3 (by omega)]
      have e1 : x - (e - (a + 1)) = a := by omega
      rw [e1]
      have h5 : LtR R (f a) (f e) := LtR.turn (hi (by omega)) (by have := hx e (by omega) (by omega); omega)
      by_cases c3 : y = e
      · subst c3; exact h5
      · exact h5.trans (so2 e y (by omega) (by omega) r)
/-- one number of the right run: s is the first that it is ahead of. -/
theorem one_right (hx : ∀ y, a ≤ y → y < m → f y < f m) (so1 : SoR R f a m) (h1 : a ≤ s) (h2 : s ≤ m) (lo : ∀ y, a ≤ y → y < s → ¬ LtR R (f m) (f y)) (hi : ∀ y, s ≤ y → y < m → LtR R (f m) (f y)) : Mix23 f (roF f s m (m + 1)) a (m + 1) ∧ SoR R (roF f s m (m + 1)) a (m + 1) := by
  have hc : Cut23 R f a s m (m + 1) (m + 1) := ⟨h1, h2, by omega, Nat.le_refl _, so1, SoR.none (by omega), fun x y p q r t => by omega, fun x y p q r t => by
    obtain rfl : y = m := by omega
    exact hi x r t⟩
  refine ⟨mix_ro f h1 h2 (by omega) (Nat.le_refl _), fun x y p q r => ?_⟩
  by_cases c1 : x < s
  · by_cases c2 : y < s
    · exact hc.parts.1 x y p q c2
    · by_cases c3 : y = s
      · subst c3
        rw [ro_lo h2 c1, ro_m1 (by omega)]
        have e1 : y + (m - y) = m := by omega
        rw [e1]
        exact LtR.turn (lo x p c1) (by have := hx x p (by omega); omega)
      · exact hc.cross p (by omega) (by omega) r
  · by_cases c2 : x = s
    · exact hc.cross p (by omega) (by omega) r
    · exact hc.parts.2.2.1 x y (by omega) q r
/-- one number of the left run, its place found by what stands at its ends. -/
theorem one_left' (hx : ∀ y, a + 1 ≤ y → y < b → f a < f y) (so2 : SoR R f (a + 1) b) (h3 : a + 1 ≤ e) (h4 : e ≤ b) (lo : a + 1 < e → LtR R (f (e - 1)) (f a)) (hi : e < b → ¬ LtR R (f e) (f a)) : Mix23 f (roF f a (a + 1) e) a b ∧ SoR R (roF f a (a + 1) e) a b :=
  one_left hx so2 h3 h4 (fun y p q => by
    have h5 := lo (by omega)
    by_cases c : y = e - 1
    · rw [c]; exact h5
    · exact (so2 y (e - 1) p (by omega) (by omega)).trans h5) hi
theorem one_right' (hx : ∀ y, a ≤ y → y < m → f y < f m) (so1 : SoR R f a m) (h1 : a ≤ s) (h2 : s ≤ m) (lo : a < s → ¬ LtR R (f m) (f (s - 1))) (hi : s < m → LtR R (f m) (f s)) : Mix23 f (roF f s m (m + 1)) a (m + 1) ∧ SoR R (roF f s m (m + 1)) a (m + 1) :=
  one_right hx so1 h1 h2 (fun y p q h => by
    have h5 := lo (by omega)
    by_cases c : y = s - 1
    · rw [c] at h; exact h5 h
    · exact h5 (h.trans (so1 y (s - 1) p (by omega) (by omega)))) (fun y p q => by
    have h5 := hi (by omega)
    by_cases c : y = s
    · rw [c]; exact h5
    · exact h5.trans (so1 s y h1 (by omega) q))
theorem ro_up (f : Nat → Nat) {a k : Nat} (h : a ≤ k) : swp23 (roF f a (a + 1) (k + 1)) k (k + 1) = roF f a (a + 1) (k + 1 + 1) := by
  have e1 : roF f a (a + 1) (k + 1) k = f a := by unfold roF; rw [if_neg (by omega), if_pos (by omega)]; congr 1; omega
  have e2 : roF f a (a + 1) (k + 1) (k + 1) = f (k + 1) := by unfold roF; rw [if_neg (by omega), if_neg (by omega)]
  funext x
  unfold swp23
  rw [e1, e2]
  unfold roF
  by_cases c1 : x = k
  · subst c1; rw [if_pos rfl, if_pos (by omega)]; congr 1; omega
  · rw [if_neg c1]
    by_cases c2 : x = k + 1
    · subst c2; rw [if_pos rfl, if_neg (by omega), if_pos (by omega)]; congr 1; omega
    · rw [if_neg c2]
      by_cases c3 : a ≤ x ∧ x < a + (k + 1 - (a + 1))
      · rw [if_pos c3, if_pos (by omega)]
      · rw [if_neg c3, if_neg (by omega), if_neg (by omega), if_neg (by omega)]
theorem ro_down (f : Nat → Nat) {m k : Nat} (h : k < m) : swp23 (roF f (k + 1) m (m + 1)) (k + 1) k = roF f k m (m + 1) := by
  have e1 : roF f (k + 1) m (m + 1) (k + 1) = f m := by unfold roF; rw [if_pos (by omega)]; congr 1; omega
  have e2 : roF f (k + 1) m (m + 1) k = f k := by unfold roF; rw [if_neg (by omega), if_neg (by omega)]
  funext x
  unfold swp23
  rw [e1, e2]
  unfold roF
  by_cases c1 : x = k + 1
  · subst c1; rw [if_pos rfl, if_neg (by omega), if_pos (by omega)]; congr 1; omega
  · rw [if_neg c1]
    by_cases c2 : x = k
    · subst c2; rw [if_pos rfl, if_pos (by omega)]; congr 1; omega
    · rw [if_neg c2]
      by_cases c3 : k + 1 + (m + 1 - m) ≤ x ∧ x < m + 1
      · rw [if_neg (by omega), if_pos c3, if_neg (by omega), if_pos (by omega)]
      · rw [if_neg (by omega), if_neg c3, if_neg (by omega), if_neg (by omega)]
/-- what the search in both runs finds. -/
theorem cut_found {c0 c1 : Nat} (hx : ∀ x y, a ≤ x → x < m → m ≤ y → y < b → f x < f y) (so1 : SoR R f a m) (so2 : SoR R f m b) (ham : a < m) (hmb : m < b)
    {mid n : Nat} (hmid : mid = (a + b) / 2) (hn : n = mid + m) (hc : (mid < m ∧ c0 = n - b ∧ c1 = mid) ∨ (m ≤ mid ∧ c0 = a ∧ c1 = m)) (hs0 : c0 ≤ s) (hs1 : s ≤ c1) (he : e = n - s)
    (lo : c0 < s → ¬ LtR R (f (n - 1 - (s - 1))) (f (s - 1))) (hi : s < c1 → LtR R (f (n - 1 - s)) (f s)) :
    Cut23 R f a s m e b ∧ s + (e - m) = mid ∧ a < mid ∧ mid < b ∧ s ≤ mid ∧ mid ≤ e := by
  have k1 : a ≤ s ∧ s ≤ m ∧ m ≤ e ∧ e ≤ b := by omega
  refine ⟨⟨k1.1, k1.2.1, k1.2.2.1, k1.2.2.2, so1, so2, fun x y p q r t => ?_, fun x y p q r t => ?_⟩, by omega, by omega, by omega, by omega, by omega⟩
  · have h5 := lo (by omega)
    have h6 : LtR R (f (s - 1)) (f (n - 1 - (s - 1))) := LtR.turn h5 (by have := hx (s - 1) (n - 1 - (s - 1)) (by omega) (by omega) (by omega) (by omega); omega)
    have h7 : LtR R (f x) (f (n - 1 - (s - 1))) := by
      by_cases c : x = s - 1
      · rw [c]; exact h6
      · exact (so1 x (s - 1) p (by omega) (by omega)).trans h6
    by_cases c : y = n - 1 - (s - 1)
    · rw [c]; exact h7
    · exact h7.trans (so2 _ y (by omega) (by omega) t)
  · have h5 := hi (by omega)
    have h6 : LtR R (f y) (f s) := by
      by_cases c : y = n - 1 - s
      · rw [c]; exact h5
      · exact (so2 y _ p (by omega) (by omega)).trans h5
    by_cases c : x = s
    · rw [c]; exact h6
    · exact h6.trans (so1 s x (by omega) (by omega) t)
end

/-! One that is put into its place: from i down to j. -/
structure InsI (R : Nat → Int) (f h : Nat → Nat) (a i j : Nat) : Prop where
  mix : Mix23 f h a (i + 1)
  val : h j = f i
  oth : ∀ x, a ≤ x → x ≤ i → x ≠ j → h x < f i
  so : ∀ x y, a ≤ x → x < y → y ≤ i → x ≠ j → y ≠ j → LtR R (h x) (h y)
  up : ∀ y, j < y → y ≤ i → LtR R (h j) (h y)
section
variable {R : Nat → Int} {f g h : Nat → Nat} {a b i j : Nat}
theorem ins_first (hm : Mix23 f g a i) (hs : SoR R g a i) (hf : ∀ x, a ≤ x → x < i → f x < f i) : InsI R f g a i i := by
  refine ⟨hm.more (Nat.le_refl _) (by omega), hm.2 i (by omega), fun x p q r => ?_, fun x y p q r t u => hs x y p q (by omega), fun y p q => by omega⟩
  obtain ⟨z, z1, z2, z3⟩ := hm.1 x p (by omega)
  rw [z3]; exact hf z z1 z2
theorem InsI.step (q : InsI R f h a i (j + 1)) (ha : a ≤ j) (hj : j < i) (hl : LtR R (h (j + 1)) (h j)) : InsI R f (swp23 h (j + 1) j) a i j := by
  have s1 : swp23 h (j + 1) j (j + 1) = h j := by unfold swp23; rw [if_pos rfl]
  have s2 : swp23 h (j + 1) j j = h (j + 1) := by unfold swp23; rw [if_neg (by omega), if_pos rfl]
  have s3 : ∀ x, x ≠ j → x ≠ j + 1 → swp23 h (j + 1) j x = h x := fun x p r => by unfold swp23; rw [if_neg r, if_neg p]
  refine ⟨q.mix.trans (mix_swp h (by omega) (by omega)), s2.trans q.val, fun x p r t => ?_, fun x y p r t u v => ?_, fun y p r => ?_⟩
  · by_cases c : x = j + 1
    · rw [c, s1]; exact q.oth j ha (by omega) (by omega)
    · rw [s3 x t c]; exact q.oth x p r c
  · by_cases c : x = j + 1
    · rw [c, s1, s3 y (by omega) (by omega)]; exact q.so j y ha (by omega) t (by omega) (by omega)
    · by_cases c2 : y = j + 1
      · rw [c2, s1, s3 x u c]; exact q.so x j p (by omega) (by omega) c (by omega)
      · rw [s3 x u c, s3 y v c2]; exact q.so x y p r t c c2
  · rw [s2]
    by_cases c : y = j + 1
    · rw [c, s1]; exact hl
    · rw [s3 y (by omega) c]; exact q.up y (by omega) r
theorem InsI.stop (q : InsI R f h a i j) (ha : a ≤ j) (hj : j ≤ i) (hl : a < j → ¬ LtR R (h j) (h (j - 1))) : Mix23 f h a (i + 1) ∧ SoR R h a (i + 1) := by
  refine ⟨q.mix, fun x y p r t => ?_⟩
  by_cases c : x = j
  · subst c; exact q.up y r (by omega)
  · by_cases c2 : y = j
    · subst c2
      have h1 := hl (by omega)
      have h2 : LtR R (h (y - 1)) (h y) := LtR.turn h1 (by have := q.oth (y - 1) (by omega) (by omega) (by omega); rw [q.val]; omega)
      by_cases c3 : x = y - 1
      · rw [c3]; exact h2
      · exact (q.so x (y - 1) p (by omega) (by omega) c (by omega)).trans h2
    · exact q.so x y p r (by omega) c c2
end

/-! Ranks: how many are ahead. -/
def rk (R : Nat → Int) (n i : Nat) : Nat := ((List.range n).filter fun j => ltR R j i).length
section
variable {R : Nat → Int} {n : Nat}
theorem nodup_range' (n : Nat) : (List.range n).Nodup := List.nodup_range
theorem nodup_ahead (i : Nat) : ((List.range n).filter fun j => ltR R j i).Nodup := List.Pairwise.filter _ List.nodup_range
theorem mem_ahead {i j : Nat} : j ∈ (List.range n).filter (fun j => ltR R j i) ↔ j < n ∧ LtR R j i := by rw [List.mem_filter, List.mem_range, ltR_iff]
theorem rk_lt {i j : Nat} (hi : i < n) (h : LtR R i j) : rk R n i < rk R n j := by
  have hn : (((List.range n).filter fun k => ltR R k i) ++ [i]).Nodup := List.nodup_append.2 ⟨nodup_ahead i, List.pairwise_singleton _ _, fun x hx y hy => by
    rw [List.mem_singleton] at hy
    rintro rfl
    subst hy
    exact LtR.irrefl (mem_ahead.1 hx).2⟩
  have := List.Nodup.length_le_of_subset hn (l₂ := (List.range n).filter fun k => ltR R k j) fun x hx => by
    rcases List.mem_append.1 hx with hx | hx
    · exact mem_ahead.2 ⟨(mem_ahead.1 hx).1, (mem_ahead.1 hx).2.trans h⟩
    · rw [List.mem_singleton] at hx; subst hx; exact mem_ahead.2 ⟨hi, h⟩
  rw [List.length_append, List.length_singleton] at this
  exact this
theorem rk_n {i : Nat} (hi : i < n) : rk R n i < n := by
  have hn : (((List.range n).filter fun k => ltR R k i) ++ [i]).Nodup := List.nodup_append.2 ⟨nodup_ahead i, List.pairwise_singleton _ _, fun x hx y hy => by
    rw [List.mem_singleton] at hy
    rintro rfl
    subst hy
    exact LtR.irrefl (mem_ahead.1 hx).2⟩
  have := List.Nodup.length_le_of_subset hn (l₂ := List.range n) fun x hx => by
    rcases List.mem_append.1 hx with hx | hx
    · exact List.mem_range.2 (mem_ahead.1 hx).1
    · rw [List.mem_singleton] at hx; subst hx; exact List.mem_range.2 hi
  rw [List.length_append, List.length_singleton, List.length_range] at this
  exact this
theorem rk_inj {i j : Nat} (hi : i < n) (hj : j < n) (h : rk R n i = rk R n j) : i = j := by
  by_cases e : i = j
  · exact e
  · by_cases c : LtR R i j
    · have := rk_lt hi c; omega
    · have := rk_lt hj (LtR.turn c e); omega
/-- in order: each stands at its rank. -/
theorem rk_at {f : Nat → Nat} (hf : ∀ x, x < n → f x < n) (hs : SoR R f 0 n) {x : Nat} (hx : x < n) : rk R n (f x) = x := by
  have inj : ∀ p q, p < n → q < n → p ≠ q → f p ≠ f q := fun p q h1 h2 h3 e => by
    by_cases c : p < q
    · have := hs p q (Nat.zero_le _) c h2; rw [e] at this; exact LtR.irrefl this
    · have := hs q p (Nat.zero_le _) (by omega) h1; rw [e] at this; exact LtR.irrefl this
  have up : x ≤ rk R n (f x) := by
    have hn : ((List.range x).map f).Nodup := List.pairwise_map.2 (List.pairwise_iff_getElem.2 fun p q h1 h2 h3 => by
      rw [List.length_range] at h1 h2
      rw [List.getElem_range, List.getElem_range]
      exact inj p q (by omega) (by omega) (by omega))
    have := List.Nodup.length_le_of_subset hn (l₂ := (List.range n).filter fun k => ltR R k (f x)) fun z hz => by
      obtain ⟨p, hp, rfl⟩ := List.mem_map.1 hz
      rw [List.mem_range] at hp
      exact mem_ahead.2 ⟨hf p (by omega), hs p x (Nat.zero_le _) hp hx⟩
    rw [List.length_map, List.length_range] at this
    exact this
  have dn : rk R n (f x) + (n - x) ≤ n := by
    have hn : (((List.range n).filter fun k => ltR R k (f x)) ++ ((List.range (n - x)).map fun p => f (x + p))).Nodup := by
      refine List.nodup_append.2 ⟨nodup_ahead _, List.pairwise_map.2 (List.pairwise_iff_getElem.2 fun p q h1 h2 h3 => ?_), fun z hz y hy => ?_⟩
      · rw [List.length_range] at h1 h2
        rw [List.getElem_range, List.getElem_range]
        exact inj _ _ (by omega) (by omega) (by omega)
      · obtain ⟨p, hp, rfl⟩ := List.mem_map.1 hy
        rw [List.mem_range] at hp
        rintro rfl
        have h1 := (mem_ahead.1 hz).2
        by_cases c : p = 0
        · subst c; exact LtR.irrefl h1
        · exact LtR.irrefl (h1.trans (hs x (x + p) (Nat.zero_le _) (by omega) (by omega)))
    have := List.Nodup.length_le_of_subset hn (l₂ := List.range n) fun z hz => by
      rcases List.mem_append.1 hz with hz | hz
      · exact List.mem_range.2 (mem_ahead.1 hz).1
      · obtain ⟨p, hp, rfl⟩ := List.mem_map.1 hz
        rw [List.mem_range] at hp
        exact List.mem_range.2 (hf _ (by omega))
    rw [List.length_append, List.length_map, List.length_range, List.length_range] at this
    exact this
  omega
end
end Go.Proofs.YtlanggdmdpjfbaaDoor
namespace Go.Proofs.YtlanggdmdpjfbaaDoor
open Go
set_option linter.unusedVariables false

def am23 (q : Int) : Prop := 0 ≤ q ∧ q ≤ 1000000000000000
instance (q : Int) : Decidable (am23 q) := by unfold am23; infer_instance
def suF (f : Nat → Int) : Nat → Int
  | 0 => 0
  | k + 1 => suF f k + f k
theorem suF_same {f g : Nat → Int} : ∀ {k : Nat}, (∀ i, i < k → f i = g i) → suF f k = suF g k
  | 0, _ => rfl
  | k + 1, h => by unfold suF; rw [suF_same fun i hi => h i (by omega), h k (by omega)]
theorem suF_add (f g : Nat → Int) : ∀ k, suF (fun i => f i + g i) k = suF f k + suF g k
  | 0 => rfl
  | k + 1 => by unfold suF; rw [suF_add f g k]; omega
theorem suF_mul (c : Int) (f : Nat → Int) : ∀ k, suF (fun i => c * f i) k = c * suF f k
  | 0 => by simp [suF]
  | k + 1 => by unfold suF; rw [suF_mul c f k, Int.mul_add]
theorem suF_pos {f : Nat → Int} : ∀ {k : Nat}, (∀ i, i < k → 0 ≤ f i) → 0 ≤ suF f k
  | 0, _ => Int.le_refl _
  | k + 1, h => by
    have := suF_pos (f := f) (k := k) fun i hi => h i (by omega)
    have := h k (by omega)
    unfold suF; omega
theorem suF_mono {f : Nat → Int} : ∀ {k : Nat}, (∀ i, i < k → 0 ≤ f i) → ∀ j, j < k → f j ≤ suF f k
  | 0, _, j, hj => by omega
  | k + 1, h, j, hj => by
    have h1 := suF_pos (f := f) (k := k) fun i hi => h i (by omega)
    have h2 := h k (by omega)
    unfold suF
    by_cases e : j = k
    · subst e; omega
    · have := suF_mono (f := f) (k := k) (fun i hi => h i (by omega)) j (by omega)
      omega
theorem suF_upto {f : Nat → Int} : ∀ {k : Nat}, (∀ i, i < k → 0 ≤ f i) → ∀ j, j ≤ k → suF f j ≤ suF f k
  | 0, _, j, hj => by obtain rfl : j = 0 := by omega
                      exact Int.le_refl _
  | k + 1, h, j, hj => by
    have h2 := h k (by omega)
    by_cases e : j = k + 1
    · subst e; exact Int.le_refl _
    · have := suF_upto (f := f) (k := k) (fun i hi => h i (by omega)) j (by omega)
      show suF f j ≤ suF f k + f k
      omega
theorem suF_lt {f : Nat → Int} {c : Int} : ∀ {k : Nat}, (∀ i, i < k → f i < c) → suF f k ≤ c * k - k
  | 0, _ => by simp [suF]
  | k + 1, h => by
    have h1 := suF_lt (f := f) (c := c) (k := k) fun i hi => h i (by omega)
    have h2 := h k (by omega)
    unfold suF
    rw [show c * ((k + 1 : Nat) : Int) = c * (k : Int) + c from by rw [Int.natCast_succ, Int.mul_add, Int.mul_one]]
    omega
theorem suF_const (c : Int) : ∀ k : Nat, suF (fun _ => c) k = c * k
  | 0 => by simp [suF]
  | k + 1 => by unfold suF; rw [suF_const c k, Int.natCast_succ, Int.mul_add, Int.mul_one]
theorem suF_count (p : Nat → Bool) : ∀ k, suF (fun i => if p i = true then 1 else 0) k = (((List.range k).filter p).length : Int)
  | 0 => rfl
  | k + 1 => by
    unfold suF
    rw [suF_count p k, List.range_succ, List.filter_append, List.length_append]
    by_cases h : p k = true
    · simp [h]
    · simp [h]

/-! The parts. -/
def wF (L : List Int) (i : Nat) : Int := L.getD i 0
def smW (L : List Int) : Int := suF (wF L) L.length
def flF (W : Int) (L : List Int) (i : Nat) : Int := W * wF L i / smW L
def reF (W : Int) (L : List Int) (i : Nat) : Int := W * wF L i % smW L
def lfW (W : Int) (L : List Int) : Int := W - suF (flF W L) L.length
def rkW (W : Int) (L : List Int) (i : Nat) : Nat := rk (reF W L) L.length i
/-- t of them have one more. -/
def ptF (W : Int) (L : List Int) (t : Nat) (i : Nat) : Int := flF W L i + if rkW W L i < t then 1 else 0
def ptL (W : Int) (L : List Int) (t : Nat) : List Int := (List.range L.length).map (ptF W L t)
def shL (W : Int) (L : List Int) : List Int := ptL W L (lfW W L).toNat
def allW (L : List Int) : Bool := L.all fun x => decide (am23 x)
def shC (W : Int) (L : List Int) : Int := if 32 < L.length then 105 else if ¬ am23 W ∨ allW L = false then 103 else if 1000000000000000 < smW L then 104 else if smW L = 0 ∧ W ≠ 0 then 106 else 0
theorem ptL_len (W : Int) (L : List Int) (t : Nat) : (ptL W L t).length = L.length := by simp [ptL]
theorem ptL_at (W : Int) (L : List Int) (t : Nat) {i : Nat} (h : i < L.length) : (ptL W L t).getD i 0 = ptF W L t i := by
  unfold ptL
  rw [List.getD_eq_getElem?_getD, List.getElem?_map, List.getElem?_range h]; rfl
theorem allW_iff {L : List Int} : allW L = true ↔ ∀ i, i < L.length → am23 (wF L i) := by
  unfold allW wF
  rw [List.all_eq_true]
  constructor
  · intro h i hi
    rw [List.getD_eq_getElem?_getD, List.getElem?_eq_getElem hi]
    exact of_decide_eq_true (h _ (List.getElem_mem hi))
  · intro h x hx
    obtain ⟨i, hi, rfl⟩ := List.getElem_of_mem hx
    have := h i hi
    rw [List.getD_eq_getElem?_getD, List.getElem?_eq_getElem hi] at this
    exact decide_eq_true this
structure ShOk (W : Int) (L : List Int) : Prop where
  len : L.length ≤ 32
  w : am23 W
  all : ∀ i, i < L.length → am23 (wF L i)
  sum : smW L ≤ 1000000000000000
  fit : smW L = 0 → W = 0
theorem shC_fine {W : Int} {L : List Int} : shC W L = 0 ↔ ShOk W L := by
  unfold shC
  by_cases h1 : 32 < L.length
  · rw [if_pos h1]
    exact ⟨fun h => by simp at h, fun h => by have := h.len; omega⟩
  · rw [if_neg h1]
    by_cases h2 : ¬ am23 W ∨ allW L = false
    · rw [if_pos h2]
      refine ⟨fun h => by simp at h, fun h => ?_⟩
      rcases h2 with h2 | h2
      · exact absurd h.w h2
      · rw [allW_iff.2 h.all] at h2; simp at h2
    · rw [if_neg h2]
      have h3 : am23 W := by
        by_cases q : am23 W
        · exact q
        · exact absurd (.inl q) h2
      have h4 : allW L = true := by
        cases q : allW L
        · exact absurd (.inr q) h2
        · rfl
      by_cases h5 : 1000000000000000 < smW L
      · rw [if_pos h5]
        exact ⟨fun h => by simp at h, fun h => by have := h.sum; omega⟩
      · rw [if_neg h5]
        by_cases h6 : smW L = 0 ∧ W ≠ 0
        · rw [if_pos h6]
          exact ⟨fun h => by simp at h, fun h => absurd (h.fit h6.1) h6.2⟩
        · rw [if_neg h6]
          refine ⟨fun _ => ⟨by omega, h3, allW_iff.1 h4, by omega, fun q => ?_⟩, fun _ => rfl⟩
          by_cases q2 : W = 0
          · exact q2
          · exact absurd ⟨q, q2⟩ h6
section
variable {W : Int} {L : List Int}
theorem ShOk.pos (h : ShOk W L) : 0 ≤ smW L := suF_pos fun i hi => (h.all i hi).1
theorem ShOk.le (h : ShOk W L) {i : Nat} (hi : i < L.length) : wF L i ≤ smW L := suF_mono (fun i hi => (h.all i hi).1) i hi
/-- the part cut down: no more than the whole; and its rest. -/
theorem fl_fits {W x S : Int} (hW : 0 ≤ W) (hx : 0 ≤ x) (hxS : x ≤ S) (hS : 0 < S) : 0 ≤ W * x / S ∧ W * x / S ≤ W ∧ 0 ≤ W * x % S ∧ W * x % S < S ∧ W * x = W * x / S * S + W * x % S := by
  have h0 : 0 ≤ W * x := Int.mul_nonneg hW hx
  refine ⟨Int.ediv_nonneg h0 (Int.le_of_lt hS), ?_, Int.emod_nonneg _ (by omega), Int.emod_lt_of_pos _ hS, ?_⟩
  · have h1 : W * x ≤ W * S := Int.mul_le_mul_of_nonneg_left hxS hW
    have h2 := Int.ediv_le_ediv hS h1
    rwa [Int.mul_ediv_cancel _ (by omega)] at h2
  · have := Int.mul_ediv_add_emod (W * x) S
    rw [Int.mul_comm (W * x / S) S]; omega
theorem ShOk.fl (h : ShOk W L) (hS : 0 < smW L) {i : Nat} (hi : i < L.length) : 0 ≤ flF W L i ∧ flF W L i ≤ W ∧ 0 ≤ reF W L i ∧ reF W L i < smW L ∧ W * wF L i = flF W L i * smW L + reF W L i :=
  fl_fits h.w.1 (h.all i hi).1 (h.le hi) hS
theorem ShOk.left (h : ShOk W L) (hS : 0 < smW L) : lfW W L * smW L = suF (reF W L) L.length := by
  have e1 : suF (fun i => W * wF L i) L.length = suF (fun i => smW L * flF W L i + reF W L i) L.length := suF_same fun i hi => by rw [(h.fl hS hi).2.2.2.2, Int.mul_comm]
  rw [suF_mul, suF_add, suF_mul] at e1
  unfold lfW
  rw [Int.sub_mul, Int.mul_comm (suF (flF W L) L.length)]
  unfold smW at *
  omega
theorem ShOk.some (h : ShOk W L) (hS : 0 < smW L) : 0 < L.length := by
  rcases Nat.eq_zero_or_pos L.length with q | q
  · unfold smW at hS; rw [q] at hS; simp [suF] at hS
  · exact q
theorem ShOk.left_bd (h : ShOk W L) (hS : 0 < smW L) : 0 ≤ lfW W L ∧ lfW W L < L.length := by
  have h1 := h.left hS
  have h2 : 0 ≤ suF (reF W L) L.length := suF_pos fun i hi => (h.fl hS hi).2.2.1
  have h3 : suF (reF W L) L.length ≤ smW L * L.length - L.length := suF_lt fun i hi => (h.fl hS hi).2.2.2.1
  have h4 := h.some hS
  constructor
  · rcases Int.lt_or_le (lfW W L) 0 with q | q
    · have : lfW W L * smW L < 0 := Int.mul_neg_of_neg_of_pos q hS
      omega
    · exact q
  · rcases Int.lt_or_le (lfW W L) L.length with q | q
    · exact q
    · have : (L.length : Int) * smW L ≤ lfW W L * smW L := Int.mul_le_mul_of_nonneg_right q (Int.le_of_lt hS)
      rw [Int.mul_comm] at this
      omega
/-- where the weights are nothing, or the whole is, so are the shares. -/
theorem sh_zero (hS : smW L = 0) (hW : W = 0) : shL W L = List.replicate L.length 0 := by
  have e1 : ∀ i, flF W L i = 0 := fun i => by unfold flF; rw [hS, Int.ediv_zero]
  have e2 : lfW W L = 0 := by unfold lfW; rw [suF_same (g := fun _ => 0) fun i _ => e1 i, suF_const, hW]; simp
  unfold shL ptL
  rw [e2]
  refine List.ext_getElem (by simp) fun k h1 h2 => ?_
  simp [ptF, e1]
theorem pt_none : ptL W L 0 = (List.range L.length).map (flF W L) := by
  unfold ptL
  exact List.map_congr_left fun x _ => by simp [ptF]
theorem ptL_get {t k : Nat} (h : k < (ptL W L t).length) : (ptL W L t)[k] = ptF W L t k := by simp [ptL]
/-- one more has one more: the one of rank t. -/
theorem pt_next {t p : Nat} (hp : p < L.length) (hr : rkW W L p = t) : (ptL W L t).set p (ptF W L t p + 1) = ptL W L (t + 1) := by
  refine List.ext_getElem (by simp [ptL]) fun k h1 h2 => ?_
  simp only [List.length_set, ptL_len] at h1
  rw [List.getElem_set, ptL_get, ptL_get]
  by_cases e : p = k
  · subst e
    rw [if_pos rfl]
    unfold ptF
    rw [if_neg (by omega), if_pos (by omega)]
    omega
  · rw [if_neg e]
    have hne : rkW W L k ≠ t := fun q => e (rk_inj (R := reF W L) hp h1 (hr.trans q.symm))
    unfold ptF
    by_cases q : rkW W L k < t
    · rw [if_pos q, if_pos (by omega)]
    · rw [if_neg q, if_neg (by omega)]
end

/-! Ranks again. -/
section
variable {R : Nat → Int} {n : Nat}
theorem rk_count {l : Nat} (hl : l ≤ n) : suF (fun i => if decide (rk R n i < l) = true then 1 else 0) n = (l : Int) := by
  have inj : ∀ (p : Nat → Bool), (((List.range n).filter p).map (rk R n)).Nodup := fun p => by
    refine List.pairwise_map.2 ((List.Pairwise.filter p (List.nodup_range (n := n))).imp_of_mem fun {a b} ha hb hab e => ?_)
    exact hab (rk_inj (List.mem_range.1 (List.mem_filter.1 ha).1) (List.mem_range.1 (List.mem_filter.1 hb).1) e)
  have h1 := List.Nodup.length_le_of_subset (inj fun i => decide (rk R n i < l)) (l₂ := List.range l) fun x hx => by
    obtain ⟨i, hi, rfl⟩ := List.mem_map.1 hx
    exact List.mem_range.2 (of_decide_eq_true (List.mem_filter.1 hi).2)
  have h2 := List.Nodup.length_le_of_subset (inj fun i => !decide (rk R n i < l)) (l₂ := (List.range (n - l)).map (fun k => l + k)) fun x hx => by
    obtain ⟨i, hi, rfl⟩ := List.mem_map.1 hx
    have q := (List.mem_filter.1 hi).2
    have q1 := rk_n (R := R) (List.mem_range.1 (List.mem_filter.1 hi).1)
    have q2 : ¬ rk R n i < l := by simpa using q
    exact List.mem_map.2 ⟨rk R n i - l, List.mem_range.2 (by omega), by omega⟩
  rw [List.length_map, List.length_range] at h1
  rw [List.length_map, List.length_map, List.length_range] at h2
  have h3 := suF_count (fun i => decide (rk R n i < l)) n
  have h4 := suF_count (fun i => !decide (rk R n i < l)) n
  have h5 : suF (fun i => (if decide (rk R n i < l) = true then 1 else 0) + (if (!decide (rk R n i < l)) = true then 1 else 0)) n = n := by
    rw [suF_same (g := fun _ => 1) fun i _ => by cases decide (rk R n i < l) <;> rfl, suF_const]; simp
  rw [suF_add, h3, h4] at h5
  rw [h3]
  omega
theorem rk_some {k : Nat} (hk : k < n) : ∃ x, x < n ∧ rk R n x = k := by
  by_cases h : k ∈ (List.range n).map (rk R n)
  · obtain ⟨x, hx, e⟩ := List.mem_map.1 h
    exact ⟨x, List.mem_range.1 hx, e⟩
  · have hn : ((List.range n).map (rk R n) ++ [k]).Nodup := List.nodup_append.2 ⟨List.pairwise_map.2 ((List.nodup_range (n := n)).imp_of_mem fun {a b} ha hb hab e => hab (rk_inj (List.mem_range.1 ha) (List.mem_range.1 hb) e)), List.pairwise_singleton _ _, fun x hx y hy => by
      rw [List.mem_singleton] at hy
      rintro rfl
      subst hy
      exact h hx⟩
    have := List.Nodup.length_le_of_subset hn (l₂ := List.range n) fun z hz => by
      rcases List.mem_append.1 hz with hz | hz
      · obtain ⟨x, hx, rfl⟩ := List.mem_map.1 hz
        exact List.mem_range.2 (rk_n (List.mem_range.1 hx))
      · rw [List.mem_singleton] at hz; subst hz; exact List.mem_range.2 hk
    rw [List.length_append, List.length_map, List.length_range, List.length_singleton] at this
    omega
theorem rk_same {R' : Nat → Int} (h : ∀ i j, i < n → j < n → (LtR R i j ↔ LtR R' i j)) {i : Nat} (hi : i < n) : rk R n i = rk R' n i := by
  unfold rk
  congr 1
  refine List.filter_congr fun j hj => ?_
  rw [Bool.eq_iff_iff, ltR_iff, ltR_iff]
  exact h j i (List.mem_range.1 hj) hi
theorem rk_even (h : ∀ i j, i < n → j < n → R i = R j) {i : Nat} (hi : i < n) : rk R n i = i :=
  rk_at (f := id) (fun x q => q) (fun x y _ q r => .inr ⟨h x y (by omega) r, q⟩) hi
end
/-- the one found among the first j that have none yet: of those of rank k or more, the least. -/
def PickIs (R : Nat → Int) (n k j : Nat) (at' : Int) : Prop := (at' = -1 ∧ ∀ i, i < j → rk R n i < k) ∨ ∃ a : Nat, a < j ∧ at' = (a : Int) ∧ k ≤ rk R n a ∧ ∀ i, i < j → k ≤ rk R n i → i = a ∨ LtR R a i
section
variable {R : Nat → Int} {n k j : Nat} {at' : Int}
theorem pick_first : PickIs R n k 0 (-1) := .inl ⟨rfl, fun i h => by omega⟩
theorem PickIs.skip (h : PickIs R n k j at') (hj : rk R n j < k) : PickIs R n k (j + 1) at' := by
  rcases h with ⟨h1, h2⟩ | ⟨a, h1, h2, h3, h4⟩
  · refine .inl ⟨h1, fun i hi => ?_⟩
    by_cases e : i = j
    · rw [e]; exact hj
    · exact h2 i (by omega)
  · refine .inr ⟨a, by omega, h2, h3, fun i hi q => ?_⟩
    by_cases e : i = j
    · subst e; omega
    · exact h4 i (by omega) q
theorem PickIs.take (h : PickIs R n k j (-1)) (hj : k ≤ rk R n j) : PickIs R n k (j + 1) j := by
  rcases h with ⟨h1, h2⟩ | ⟨a, h1, h2, h3, h4⟩
  · refine .inr ⟨j, by omega, rfl, hj, fun i hi q => ?_⟩
    by_cases e : i = j
    · exact .inl e
    · have := h2 i (by omega); omega
  · omega
theorem PickIs.turn {a : Nat} (h : PickIs R n k j a) (hj : k ≤ rk R n j) (hl : R a < R j) : PickIs R n k (j + 1) j := by
  rcases h with ⟨h1, h2⟩ | ⟨b, h1, h2, h3, h4⟩
  · omega
  · obtain rfl : a = b := by omega
    refine .inr ⟨j, by omega, rfl, hj, fun i hi q => ?_⟩
    by_cases e : i = j
    · exact .inl e
    · rcases h4 i (by omega) q with q2 | q2
      · rw [q2]; exact .inr (.inl hl)
      · exact .inr (LtR.trans (.inl hl) q2)
theorem PickIs.keep {a : Nat} (h : PickIs R n k j a) (hl : ¬ R a < R j) : PickIs R n k (j + 1) a := by
  rcases h with ⟨h1, h2⟩ | ⟨b, h1, h2, h3, h4⟩
  · omega
  · obtain rfl : a = b := by omega
    refine .inr ⟨a, by omega, rfl, h3, fun i hi q => ?_⟩
    by_cases e : i = j
    · subst e; exact .inr (by unfold LtR; omega)
    · exact h4 i (by omega) q
theorem PickIs.lt (h : PickIs R n k j at') : at' < j := by
  rcases h with ⟨h1, h2⟩ | ⟨b, h1, h2, h3, h4⟩ <;> omega
theorem PickIs.end (h : PickIs R n k n at') (hk : k < n) : ∃ a : Nat, a < n ∧ at' = (a : Int) ∧ rk R n a = k := by
  obtain ⟨x, hx, e⟩ := rk_some (R := R) hk
  rcases h with ⟨h1, h2⟩ | ⟨a, h1, h2, h3, h4⟩
  · have := h2 x hx; omega
  · refine ⟨a, h1, h2, ?_⟩
    rcases h4 x hx (by omega) with q | q
    · rw [← q]; exact e
    · have := rk_lt (R := R) h1 q; omega
end
end Go.Proofs.YtlanggdmdpjfbaaDoor
namespace Go.Proofs.YtlanggdmdpjfbaaDoor
open Go
set_option linter.unusedVariables false

section
variable {W : Int} {L : List Int}
theorem shL_len : (shL W L).length = L.length := ptL_len _ _ _
theorem shL_at {i : Nat} (h : i < L.length) : wF (shL W L) i = ptF W L (lfW W L).toNat i := ptL_at _ _ _ h
theorem lf_bd (h : ShOk W L) : 0 ≤ lfW W L ∧ (lfW W L).toNat ≤ L.length := by
  by_cases hS : 0 < smW L
  · have := h.left_bd hS; omega
  · have h1 := h.pos
    have h2 : smW L = 0 := by omega
    have : lfW W L = 0 := by
      unfold lfW
      rw [suF_same (g := fun _ => 0) fun i _ => by unfold flF; rw [h2, Int.ediv_zero], suF_const, h.fit h2]; simp
    omega
theorem sh_sums (h : ShOk W L) : smW (shL W L) = W := by
  unfold smW
  rw [shL_len, suF_same (g := fun i => flF W L i + (if decide (rkW W L i < (lfW W L).toNat) = true then 1 else 0)) fun i hi => by
    rw [shL_at hi]; unfold ptF; simp, suF_add]
  have h1 := lf_bd h
  have h2 := rk_count (R := reF W L) (n := L.length) (l := (lfW W L).toNat) h1.2
  unfold rkW
  rw [h2]
  have : ((lfW W L).toNat : Int) = lfW W L := by omega
  rw [this]
  unfold lfW
  omega
theorem sh_zeroF (h : ShOk W L) (hW : W = 0) (i : Nat) : ptF W L (lfW W L).toNat i = 0 := by
  have e1 : ∀ i, flF W L i = 0 := fun i => by unfold flF; rw [hW, Int.zero_mul, Int.zero_ediv]
  have e2 : lfW W L = 0 := by unfold lfW; rw [suF_same (g := fun _ => 0) fun i _ => e1 i, suF_const, hW]; simp
  unfold ptF
  rw [e1, e2]
  simp
theorem sh_order (h : ShOk W L) {i k : Nat} (hi : i < L.length) (hk : k < L.length) (ho : wF L k < wF L i ∨ (wF L i = wF L k ∧ i < k)) : ptF W L (lfW W L).toNat k ≤ ptF W L (lfW W L).toNat i := by
  by_cases hW : W = 0
  · rw [sh_zeroF h hW, sh_zeroF h hW]; exact Int.le_refl _
  · have hS : 0 < smW L := by
      have h1 := h.pos
      have h2 := h.fit
      by_cases q : smW L = 0
      · exact absurd (h2 q) hW
      · omega
    have hW0 := h.w.1
    obtain ⟨a1, a2, a3, a4, a5⟩ := h.fl hS hi
    obtain ⟨b1, b2, b3, b4, b5⟩ := h.fl hS hk
    have hw : wF L k ≤ wF L i := by omega
    have hm : W * wF L k ≤ W * wF L i := Int.mul_le_mul_of_nonneg_left hw hW0
    have hq : flF W L k ≤ flF W L i := Int.ediv_le_ediv hS hm
    unfold ptF
    by_cases he : flF W L k = flF W L i
    · have hl : LtR (reF W L) i k := by
        rw [he] at b5
        by_cases hr : reF W L k < reF W L i
        · exact .inl hr
        · have hrr : reF W L i = reF W L k := by omega
          rcases ho with q | q
          · have : W * wF L k < W * wF L i := Int.mul_lt_mul_of_pos_left q (by omega)
            omega
          · exact .inr ⟨hrr, q.2⟩
      have hr := rk_lt (R := reF W L) (n := L.length) hi hl
      unfold rkW
      rw [he]
      by_cases q : rk (reF W L) L.length k < (lfW W L).toNat
      · rw [if_pos q, if_pos (by omega)]; exact Int.le_refl _
      · rw [if_neg q]; split <;> omega
    · split <;> split <;> omega
theorem sh_low (h : ShOk W L) {i : Nat} (hi : i < L.length) : ptF W L (lfW W L).toNat i = flF W L i ∨ ptF W L (lfW W L).toNat i = flF W L i + 1 := by
  unfold ptF
  split
  · exact .inr rfl
  · exact .inl (by omega)
end

/-! Twice the weights. -/
theorem sh_twice {W : Int} {L M : List Int} (hl : M.length = L.length) (h2 : ∀ i, i < L.length → wF M i = 2 * wF L i) (hS : 0 < smW L) : shL W M = shL W L := by
  have hs : smW M = 2 * smW L := by
    unfold smW
    rw [hl, suF_same (g := fun i => 2 * wF L i) h2, suF_mul]
  have hf : ∀ i, i < L.length → flF W M i = flF W L i := fun i hi => by
    unfold flF
    rw [hs, h2 i hi, show W * (2 * wF L i) = 2 * (W * wF L i) by grind, Int.mul_ediv_mul_of_pos _ _ (by decide)]
  have hr : ∀ i, i < L.length → reF W M i = 2 * reF W L i := fun i hi => by
    unfold reF
    rw [hs, h2 i hi, show W * (2 * wF L i) = 2 * (W * wF L i) by grind, Int.mul_emod_mul_of_pos _ _ (by decide)]
  have hle : lfW W M = lfW W L := by unfold lfW; rw [hl, suF_same hf]
  unfold shL ptL
  rw [hle, hl]
  refine List.map_congr_left fun i hi => ?_
  rw [List.mem_range] at hi
  unfold ptF rkW
  rw [hf i hi, hl, rk_same (R' := reF W L) (fun a b ha hb => by unfold LtR; rw [hr a ha, hr b hb]; omega) hi]
theorem sh_one {W : Int} (h : am23 W) : shC W [7] = 0 ∧ shL W [7] = [W] := by
  have hs : smW [7] = 7 := by decide
  have hok : ShOk W [7] := ⟨by decide, h, fun i hi => by
    obtain rfl : i = 0 := by simp at hi; exact hi
    decide, by rw [hs]; decide, fun q => by rw [hs] at q; simp at q⟩
  refine ⟨shC_fine.2 hok, ?_⟩
  have hf : flF W [7] 0 = W := by
    unfold flF
    rw [hs, show wF [7] 0 = 7 from rfl, Int.mul_ediv_cancel _ (by decide)]
  have hl : lfW W [7] = 0 := by
    unfold lfW
    show W - (0 + flF W [7] 0) = 0
    rw [hf]; omega
  unfold shL ptL
  rw [hl]
  show [ptF W [7] 0 0] = [W]
  unfold ptF
  rw [hf, if_neg (by omega)]
  simp
theorem sh_even {W : Int} {n : Nat} (h : am23 W) (h1 : 0 < n) (hn : n ≤ 32) : shC W (List.replicate n 3) = 0 ∧ ∀ i, i < n → (shL W (List.replicate n 3)).getD i 0 = W / n + if (i : Int) < W % n then 1 else 0 := by
  have hlen : (List.replicate n (3 : Int)).length = n := List.length_replicate
  have hw : ∀ i, i < n → wF (List.replicate n 3) i = 3 := fun i hi => by
    unfold wF
    rw [List.getD_eq_getElem?_getD, List.getElem?_eq_getElem (by rw [hlen]; exact hi)]
    simp
  have hs : smW (List.replicate n 3) = 3 * n := by
    unfold smW
    rw [hlen, suF_same (g := fun _ => 3) hw, suF_const]
  have hok : ShOk W (List.replicate n 3) := ⟨by rw [hlen]; exact hn, h, fun i hi => by rw [hlen] at hi; rw [hw i hi]; decide, by rw [hs]; omega, fun q => by omega⟩
  have hf : ∀ i, i < n → flF W (List.replicate n 3) i = W / n := fun i hi => by
    unfold flF
    rw [hs, hw i hi, Int.mul_comm W 3, Int.mul_ediv_mul_of_pos _ _ (by decide)]
  have hr : ∀ i, i < n → reF W (List.replicate n 3) i = 3 * (W % n) := fun i hi => by
    unfold reF
    rw [hs, hw i hi, Int.mul_comm W 3, Int.mul_emod_mul_of_pos _ _ (by decide)]
  have hl : lfW W (List.replicate n 3) = W % n := by
    unfold lfW
    rw [hlen, suF_same (g := fun _ => W / n) hf, suF_const, Int.mul_comm]
    have := Int.mul_ediv_add_emod W n
    omega
  have hm := Int.emod_nonneg W (show (n : Int) ≠ 0 by omega)
  refine ⟨shC_fine.2 hok, fun i hi => ?_⟩
  rw [show (shL W (List.replicate n 3)).getD i 0 = wF (shL W (List.replicate n 3)) i from rfl, shL_at (by rw [hlen]; exact hi)]
  unfold ptF rkW
  rw [hf i hi, hl, hlen, rk_even (fun a b ha hb => by rw [hr a ha, hr b hb]) hi]
  by_cases q : (i : Int) < W % n
  · rw [if_pos q, if_pos (by omega)]
  · rw [if_neg q, if_neg (by omega)]
/-- how a weight is drawn. -/
def sv23 (v : Int) : Int := if v.tmod 1000000 < 0 then -v.tmod 1000000 else v.tmod 1000000
theorem sv_bd (v : Int) : 0 ≤ sv23 v ∧ sv23 v < 1000000 := by
  unfold sv23
  have h1 := Int.tmod_lt_of_pos v (show (0 : Int) < 1000000 by decide)
  have h2 := Int.tmod_lt_of_pos (-v) (show (0 : Int) < 1000000 by decide)
  rw [Int.neg_tmod] at h2
  split <;> omega
def aL23 (L : List Int) : List Int := L.map fun v => sv23 v + 1
def bL23 (L : List Int) : List Int := L.map fun v => 2 * sv23 v + 2
theorem aL_at {L : List Int} {i : Nat} (h : i < L.length) : wF (aL23 L) i = sv23 (wF L i) + 1 := by
  unfold wF aL23
  rw [List.getD_eq_getElem?_getD, List.getElem?_map, List.getElem?_eq_getElem h, List.getD_eq_getElem?_getD, List.getElem?_eq_getElem h]; rfl
theorem bL_at {L : List Int} {i : Nat} (h : i < L.length) : wF (bL23 L) i = 2 * sv23 (wF L i) + 2 := by
  unfold wF bL23
  rw [List.getD_eq_getElem?_getD, List.getElem?_map, List.getElem?_eq_getElem h, List.getD_eq_getElem?_getD, List.getElem?_eq_getElem h]; rfl
theorem sm_bd {L : List Int} {c : Int} (h1 : ∀ i, i < L.length → 1 ≤ wF L i ∧ wF L i < c) (h0 : 0 < L.length) : 0 < smW L ∧ smW L ≤ c * L.length := by
  have h2 : 0 ≤ wF L 0 := by have := (h1 0 h0).1; omega
  have h3 := suF_mono (f := wF L) (k := L.length) (fun i hi => by have := (h1 i hi).1; omega) 0 h0
  have h4 := suF_lt (f := wF L) (c := c) (k := L.length) fun i hi => (h1 i hi).2
  have h5 := (h1 0 h0).1
  unfold smW
  omega
theorem sh_scale {W : Int} {L : List Int} (hW : am23 W) (h0 : 0 < L.length) (hn : L.length ≤ 20) : shC W (aL23 L) = 0 ∧ shC W (bL23 L) = 0 ∧ shL W (bL23 L) = shL W (aL23 L) := by
  have la : (aL23 L).length = L.length := List.length_map _
  have lb : (bL23 L).length = L.length := List.length_map _
  have ba : ∀ i, i < (aL23 L).length → 1 ≤ wF (aL23 L) i ∧ wF (aL23 L) i < 3000000 := fun i hi => by
    rw [la] at hi; rw [aL_at hi]; have := sv_bd (wF L i); omega
  have bb : ∀ i, i < (bL23 L).length → 1 ≤ wF (bL23 L) i ∧ wF (bL23 L) i < 3000000 := fun i hi => by
    rw [lb] at hi; rw [bL_at hi]; have := sv_bd (wF L i); omega
  have sa := sm_bd ba (by omega)
  have sb := sm_bd bb (by omega)
  have oka : ShOk W (aL23 L) := ⟨by omega, hW, fun i hi => by have := ba i hi; unfold am23; omega, by omega, fun q => by omega⟩
  have okb : ShOk W (bL23 L) := ⟨by omega, hW, fun i hi => by have := bb i hi; unfold am23; omega, by omega, fun q => by omega⟩
  refine ⟨shC_fine.2 oka, shC_fine.2 okb, sh_twice (by omega) (fun i hi => ?_) sa.1⟩
  rw [la] at hi
  rw [aL_at hi, bL_at hi]; omega
end Go.Proofs.YtlanggdmdpjfbaaDoor
