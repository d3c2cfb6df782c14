/-
  Limits and lines: a table of the limits; what is set; what counts of lines: groups by class, currency and issuer, each capped; when a sum is above the greatest amount.
-/
import Derived.Test.YtghkmagofadkfaaDoorKeyTab2
namespace Go.Proofs.YtghkmagofadkfaaDoor
open Go Go.RowKit
set_option linter.unusedVariables false

abbrev LimT := Int × Int
def lmIn (s : LimT) : Prop := (-9223372036854775808 ≤ s.1 ∧ s.1 ≤ 9223372036854775807) ∧ (-9223372036854775808 ≤ s.2 ∧ s.2 ≤ 9223372036854775807)
/-- the greatest number of a kind; 0: no such kind. -/
def lmTop (k : Int) : Int := if k = 1 then 6 else if k = 2 then 6 else if k = 3 then 32 else 0
def lmOk (s : LimT) : Prop := 1 ≤ s.2 ∧ s.2 ≤ lmTop s.1
def monOk (x : Int) : Prop := 0 ≤ x ∧ x ≤ 1000000000000000
instance (s : LimT) : Decidable (lmOk s) := by unfold lmOk; infer_instance
instance (x : Int) : Decidable (monOk x) := by unfold monOk; infer_instance
theorem lmOk_ways {s : LimT} (h : lmOk s) : (s.1 = 1 ∨ s.1 = 2 ∨ s.1 = 3) ∧ 1 ≤ s.2 ∧ s.2 ≤ 32 := by
  unfold lmOk lmTop at h
  split at h
  · omega
  · split at h
    · omega
    · split at h <;> omega
theorem lmOk.isIn {s : LimT} (h : lmOk s) : lmIn s := by have := lmOk_ways h; unfold lmIn; omega
abbrev CTab := LimT → Option Int
def noC : CTab := fun _ => none
def getC (T : CTab) (s : LimT) : Int := (T s).getD 0
/-- limits that may be, all above 0. -/
def CaT (T : CTab) : Prop := ∀ s x, T s = some x → lmOk s ∧ 0 < x ∧ x ≤ 1000000000000000
theorem noC_ca : CaT noC := fun s x h => by cases h
theorem CaT.upd {T : CTab} (h : CaT T) {s : LimT} {x : Int} (hs : lmOk s) (h0 : 0 < x) (hx : x ≤ 1000000000000000) : CaT (updK T s x) := fun s' x' e => by
  unfold updK at e
  split at e
  · rename_i q; subst q
    obtain rfl := Option.some.inj e
    exact ⟨hs, h0, hx⟩
  · exact h _ _ e
theorem CaT.drop {T : CTab} (h : CaT T) (s : LimT) : CaT (dropK T s) := fun s' x' e => by
  unfold dropK at e
  split at e
  · cases e
  · exact h _ _ e
theorem CaT.get {T : CTab} (h : CaT T) (s : LimT) : 0 ≤ getC T s ∧ getC T s ≤ 1000000000000000 := by
  unfold getC
  cases e : T s with
  | none => simp
  | some x => have := (h s x e).2; simp only [Option.getD_some]; omega
theorem CaT.out {T : CTab} (h : CaT T) {s : LimT} (hs : ¬ lmOk s) : getC T s = 0 := by
  unfold getC
  cases e : T s with
  | none => rfl
  | some x => exact absurd (h s x e).1 hs
theorem getC_upd (T : CTab) (s t : LimT) (x : Int) : getC (updK T s x) t = if t = s then x else getC T t := by
  unfold getC updK
  split <;> rfl
theorem getC_drop (T : CTab) (s t : LimT) : getC (dropK T s) t = if t = s then 0 else getC T t := by
  unfold getC dropK
  split <;> rfl
theorem getC_no (s : LimT) : getC noC s = 0 := rfl
def setCC (s : LimT) (a : Int) : Int := if lmOk s ∧ monOk a then 0 else 103
def setCT (T : CTab) (s : LimT) (a : Int) : CTab := if lmOk s ∧ monOk a then (if a = 0 then dropK T s else updK T s a) else T
theorem setCC_ok (s : LimT) (a : Int) : setCC s a = 0 ∨ setCC s a = 103 := by unfold setCC; split <;> omega
theorem CaT.set {T : CTab} (h : CaT T) (s : LimT) (a : Int) : CaT (setCT T s a) := by
  unfold setCT
  split
  · rename_i q
    split
    · exact h.drop s
    · exact h.upd q.1 (by have := q.2; unfold monOk at this; omega) (by have := q.2; unfold monOk at this; omega)
  · exact h
theorem getC_set (T : CTab) (s t : LimT) (a : Int) : getC (setCT T s a) t = if lmOk s ∧ monOk a ∧ t = s then a else getC T t := by
  unfold setCT
  by_cases q : lmOk s ∧ monOk a
  · rw [if_pos q]
    by_cases ha : a = 0
    · rw [if_pos ha, getC_drop]
      by_cases e : t = s
      · rw [if_pos e, if_pos ⟨q.1, q.2, e⟩, ha]
      · rw [if_neg e, if_neg (fun z => e z.2.2)]
    · rw [if_neg ha, getC_upd]
      by_cases e : t = s
      · rw [if_pos e, if_pos ⟨q.1, q.2, e⟩]
      · rw [if_neg e, if_neg (fun z => e z.2.2)]
  · rw [if_neg q, if_neg (fun z => q ⟨z.1, z.2.1⟩)]

/-! At most a limit. -/
def capN (n m : Int) : Int := if 0 < m ∧ m < n then m else n
theorem capN_le (n m : Int) : capN n m ≤ n := by unfold capN; split <;> omega
theorem capN_most {n m : Int} (h : 0 < m) : capN n m ≤ m := by unfold capN; split <;> omega
theorem capN_nn {n : Int} (m : Int) (h : 0 ≤ n) : 0 ≤ capN n m := by unfold capN; split <;> omega
theorem capN_free (n : Int) : capN n 0 = n := by unfold capN; split <;> omega
theorem capN_zero {m : Int} (h : 0 ≤ m) : capN 0 m = 0 := by unfold capN; split <;> omega
theorem capN_min {n m : Int} (h : 0 < m) : capN n m = min n m := by unfold capN; split <;> omega
/-- a little more makes it no less, and no more than that much more. -/
theorem capN_step {n d : Int} (m : Int) (hd : 0 ≤ d) : capN n m ≤ capN (n + d) m ∧ capN (n + d) m ≤ capN n m + d := by unfold capN; split <;> split <;> omega

/-! Sums of n things. -/
def sumN (f : Nat → Int) : Nat → Int
  | 0 => 0
  | n + 1 => sumN f n + f n
theorem sumN_nn {f : Nat → Int} {n : Nat} (h : ∀ k, k < n → 0 ≤ f k) : 0 ≤ sumN f n := by
  induction n with
  | zero => exact Int.le_refl 0
  | succ n ih => have := ih (fun k hk => h k (by omega)); have := h n (by omega); simp only [sumN]; omega
theorem sumN_le {f g : Nat → Int} {n : Nat} (h : ∀ k, k < n → f k ≤ g k) : sumN f n ≤ sumN g n := by
  induction n with
  | zero => exact Int.le_refl 0
  | succ n ih => have := ih (fun k hk => h k (by omega)); have := h n (by omega); simp only [sumN]; omega
theorem sumN_eq {f g : Nat → Int} {n : Nat} (h : ∀ k, k < n → f k = g k) : sumN f n = sumN g n := by
  induction n with
  | zero => rfl
  | succ n ih => have := ih (fun k hk => h k (by omega)); have := h n (by omega); simp only [sumN]; omega
theorem sumN_add (f g : Nat → Int) (n : Nat) : sumN (fun k => f k + g k) n = sumN f n + sumN g n := by
  induction n with
  | zero => rfl
  | succ n ih => simp only [sumN]; omega
theorem sumN_zero {f : Nat → Int} {n : Nat} (h : ∀ k, k < n → f k = 0) : sumN f n = 0 := by
  induction n with
  | zero => rfl
  | succ n ih => have := ih (fun k hk => h k (by omega)); have := h n (by omega); simp only [sumN]; omega
/-- one of them alone is something. -/
theorem sumN_one {f : Nat → Int} {n a : Nat} (ha : a < n) (h : ∀ k, k < n → k ≠ a → f k = 0) : sumN f n = f a := by
  induction n with
  | zero => omega
  | succ n ih =>
    simp only [sumN]
    by_cases e : a = n
    · subst e
      rw [sumN_zero (fun k hk => h k (by omega) (by omega))]; omega
    · rw [ih (by omega) (fun k hk hne => h k (by omega) hne), h n (by omega) (by omega)]; omega
theorem sumN_two {f : Nat → Int} {n a b : Nat} (ha : a < n) (hb : b < n) (hab : a ≠ b) (h : ∀ k, k < n → k ≠ a → k ≠ b → f k = 0) : sumN f n = f a + f b := by
  induction n with
  | zero => omega
  | succ n ih =>
    simp only [sumN]
    by_cases e : a = n
    · subst e
      rw [sumN_one (a := b) (by omega) (fun k hk hne => h k (by omega) (by omega) hne)]; omega
    · by_cases e2 : b = n
      · subst e2
        rw [sumN_one (a := a) (by omega) (fun k hk hne => h k (by omega) hne (by omega))]
      · rw [ih (by omega) (by omega) (fun k hk h1 h2 => h k (by omega) h1 h2), h n (by omega) (by omega) (by omega)]; omega
/-- one of them has turned. -/
theorem sumN_turn {f g : Nat → Int} {n a : Nat} (ha : a < n) (h : ∀ k, k < n → k ≠ a → g k = f k) : sumN g n = sumN f n + (g a - f a) := by
  have e : sumN g n = sumN f n + sumN (fun k => g k - f k) n := by
    rw [← sumN_add]
    exact sumN_eq (fun k _ => by omega)
  rw [e, sumN_one (f := fun k => g k - f k) ha (fun k hk hne => by rw [h k hk hne]; omega)]
/-- one of them is at most all. -/
theorem sumN_mem {f : Nat → Int} {n a : Nat} (ha : a < n) (h : ∀ k, k < n → 0 ≤ f k) : f a ≤ sumN f n := by
  induction n with
  | zero => omega
  | succ n ih =>
    simp only [sumN]
    have h0 := h n (by omega)
    by_cases e : a = n
    · subst e
      have := sumN_nn (f := f) (n := a) (fun k hk => h k (by omega)); omega
    · have := ih (by omega) (fun k hk => h k (by omega)); omega

/-! Lines. -/
structure Ln where
  c : Int
  m : Int
  i : Int
  v : Int
def lnIn (x : Ln) : Prop := (-9223372036854775808 ≤ x.c ∧ x.c ≤ 9223372036854775807) ∧ (-9223372036854775808 ≤ x.m ∧ x.m ≤ 9223372036854775807) ∧ (-9223372036854775808 ≤ x.i ∧ x.i ≤ 9223372036854775807) ∧ (-9223372036854775808 ≤ x.v ∧ x.v ≤ 9223372036854775807)
def lnOk (x : Ln) : Prop := (1 ≤ x.c ∧ x.c ≤ 6) ∧ (1 ≤ x.m ∧ x.m ≤ 6) ∧ (0 ≤ x.i ∧ x.i ≤ 32) ∧ (0 ≤ x.v ∧ x.v ≤ 1000000000000000)
instance (x : Ln) : Decidable (lnOk x) := by unfold lnOk; infer_instance
def hitL (x : Ln) (c m i : Int) : Int := if x.c = c ∧ x.m = m ∧ x.i = i then x.v else 0
theorem hitL_nn {x : Ln} (h : lnOk x) (c m i : Int) : 0 ≤ hitL x c m i := by unfold hitL; unfold lnOk at h; split <;> omega
/-- lines of a class, a currency and an issuer. -/
def s1 : List Ln → Int → Int → Int → Int
  | [], _, _, _ => 0
  | x :: l, c, m, i => hitL x c m i + s1 l c m i
theorem s1_app (a b : List Ln) (c m i : Int) : s1 (a ++ b) c m i = s1 a c m i + s1 b c m i := by
  induction a with
  | nil => simp [s1]
  | cons x a ih => simp only [List.cons_append, s1, ih]; omega
theorem s1_snoc (a : List Ln) (x : Ln) (c m i : Int) : s1 (a ++ [x]) c m i = s1 a c m i + hitL x c m i := by rw [s1_app]; simp [s1]
theorem s1_nn {l : List Ln} (h : ∀ x ∈ l, lnOk x) (c m i : Int) : 0 ≤ s1 l c m i := by
  induction l with
  | nil => exact Int.le_refl 0
  | cons x l ih =>
    have := ih (fun y hy => h y (List.mem_cons_of_mem _ hy)); have := hitL_nn (h x List.mem_cons_self) c m i
    simp only [s1]; omega
/-- what a currency's issuers leave; what a class's currencies leave; all. -/
def s2 (T : CTab) (l : List Ln) (c m : Int) : Int := sumN (fun k => capN (s1 l c m (k : Int)) (getC T (3, (k : Int)))) 33
def s3 (T : CTab) (l : List Ln) (c : Int) : Int := sumN (fun k => capN (s2 T l c ((k : Int) + 1)) (getC T (2, (k : Int) + 1))) 6
def s4 (T : CTab) (l : List Ln) : Int := sumN (fun k => capN (s3 T l ((k : Int) + 1)) (getC T (1, (k : Int) + 1))) 6
section
variable {T : CTab} {l : List Ln}
theorem s2_nn (h : ∀ x ∈ l, lnOk x) (c m : Int) : 0 ≤ s2 T l c m := sumN_nn fun k _ => capN_nn _ (s1_nn h _ _ _)
theorem s3_nn (h : ∀ x ∈ l, lnOk x) (c : Int) : 0 ≤ s3 T l c := sumN_nn fun k _ => capN_nn _ (s2_nn h _ _)
theorem s4_nn (h : ∀ x ∈ l, lnOk x) : 0 ≤ s4 T l := sumN_nn fun k _ => capN_nn _ (s3_nn h _)
end
/-- no sum is above the greatest amount. -/
def fits (T : CTab) (l : List Ln) : Prop :=
  (∀ c, 1 ≤ c → c ≤ 6 → (∀ m, 1 ≤ m → m ≤ 6 → (∀ i, 0 ≤ i → i ≤ 32 → s1 l c m i ≤ 1000000000000000) ∧ s2 T l c m ≤ 1000000000000000) ∧ s3 T l c ≤ 1000000000000000) ∧ s4 T l ≤ 1000000000000000
/-- the lines that may not be: where the first one is. -/
def badL : List Ln → Option Nat
  | [] => none
  | x :: l => if lnOk x then (badL l).map (· + 1) else some 0
theorem badL_none {l : List Ln} (h : badL l = none) : ∀ x ∈ l, lnOk x := by
  induction l with
  | nil => intro x hx; cases hx
  | cons y l ih =>
    unfold badL at h
    split at h
    · rename_i q
      intro x hx
      rcases List.mem_cons.1 hx with rfl | hx
      · exact q
      · exact ih (by simpa using h) x hx
    · cases h
theorem badL_fine {l : List Ln} (h : ∀ x ∈ l, lnOk x) : badL l = none := by
  induction l with
  | nil => rfl
  | cons y l ih =>
    unfold badL
    rw [if_pos (h y List.mem_cons_self), ih (fun x hx => h x (List.mem_cons_of_mem _ hx))]
    rfl
theorem badL_some {l : List Ln} {k : Nat} (h : badL l = some k) : k < l.length ∧ (∀ j, j < k → ∀ x, l[j]? = some x → lnOk x) ∧ ∀ x, l[k]? = some x → ¬ lnOk x := by
  induction l generalizing k with
  | nil => cases h
  | cons y l ih =>
    unfold badL at h
    split at h
    · rename_i q
      cases e : badL l with
      | none => rw [e] at h; cases h
      | some j =>
        rw [e] at h
        obtain rfl : j + 1 = k := Option.some.inj h
        obtain ⟨h1, h2, h3⟩ := ih e
        refine ⟨by simp only [List.length_cons]; omega, fun i hi x hx => ?_, fun x hx => h3 x (by simpa using hx)⟩
        cases i with
        | zero => obtain rfl : y = x := by simpa using hx
                  exact q
        | succ i => exact h2 i (by omega) x (by simpa using hx)
    · rename_i q
      obtain rfl : 0 = k := Option.some.inj h
      exact ⟨by simp, fun j hj => by omega, fun x hx => by obtain rfl : y = x := by simpa using hx
                                                           exact q⟩
/-- what Sum answers: a number, an error's number, the place of a line (none: nothing around the error). -/
noncomputable def suV (T : CTab) (l : List Ln) : Int := open Classical in if badL l = none ∧ fits T l then s4 T l else 0
noncomputable def suC (T : CTab) (l : List Ln) : Int := open Classical in if badL l = none then (if fits T l then 0 else 104) else 103
theorem su_bad {T : CTab} {l : List Ln} {k : Nat} (h : badL l = some k) : suV T l = 0 ∧ suC T l = 103 := by
  unfold suV suC
  rw [if_neg (by rw [h]; exact fun e => by cases e.1), if_neg (by rw [h]; exact fun e => by cases e)]; exact ⟨rfl, rfl⟩
theorem su_over {T : CTab} {l : List Ln} (h : badL l = none) (hf : ¬ fits T l) : suV T l = 0 ∧ suC T l = 104 := by
  unfold suV suC
  rw [if_neg (fun e => hf e.2), if_pos h, if_neg hf]; exact ⟨rfl, rfl⟩
theorem su_fine {T : CTab} {l : List Ln} (h : badL l = none) (hf : fits T l) : suV T l = s4 T l ∧ suC T l = 0 := by
  unfold suV suC
  rw [if_pos ⟨h, hf⟩, if_pos h, if_pos hf]; exact ⟨rfl, rfl⟩
end Go.Proofs.YtghkmagofadkfaaDoor
