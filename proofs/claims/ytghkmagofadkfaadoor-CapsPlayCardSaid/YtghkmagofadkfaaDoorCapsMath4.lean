/-
  What counts of lines: at most their sum; one line; one line more; without limits; of one class.
-/
import Derived.Test.YtghkmagofadkfaaDoorCapsMath2
namespace Go.Proofs.YtghkmagofadkfaaDoor
open Go Go.RowKit
set_option linter.unusedVariables false

/-! Sums of the values alone. -/
def t2 : List Ln → Int → Int → Int
  | [], _, _ => 0
  | x :: l, c, m => (if x.c = c ∧ x.m = m then x.v else 0) + t2 l c m
def t3 : List Ln → Int → Int
  | [], _ => 0
  | x :: l, c => (if x.c = c then x.v else 0) + t3 l c
def totL : List Ln → Int
  | [] => 0
  | x :: l => x.v + totL l
theorem totL_app (a b : List Ln) : totL (a ++ b) = totL a + totL b := by
  induction a with
  | nil => simp [totL]
  | cons x a ih => simp only [List.cons_append, totL, ih]; omega
theorem totL_nn {l : List Ln} (h : ∀ x ∈ l, lnOk x) : 0 ≤ totL l := by
  induction l with
  | nil => exact Int.le_refl 0
  | cons x l ih =>
    have := ih (fun y hy => h y (List.mem_cons_of_mem _ hy)); have := (h x List.mem_cons_self).2.2.2.1
    simp only [totL]; omega
theorem sumN_const0 (n : Nat) : sumN (fun _ => 0) n = 0 := sumN_zero fun _ _ => rfl
theorem s1_t2 {l : List Ln} (h : ∀ x ∈ l, lnOk x) (c m : Int) : sumN (fun k => s1 l c m (k : Int)) 33 = t2 l c m := by
  induction l with
  | nil => exact sumN_const0 33
  | cons x l ih =>
    have hx := (h x List.mem_cons_self).2.2.1
    simp only [s1, t2]
    rw [sumN_add, ih (fun y hy => h y (List.mem_cons_of_mem _ hy))]
    congr 1
    rw [sumN_one (a := x.i.toNat) (by omega) (fun k hk hne => by unfold hitL; rw [if_neg (fun q => hne (by omega))])]
    unfold hitL
    by_cases q : x.c = c ∧ x.m = m
    · rw [if_pos ⟨q.1, q.2, by omega⟩, if_pos q]
    · rw [if_neg (fun z => q ⟨z.1, z.2.1⟩), if_neg q]
theorem t2_t3 {l : List Ln} (h : ∀ x ∈ l, lnOk x) (c : Int) : sumN (fun k => t2 l c ((k : Int) + 1)) 6 = t3 l c := by
  induction l with
  | nil => exact sumN_const0 6
  | cons x l ih =>
    have hx := (h x List.mem_cons_self).2.1
    simp only [t2, t3]
    rw [sumN_add, ih (fun y hy => h y (List.mem_cons_of_mem _ hy))]
    congr 1
    rw [sumN_one (a := (x.m - 1).toNat) (by omega) (fun k hk hne => by rw [if_neg (fun q => hne (by omega))])]
    by_cases q : x.c = c
    · rw [if_pos ⟨q, by omega⟩, if_pos q]
    · rw [if_neg (fun z => q z.1), if_neg q]
theorem t3_tot {l : List Ln} (h : ∀ x ∈ l, lnOk x) : sumN (fun k => t3 l ((k : Int) + 1)) 6 = totL l := by
  induction l with
  | nil => exact sumN_const0 6
  | cons x l ih =>
    have hx := (h x List.mem_cons_self).1
    simp only [t3, totL]
    rw [sumN_add, ih (fun y hy => h y (List.mem_cons_of_mem _ hy))]
    congr 1
    rw [sumN_one (a := (x.c - 1).toNat) (by omega) (fun k hk hne => by rw [if_neg (fun q => hne (by omega))])]
    rw [if_pos (by omega)]
section
variable {T : CTab} {l : List Ln}
theorem s1_le (h : ∀ x ∈ l, lnOk x) (c m i : Int) : s1 l c m i ≤ totL l := by
  induction l with
  | nil => exact Int.le_refl 0
  | cons x l ih =>
    have := ih (fun y hy => h y (List.mem_cons_of_mem _ hy))
    have := (h x List.mem_cons_self).2.2.2.1
    simp only [s1, totL]; unfold hitL
    split <;> omega
theorem t2_le (h : ∀ x ∈ l, lnOk x) (c m : Int) : t2 l c m ≤ totL l := by
  induction l with
  | nil => exact Int.le_refl 0
  | cons x l ih =>
    have := ih (fun y hy => h y (List.mem_cons_of_mem _ hy))
    have := (h x List.mem_cons_self).2.2.2.1
    simp only [t2, totL]
    split <;> omega
theorem t3_le (h : ∀ x ∈ l, lnOk x) (c : Int) : t3 l c ≤ totL l := by
  induction l with
  | nil => exact Int.le_refl 0
  | cons x l ih =>
    have := ih (fun y hy => h y (List.mem_cons_of_mem _ hy))
    have := (h x List.mem_cons_self).2.2.2.1
    simp only [t3, totL]
    split <;> omega
theorem s2_le (h : ∀ x ∈ l, lnOk x) (c m : Int) : s2 T l c m ≤ t2 l c m := by
  rw [← s1_t2 h]; exact sumN_le fun k _ => capN_le _ _
theorem s3_le (h : ∀ x ∈ l, lnOk x) (c : Int) : s3 T l c ≤ t3 l c := by
  rw [← t2_t3 h]; exact sumN_le fun k _ => Int.le_trans (capN_le _ _) (s2_le h _ _)
theorem s4_le (h : ∀ x ∈ l, lnOk x) : s4 T l ≤ totL l := by
  rw [← t3_tot h]; exact sumN_le fun k _ => Int.le_trans (capN_le _ _) (s3_le h _)
/-- small sums fit. -/
theorem fits_small (h : ∀ x ∈ l, lnOk x) (ht : totL l ≤ 1000000000000000) : fits T l :=
  ⟨fun c _ _ => ⟨fun m _ _ => ⟨fun i _ _ => Int.le_trans (s1_le h c m i) ht, Int.le_trans (s2_le h c m) (Int.le_trans (t2_le h c m) ht)⟩, Int.le_trans (s3_le h c) (Int.le_trans (t3_le h c) ht)⟩, Int.le_trans (s4_le h) ht⟩
theorem su_small (h : ∀ x ∈ l, lnOk x) (ht : totL l ≤ 1000000000000000) : suV T l = s4 T l ∧ suC T l = 0 := su_fine (badL_fine h) (fits_small h ht)
/-- without the limits of some kinds. -/
theorem s2_free (h : ∀ x ∈ l, lnOk x) (h3 : ∀ i, getC T (3, i) = 0) (c m : Int) : s2 T l c m = t2 l c m := by
  rw [← s1_t2 h]; exact sumN_eq fun k _ => by rw [h3, capN_free]
theorem s3_free (h : ∀ x ∈ l, lnOk x) (h3 : ∀ i, getC T (3, i) = 0) (h2 : ∀ i, getC T (2, i) = 0) (c : Int) : s3 T l c = t3 l c := by
  rw [← t2_t3 h]; exact sumN_eq fun k _ => by rw [h2, capN_free, s2_free h h3]
theorem s4_free (h : ∀ x ∈ l, lnOk x) (h3 : ∀ i, getC T (3, i) = 0) (h2 : ∀ i, getC T (2, i) = 0) (h1 : ∀ i, getC T (1, i) = 0) : s4 T l = totL l := by
  rw [← t3_tot h]; exact sumN_eq fun k _ => by rw [h1, capN_free, s3_free h h3 h2]
end
/-- one of the terms has grown. -/
theorem sumN_grow {f g : Nat → Int} {n a : Nat} {d : Int} (ha : a < n) (h : ∀ k, k < n → k ≠ a → g k = f k) (h1 : f a ≤ g a) (h2 : g a ≤ f a + d) : sumN f n ≤ sumN g n ∧ sumN g n ≤ sumN f n + d := by
  rw [sumN_turn ha h]; omega
section
variable (T : CTab) (l : List Ln) (x : Ln)
theorem s2_other {c m : Int} (h : ¬ (x.c = c ∧ x.m = m)) : s2 T (x :: l) c m = s2 T l c m := sumN_eq fun k _ => by
  simp only [s1]
  unfold hitL
  rw [if_neg (fun q => h ⟨q.1, q.2.1⟩), Int.zero_add]
theorem s3_other {c : Int} (h : x.c ≠ c) : s3 T (x :: l) c = s3 T l c := sumN_eq fun k _ => by rw [s2_other T l x (fun q => h q.1)]
theorem s2_more (hx : lnOk x) (c m : Int) : s2 T l c m ≤ s2 T (x :: l) c m ∧ s2 T (x :: l) c m ≤ s2 T l c m + (if x.c = c ∧ x.m = m then x.v else 0) := by
  by_cases q : x.c = c ∧ x.m = m
  · rw [if_pos q]
    have hi := hx.2.2.1
    refine sumN_grow (a := x.i.toNat) (by omega) (fun k hk hne => ?_) ?_ ?_
    · simp only [s1]
      unfold hitL
      rw [if_neg (fun z => hne (by omega)), Int.zero_add]
    · simp only [s1]
      unfold hitL
      rw [if_pos ⟨q.1, q.2, by omega⟩, Int.add_comm]
      exact (capN_step _ hx.2.2.2.1).1
    · simp only [s1]
      unfold hitL
      rw [if_pos ⟨q.1, q.2, by omega⟩, Int.add_comm]
      exact (capN_step _ hx.2.2.2.1).2
  · rw [if_neg q, s2_other T l x q]; omega
theorem capN_more {a b d m : Int} (h1 : a ≤ b) (h2 : b ≤ a + d) : capN a m ≤ capN b m ∧ capN b m ≤ capN a m + d := by unfold capN; split <;> split <;> omega
theorem s3_more (hx : lnOk x) (c : Int) : s3 T l c ≤ s3 T (x :: l) c ∧ s3 T (x :: l) c ≤ s3 T l c + (if x.c = c then x.v else 0) := by
  by_cases q : x.c = c
  · rw [if_pos q]
    have hm := hx.2.1
    have hs := s2_more T l x hx c x.m
    rw [if_pos ⟨q, rfl⟩] at hs
    have e : (((x.m - 1).toNat : Nat) : Int) + 1 = x.m := by omega
    refine sumN_grow (a := (x.m - 1).toNat) (by omega) (fun k hk hne => ?_) ?_ ?_
    · rw [s2_other T l x (fun z => hne (by omega))]
    · simp only [e]; exact (capN_more hs.1 hs.2).1
    · simp only [e]; exact (capN_more hs.1 hs.2).2
  · rw [if_neg q, s3_other T l x q]; omega
theorem s4_more (hx : lnOk x) : s4 T l ≤ s4 T (x :: l) ∧ s4 T (x :: l) ≤ s4 T l + x.v := by
  have hc := hx.1
  have hs := s3_more T l x hx x.c
  rw [if_pos rfl] at hs
  have e : (((x.c - 1).toNat : Nat) : Int) + 1 = x.c := by omega
  refine sumN_grow (a := (x.c - 1).toNat) (by omega) (fun k hk hne => ?_) ?_ ?_
  · rw [s3_other T l x (fun z => hne (by omega))]
  · simp only [e]; exact (capN_more hs.1 hs.2).1
  · simp only [e]; exact (capN_more hs.1 hs.2).2
end
/-- what counts hangs on the groups' sums alone. -/
theorem s4_same {T : CTab} {l r : List Ln} (h : ∀ c m i, s1 l c m i = s1 r c m i) : s4 T l = s4 T r := by
  have e : s1 l = s1 r := by funext c m i; exact h c m i
  unfold s4 s3 s2
  rw [e]
/-- no line is of these. -/
theorem s2_none {T : CTab} (hC : CaT T) {l : List Ln} {c m : Int} (h : ∀ i, s1 l c m i = 0) : s2 T l c m = 0 := sumN_zero fun k _ => by rw [h]; exact capN_zero (hC.get _).1
theorem s3_none {T : CTab} (hC : CaT T) {l : List Ln} {c : Int} (h : ∀ m i, s1 l c m i = 0) : s3 T l c = 0 := sumN_zero fun k _ => by rw [s2_none hC (h _)]; exact capN_zero (hC.get _).1
/-- one class alone. -/
theorem s4_class {T : CTab} (hC : CaT T) {l : List Ln} {d : Int} (hd : 1 ≤ d ∧ d ≤ 6) (h : ∀ c m i, c ≠ d → s1 l c m i = 0) : s4 T l = capN (s3 T l d) (getC T (1, d)) := by
  unfold s4
  rw [sumN_one (a := (d - 1).toNat) (by omega) (fun k hk hne => by rw [s3_none hC (fun m i => h _ m i (by omega))]; exact capN_zero (hC.get _).1)]
  rw [show (((d - 1).toNat : Nat) : Int) + 1 = d by omega]
theorem s3_money {T : CTab} (hC : CaT T) {l : List Ln} {c d : Int} (hd : 1 ≤ d ∧ d ≤ 6) (h : ∀ m i, m ≠ d → s1 l c m i = 0) : s3 T l c = capN (s2 T l c d) (getC T (2, d)) := by
  unfold s3
  rw [sumN_one (a := (d - 1).toNat) (by omega) (fun k hk hne => by rw [s2_none hC (fun i => h _ i (by omega))]; exact capN_zero (hC.get _).1)]
  rw [show (((d - 1).toNat : Nat) : Int) + 1 = d by omega]
theorem s2_issuer {T : CTab} (hC : CaT T) {l : List Ln} {c m d : Int} (hd : 0 ≤ d ∧ d ≤ 32) (h : ∀ i, i ≠ d → s1 l c m i = 0) : s2 T l c m = capN (s1 l c m d) (getC T (3, d)) := by
  unfold s2
  rw [sumN_one (a := d.toNat) (by omega) (fun k hk hne => by rw [h _ (by omega)]; exact capN_zero (hC.get _).1)]
  rw [show ((d.toNat : Nat) : Int) = d by omega]
/-- one line alone. -/
theorem s4_one {T : CTab} (hC : CaT T) {x : Ln} (hx : lnOk x) : s4 T [x] = capN (capN (capN x.v (getC T (3, x.i))) (getC T (2, x.m))) (getC T (1, x.c)) := by
  have e : ∀ c m i, s1 [x] c m i = if x.c = c ∧ x.m = m ∧ x.i = i then x.v else 0 := fun c m i => by simp [s1, hitL]
  rw [s4_class hC hx.1 (fun c m i q => by rw [e, if_neg (fun z => q z.1.symm)]), s3_money hC hx.2.1 (fun m i q => by rw [e, if_neg (fun z => q z.2.1.symm)]),
    s2_issuer hC hx.2.2.1 (fun i q => by rw [e, if_neg (fun z => q z.2.2.symm)]), e, if_pos ⟨rfl, rfl, rfl⟩]
/-- the lines of one class. -/
theorem s1_part (l : List Ln) (d c m i : Int) : s1 (l.filter (fun x => x.c == d)) c m i = if c = d then s1 l c m i else 0 := by
  induction l with
  | nil => simp [s1]
  | cons x l ih =>
    by_cases q : x.c = d
    · rw [List.filter_cons_of_pos (by simpa using q)]
      simp only [s1, ih]
      by_cases q2 : c = d
      · rw [if_pos q2, if_pos q2]
      · rw [if_neg q2, if_neg q2]
        unfold hitL
        rw [if_neg (fun z => q2 (by rw [← z.1, q]))]; rfl
    · rw [List.filter_cons_of_neg (by simpa using q), ih]
      by_cases q2 : c = d
      · rw [if_pos q2, if_pos q2]
        simp only [s1]
        unfold hitL
        rw [if_neg (fun z => q (by rw [z.1, q2])), Int.zero_add]
      · rw [if_neg q2, if_neg q2]
theorem s4_part {T : CTab} (hC : CaT T) (l : List Ln) {d : Int} (hd : 1 ≤ d ∧ d ≤ 6) : s4 T (l.filter (fun x => x.c == d)) = capN (s3 T l d) (getC T (1, d)) := by
  rw [s4_class hC hd (fun c m i q => by rw [s1_part, if_neg q])]
  have e : s3 T (l.filter (fun x => x.c == d)) d = s3 T l d := sumN_eq fun k _ => by
    have : s2 T (l.filter (fun x => x.c == d)) d ((k : Int) + 1) = s2 T l d ((k : Int) + 1) := sumN_eq fun j _ => by rw [s1_part, if_pos rfl]
    rw [this]
  rw [e]
end Go.Proofs.YtghkmagofadkfaaDoor
