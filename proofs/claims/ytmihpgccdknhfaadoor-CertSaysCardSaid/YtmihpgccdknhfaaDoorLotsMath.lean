/-
  Lots: what a take of them is worth by groups, what it costs; one unit more; the order of lots; the greedy take.
-/
import Derived.Test.YtmihpgccdknhfaaDoorRet
namespace Go.Proofs.YtmihpgccdknhfaaDoor
open Go Go.RowKit
set_option linter.unusedVariables false

structure Lt where
  u : Int
  v : Int
  c : Int
  g : Int
def ltZ : Lt := ⟨0, 0, 0, 0⟩
abbrev ltV (x : Lt) : List Value := [.int .i64 x.u, .int .i64 x.v, .int .i64 x.c, .int .i64 x.g]
abbrev ltA (x : Lt) : Value := .agg #[.int .i64 x.u, .int .i64 x.v, .int .i64 x.c, .int .i64 x.g]
theorem ltV_len (x : Lt) : (ltV x).length = 4 := rfl
theorem ltV_one (x : Lt) : ∀ u ∈ ltV x, u.oneCell' = true := fun u hu => by
  simp only [ltV, List.mem_cons, List.not_mem_nil, or_false] at hu
  rcases hu with rfl | rfl | rfl | rfl <;> rfl
abbrev In64 (n : Int) : Prop := -9223372036854775808 ≤ n ∧ n ≤ 9223372036854775807
def ltBig (x : Lt) : Prop := In64 x.u ∧ In64 x.v ∧ In64 x.c ∧ In64 x.g
/-- a lot that may be, among m groups. -/
def ltOk (m : Nat) (x : Lt) : Prop := (0 ≤ x.u ∧ x.u ≤ 1000) ∧ (0 ≤ x.v ∧ x.v ≤ 1000000000) ∧ (0 ≤ x.c ∧ x.c ≤ 1000000000) ∧ (0 ≤ x.g ∧ x.g < (m : Int))
instance (m : Nat) (x : Lt) : Decidable (ltOk m x) := by unfold ltOk; infer_instance
def capOk (n : Int) : Prop := 0 ≤ n ∧ n ≤ 1000000000000
instance (n : Int) : Decidable (capOk n) := by unfold capOk; infer_instance
def manyOk (L : List Lt) (C : List Int) : Prop := (1 ≤ L.length ∧ L.length ≤ 8) ∧ (1 ≤ C.length ∧ C.length ≤ 8)
instance (L : List Lt) (C : List Int) : Decidable (manyOk L C) := by unfold manyOk; infer_instance
def partsOk (L : List Lt) (C : List Int) (n : Int) : Prop := (∀ x ∈ L, ltOk C.length x) ∧ (∀ c ∈ C, capOk c) ∧ capOk n
instance (L : List Lt) (C : List Int) (n : Int) : Decidable (partsOk L C n) := by unfold partsOk; infer_instance
/-- a problem that may be. -/
def OkP (L : List Lt) (C : List Int) (n : Int) : Prop := manyOk L C ∧ partsOk L C n
instance (L : List Lt) (C : List Int) (n : Int) : Decidable (OkP L C n) := by unfold OkP; infer_instance
/-- the error's number. -/
def pbC (L : List Lt) (C : List Int) (n : Int) : Int := if manyOk L C then (if partsOk L C n then 0 else 103) else 105
theorem pbC_many {L : List Lt} {C : List Int} {n : Int} (h : ¬ manyOk L C) : pbC L C n = 105 := if_neg h
theorem pbC_bad {L : List Lt} {C : List Int} {n : Int} (h : manyOk L C) (g : ¬ partsOk L C n) : pbC L C n = 103 := by unfold pbC; rw [if_pos h, if_neg g]
theorem pbC_ok {L : List Lt} {C : List Int} {n : Int} (h : OkP L C n) : pbC L C n = 0 := by unfold pbC; rw [if_pos h.1, if_pos h.2]
theorem pbC_iff {L : List Lt} {C : List Int} {n : Int} : pbC L C n = 0 ↔ OkP L C n := by
  unfold pbC OkP
  split
  · split <;> simp_all
  · simp_all
theorem pbC_ways (L : List Lt) (C : List Int) (n : Int) : pbC L C n = 0 ∨ pbC L C n = 103 ∨ pbC L C n = 105 := by
  unfold pbC
  split
  · split <;> simp
  · simp
theorem OkP.lot {L : List Lt} {C : List Int} {n : Int} (h : OkP L C n) {k : Nat} (hk : k < L.length) : ltOk C.length (L.getD k ltZ) := by
  have := h.2.1 (L[k]) (List.getElem_mem hk)
  rwa [List.getD_eq_getElem?_getD, List.getElem?_eq_getElem hk]
theorem OkP.cap {L : List Lt} {C : List Int} {n : Int} (h : OkP L C n) {k : Nat} (hk : k < C.length) : capOk (C.getD k 0) := by
  have := h.2.2.1 (C[k]) (List.getElem_mem hk)
  rwa [List.getD_eq_getElem?_getD, List.getElem?_eq_getElem hk]

/-! Sums. -/
def sumF (f : Nat → Int) : Nat → Int
  | 0 => 0
  | k + 1 => sumF f k + f k
theorem sumF_bd {f : Nat → Int} {M : Int} : ∀ {k : Nat}, (∀ i, i < k → 0 ≤ f i ∧ f i ≤ M) → 0 ≤ sumF f k ∧ sumF f k ≤ (k : Int) * M
  | 0, _ => by simp [sumF]
  | k + 1, h => by
    have ih := sumF_bd (k := k) (fun i hi => h i (by omega))
    have := h k (by omega)
    have e : ((k + 1 : Nat) : Int) * M = (k : Int) * M + M := by rw [Int.natCast_add, Int.add_mul]; omega
    rw [e]
    show 0 ≤ sumF f k + f k ∧ sumF f k + f k ≤ _
    omega
theorem sumF_le {f g : Nat → Int} : ∀ {k : Nat}, (∀ i, i < k → f i ≤ g i) → sumF f k ≤ sumF g k
  | 0, _ => Int.le_refl _
  | k + 1, h => by
    have ih := sumF_le (k := k) (fun i hi => h i (by omega))
    have := h k (by omega)
    show sumF f k + f k ≤ sumF g k + g k
    omega
theorem sumF_same {f g : Nat → Int} : ∀ {k : Nat}, (∀ i, i < k → f i = g i) → sumF f k = sumF g k
  | 0, _ => rfl
  | k + 1, h => by
    have ih := sumF_same (k := k) (fun i hi => h i (by omega))
    have := h k (by omega)
    show sumF f k + f k = sumF g k + g k
    omega
theorem sumF_one {f g : Nat → Int} {i : Nat} : ∀ {k : Nat}, i < k → (∀ j, j < k → j ≠ i → f j = g j) → sumF g k = sumF f k + (g i - f i)
  | 0, h, _ => by omega
  | k + 1, h, hs => by
    show sumF g k + g k = sumF f k + f k + (g i - f i)
    by_cases e : i = k
    · subst e
      have := sumF_same (f := f) (g := g) (k := i) (fun j hj => hs j (by omega) (by omega))
      omega
    · have ih := sumF_one (k := k) (by omega) (fun j hj hn => hs j (by omega) hn)
      have := hs k (by omega) (fun q => e q.symm)
      omega
theorem sumF_zero {f : Nat → Int} {k : Nat} (h : ∀ i, i < k → f i = 0) : sumF f k = 0 := by
  have := sumF_bd (f := f) (M := 0) (k := k) (fun i hi => by rw [h i hi]; omega)
  simp at this
  omega

/-! Takes. -/
def TkOk (L : List Lt) (t : List Int) : Prop := t.length = L.length ∧ ∀ i, i < L.length → 0 ≤ t.getD i 0 ∧ t.getD i 0 ≤ (L.getD i ltZ).u
def TkB (L : List Lt) (t : List Int) : Bool := decide (t.length = L.length) && (List.range L.length).all fun i => decide (0 ≤ t.getD i 0 ∧ t.getD i 0 ≤ (L.getD i ltZ).u)
theorem tkB_iff {L : List Lt} {t : List Int} : TkB L t = true ↔ TkOk L t := by
  unfold TkB TkOk
  simp only [Bool.and_eq_true, decide_eq_true_iff, List.all_eq_true, List.mem_range]
instance (L : List Lt) (t : List Int) : Decidable (TkOk L t) := decidable_of_iff _ tkB_iff
theorem prod_bd {a b A B : Int} (h0 : 0 ≤ a) (h1 : a ≤ A) (g0 : 0 ≤ b) (g1 : b ≤ B) : 0 ≤ a * b ∧ a * b ≤ A * B := ⟨Int.mul_nonneg h0 g0, Int.mul_le_mul h1 g1 g0 (by omega)⟩
/-- what lot i counts in group g. -/
def gsF (L : List Lt) (t : List Int) (g : Int) (i : Nat) : Int := if (L.getD i ltZ).g = g then t.getD i 0 * (L.getD i ltZ).v else 0
def gs (L : List Lt) (t : List Int) (g : Int) (k : Nat) : Int := sumF (gsF L t g) k
def capd (c n : Int) : Int := if c = 0 then n else min n c
def woF (L : List Lt) (C t : List Int) (j : Nat) : Int := capd (C.getD j 0) (gs L t (j : Int) L.length)
/-- what a take is worth. -/
def wo (L : List Lt) (C t : List Int) : Int := sumF (woF L C t) C.length
def coF (L : List Lt) (t : List Int) (i : Nat) : Int := t.getD i 0 * (L.getD i ltZ).c
def co (L : List Lt) (t : List Int) : Int := sumF (coF L t) L.length
def full (L : List Lt) : List Int := L.map Lt.u
theorem full_at (L : List Lt) (i : Nat) : (full L).getD i 0 = (L.getD i ltZ).u := by
  unfold full
  rw [List.getD_eq_getElem?_getD, List.getD_eq_getElem?_getD, List.getElem?_map]
  cases L[i]? <;> rfl
theorem full_len (L : List Lt) : (full L).length = L.length := List.length_map _
section
variable {L : List Lt} {C : List Int} {n : Int}
theorem tk_full (h : OkP L C n) : TkOk L (full L) := ⟨full_len L, fun i hi => by have := (h.lot hi).1; rw [full_at]; omega⟩
theorem gsF_bd (h : OkP L C n) {t : List Int} (ht : TkOk L t) (g : Int) {i : Nat} (hi : i < L.length) : 0 ≤ gsF L t g i ∧ gsF L t g i ≤ 1000000000000 := by
  have h1 := h.lot hi
  have h2 := ht.2 i hi
  unfold ltOk at h1
  have := prod_bd (a := t.getD i 0) (A := 1000) (b := (L.getD i ltZ).v) (B := 1000000000) (by omega) (by omega) (by omega) (by omega)
  unfold gsF
  split <;> omega
theorem gs_bd (h : OkP L C n) {t : List Int} (ht : TkOk L t) (g : Int) {k : Nat} (hk : k ≤ L.length) : 0 ≤ gs L t g k ∧ gs L t g k ≤ 8000000000000 := by
  have := sumF_bd (f := gsF L t g) (M := 1000000000000) (k := k) (fun i hi => gsF_bd h ht g (by omega))
  have hL := h.1.1.2
  unfold gs
  omega
theorem capd_bd {c n : Int} (hc : 0 ≤ c) (hn : 0 ≤ n) : 0 ≤ capd c n ∧ capd c n ≤ n := by unfold capd; split <;> omega
theorem capd_mono {c n m : Int} (h : n ≤ m) : capd c n ≤ capd c m := by unfold capd; split <;> omega
theorem capd_lip {c n d : Int} (hd : 0 ≤ d) : capd c n ≤ capd c (n + d) ∧ capd c (n + d) ≤ capd c n + d := by unfold capd; split <;> omega
theorem capd_free {c n : Int} : capd c n ≤ capd 0 n := by unfold capd; split <;> simp <;> omega
theorem woF_bd (h : OkP L C n) {t : List Int} (ht : TkOk L t) {j : Nat} (hj : j < C.length) : 0 ≤ woF L C t j ∧ woF L C t j ≤ 8000000000000 := by
  have h1 := gs_bd h ht (j : Int) (Nat.le_refl _)
  have := capd_bd (h.cap hj).1 h1.1
  unfold woF
  omega
theorem woS_bd (h : OkP L C n) {t : List Int} (ht : TkOk L t) {k : Nat} (hk : k ≤ C.length) : 0 ≤ sumF (woF L C t) k ∧ sumF (woF L C t) k ≤ 64000000000000 := by
  have := sumF_bd (f := woF L C t) (M := 8000000000000) (k := k) (fun i hi => woF_bd h ht (by omega))
  have hC := h.1.2.2
  omega
theorem wo_bd (h : OkP L C n) {t : List Int} (ht : TkOk L t) : 0 ≤ wo L C t ∧ wo L C t ≤ 64000000000000 := woS_bd h ht (Nat.le_refl _)
theorem coF_bd (h : OkP L C n) {t : List Int} (ht : TkOk L t) {i : Nat} (hi : i < L.length) : 0 ≤ coF L t i ∧ coF L t i ≤ 1000000000000 := by
  have h1 := h.lot hi
  have h2 := ht.2 i hi
  unfold ltOk at h1
  have := prod_bd (a := t.getD i 0) (A := 1000) (b := (L.getD i ltZ).c) (B := 1000000000) (by omega) (by omega) (by omega) (by omega)
  unfold coF
  omega
theorem coS_bd (h : OkP L C n) {t : List Int} (ht : TkOk L t) {k : Nat} (hk : k ≤ L.length) : 0 ≤ sumF (coF L t) k ∧ sumF (coF L t) k ≤ 8000000000000 := by
  have := sumF_bd (f := coF L t) (M := 1000000000000) (k := k) (fun i hi => coF_bd h ht (by omega))
  have hL := h.1.1.2
  omega
theorem wo_mono (h : OkP L C n) {t s : List Int} (hts : ∀ i, i < L.length → t.getD i 0 ≤ s.getD i 0) : wo L C t ≤ wo L C s := by
  refine sumF_le fun j hj => capd_mono (sumF_le fun i hi => ?_)
  have h1 := (h.lot hi).2.1.1
  unfold gsF
  split
  · exact Int.mul_le_mul_of_nonneg_right (hts i hi) h1
  · omega
theorem wo_most (h : OkP L C n) {t : List Int} (ht : TkOk L t) : wo L C t ≤ wo L C (full L) := wo_mono h fun i hi => by rw [full_at]; exact (ht.2 i hi).2
/-- one unit more. -/
def plus (t : List Int) (i : Nat) : List Int := t.set i (t.getD i 0 + 1)
def less (t : List Int) (i : Nat) : List Int := t.set i (t.getD i 0 - 1)
theorem set_at (t : List Int) (i j : Nat) (x : Int) (hi : i < t.length) : (t.set i x).getD j 0 = if j = i then x else t.getD j 0 := by
  rw [List.getD_eq_getElem?_getD]
  by_cases e : j = i
  · subst e; rw [List.getElem?_set_self hi, if_pos rfl]; rfl
  · rw [List.getElem?_set_ne (fun q => e q.symm), if_neg e, List.getD_eq_getElem?_getD]
theorem plus_len (t : List Int) (i : Nat) : (plus t i).length = t.length := List.length_set
theorem plus_at {t : List Int} {i : Nat} (hi : i < t.length) (j : Nat) : (plus t i).getD j 0 = if j = i then t.getD i 0 + 1 else t.getD j 0 := set_at t i j _ hi
theorem less_len (t : List Int) (i : Nat) : (less t i).length = t.length := List.length_set
theorem less_at {t : List Int} {i : Nat} (hi : i < t.length) (j : Nat) : (less t i).getD j 0 = if j = i then t.getD i 0 - 1 else t.getD j 0 := set_at t i j _ hi
theorem set_back (t : List Int) (i : Nat) (x : Int) (hi : i < t.length) : (t.set i x).set i (t.getD i 0) = t := by
  rw [List.set_set, List.getD_eq_getElem?_getD, List.getElem?_eq_getElem hi]
  exact List.set_getElem_self hi
theorem less_plus {t : List Int} {i : Nat} (hi : i < t.length) : less (plus t i) i = t := by
  unfold less
  rw [plus_at hi, if_pos rfl, show t.getD i 0 + 1 - 1 = t.getD i 0 by omega]
  exact set_back t i _ hi
theorem tk_plus {t : List Int} (ht : TkOk L t) {i : Nat} (hi : i < L.length) (hu : t.getD i 0 < (L.getD i ltZ).u) : TkOk L (plus t i) := by
  refine ⟨by rw [plus_len]; exact ht.1, fun j hj => ?_⟩
  rw [plus_at (by rw [ht.1]; exact hi)]
  have h1 := ht.2 j hj
  split
  · rename_i e; subst e; omega
  · exact h1
theorem tk_less {t : List Int} (ht : TkOk L t) {i : Nat} (hi : i < L.length) (hu : 0 < t.getD i 0) : TkOk L (less t i) := by
  refine ⟨by rw [less_len]; exact ht.1, fun j hj => ?_⟩
  rw [less_at (by rw [ht.1]; exact hi)]
  have h1 := ht.2 j hj
  split
  · rename_i e; subst e; omega
  · exact h1
theorem gs_plus {t : List Int} (hl : t.length = L.length) {i : Nat} (hi : i < L.length) (g : Int) : gs L (plus t i) g L.length = gs L t g L.length + if (L.getD i ltZ).g = g then (L.getD i ltZ).v else 0 := by
  unfold gs
  rw [sumF_one (f := gsF L t g) (i := i) hi (fun j hj hn => by unfold gsF; rw [plus_at (by omega), if_neg hn])]
  congr 1
  unfold gsF
  rw [plus_at (by omega), if_pos rfl]
  split
  · rw [Int.add_mul]; omega
  · omega
/-- what one unit more is worth more. -/
theorem wo_plus (h : OkP L C n) {t : List Int} (hl : t.length = L.length) {i : Nat} (hi : i < L.length) :
    wo L C (plus t i) = wo L C t + (capd (C.getD (L.getD i ltZ).g.toNat 0) (gs L t (L.getD i ltZ).g L.length + (L.getD i ltZ).v) - capd (C.getD (L.getD i ltZ).g.toNat 0) (gs L t (L.getD i ltZ).g L.length)) := by
  have hg := (h.lot hi).2.2.2
  have e : (((L.getD i ltZ).g.toNat : Nat) : Int) = (L.getD i ltZ).g := by omega
  unfold wo
  rw [sumF_one (f := woF L C t) (i := (L.getD i ltZ).g.toNat) (by omega) (fun j hj hn => by
    unfold woF
    rw [gs_plus hl hi, if_neg (by omega), Int.add_zero])]
  congr 1
  unfold woF
  rw [gs_plus hl hi, e, if_pos rfl]
theorem wo_up (h : OkP L C n) {t : List Int} (hl : t.length = L.length) {i : Nat} (hi : i < L.length) : wo L C t ≤ wo L C (plus t i) ∧ wo L C (plus t i) ≤ wo L C t + (L.getD i ltZ).v := by
  have := capd_lip (c := C.getD (L.getD i ltZ).g.toNat 0) (n := gs L t (L.getD i ltZ).g L.length) (h.lot hi).2.1.1
  rw [wo_plus h hl hi]
  omega
theorem co_up {t : List Int} (hl : t.length = L.length) {i : Nat} (hi : i < L.length) : co L (plus t i) = co L t + (L.getD i ltZ).c := by
  unfold co
  rw [sumF_one (f := coF L t) (i := i) hi (fun j hj hn => by unfold coF; rw [plus_at (by omega), if_neg hn])]
  congr 1
  unfold coF
  rw [plus_at (by omega), if_pos rfl, Int.add_mul]
  omega
theorem zeros_at (k j : Nat) : (List.replicate k (0 : Int)).getD j 0 = 0 := by
  rw [List.getD_eq_getElem?_getD, List.getElem?_replicate]
  split <;> rfl
/-- without limits. -/
theorem ok_free (h : OkP L C n) : OkP L (List.replicate C.length 0) n := by
  obtain ⟨⟨h1, h2⟩, h3, h4, h5⟩ := h
  refine ⟨⟨h1, by rw [List.length_replicate]; exact h2⟩, by rw [List.length_replicate]; exact h3, fun c hc => ?_, h5⟩
  rw [(List.mem_replicate.1 hc).2]
  exact ⟨by omega, by omega⟩
theorem wo_free_up (h : OkP L C n) (hz : ∀ j, j < C.length → C.getD j 0 = 0) {t : List Int} (hl : t.length = L.length) {i : Nat} (hi : i < L.length) : wo L C (plus t i) = wo L C t + (L.getD i ltZ).v := by
  have hg := (h.lot hi).2.2.2
  rw [wo_plus h hl hi, hz _ (by omega)]
  unfold capd
  simp only [if_pos]
  omega
theorem wo_free (t : List Int) : wo L C t ≤ wo L (List.replicate C.length 0) t := by
  unfold wo
  rw [List.length_replicate]
  refine sumF_le fun j hj => ?_
  unfold woF
  rw [zeros_at]
  exact capd_free
theorem tk_zero (h : OkP L C n) : TkOk L (List.replicate L.length 0) := ⟨List.length_replicate, fun i hi => by have := (h.lot hi).1; rw [zeros_at]; omega⟩
theorem gs_zero (g : Int) (k m : Nat) : gs L (List.replicate m 0) g k = 0 := sumF_zero fun i hi => by unfold gsF; rw [zeros_at, Int.zero_mul, ite_self]
theorem wo_zero (h : OkP L C n) : wo L C (List.replicate L.length 0) = 0 := sumF_zero fun j hj => by
  have := (h.cap hj).1
  unfold woF
  rw [gs_zero]
  unfold capd
  split <;> omega

/-! What is answered. -/
def goodB (L : List Lt) (C : List Int) (n : Int) (t : List Int) : Bool := decide (OkP L C n) && decide (TkOk L t)
theorem goodB_yes (h : OkP L C n) {t : List Int} (ht : TkOk L t) : goodB L C n t = true := by unfold goodB; rw [decide_eq_true h, decide_eq_true ht]; rfl
theorem goodB_iff {t : List Int} : goodB L C n t = true ↔ OkP L C n ∧ TkOk L t := by unfold goodB; simp
theorem goodB_no {t : List Int} (h : ¬ (OkP L C n ∧ TkOk L t)) : goodB L C n t = false := by
  cases e : goodB L C n t
  · rfl
  · exact absurd (goodB_iff.1 e) h
def woV (L : List Lt) (C : List Int) (n : Int) (t : List Int) : Int := if goodB L C n t = true then wo L C t else 0
def coV (L : List Lt) (C : List Int) (n : Int) (t : List Int) : Int := if goodB L C n t = true then co L t else 0
def moV (L : List Lt) (C : List Int) (n : Int) : Int := woV L C n (full L)
def fiB (L : List Lt) (C : List Int) (n : Int) (t : List Int) : Bool := goodB L C n t && decide (n ≤ woV L C n t)
end

/-! The order. -/
/-- a costs more for what it is worth than b. -/
def dear (a b : Lt) : Bool := if a.v = 0 ∨ b.v = 0 then decide (a.v = 0 ∧ b.v ≠ 0) else decide (b.c * a.v < a.c * b.v)
def insAt (L : List Lt) (s : List Nat) (x : Nat) : Nat → Nat
  | 0 => 0
  | k + 1 => if dear (L.getD (s.getD k 0) ltZ) (L.getD x ltZ) = true then insAt L s x k else k + 1
def ins (L : List Lt) (s : List Nat) (x : Nat) : List Nat := s.take (insAt L s x s.length) ++ x :: s.drop (insAt L s x s.length)
def ordTo (L : List Lt) : Nat → List Nat
  | 0 => []
  | k + 1 => ins L (ordTo L k) k
def ordL (L : List Lt) : List Nat := ordTo L L.length
theorem insAt_le (L : List Lt) (s : List Nat) (x : Nat) : ∀ k, insAt L s x k ≤ k
  | 0 => Nat.le_refl _
  | k + 1 => by
    unfold insAt
    split
    · have := insAt_le L s x k; omega
    · omega
theorem ins_len (L : List Lt) (s : List Nat) (x : Nat) : (ins L s x).length = s.length + 1 := by
  have := insAt_le L s x s.length
  simp [ins]
  omega
theorem mem_ins {L : List Lt} {s : List Nat} {x y : Nat} : y ∈ ins L s x ↔ y ∈ s ∨ y = x := by
  unfold ins
  rw [List.mem_append, List.mem_cons]
  have hm : y ∈ s ↔ y ∈ s.take (insAt L s x s.length) ∨ y ∈ s.drop (insAt L s x s.length) := by rw [← List.mem_append, List.take_append_drop]
  rw [hm]
  constructor
  · rintro (h | h | h)
    · exact .inl (.inl h)
    · exact .inr h
    · exact .inl (.inr h)
  · rintro ((h | h) | h)
    · exact .inl h
    · exact .inr (.inr h)
    · exact .inr (.inl h)
theorem ordTo_len (L : List Lt) : ∀ k, (ordTo L k).length = k
  | 0 => rfl
  | k + 1 => by rw [ordTo, ins_len, ordTo_len L k]
theorem mem_ordTo {L : List Lt} {y : Nat} : ∀ {k : Nat}, y ∈ ordTo L k ↔ y < k
  | 0 => by simp [ordTo]
  | k + 1 => by
    rw [ordTo, mem_ins, mem_ordTo (k := k)]
    omega
theorem ordTo_lt {L : List Lt} {k j : Nat} (h : j < k) : (ordTo L k).getD j 0 < k := by
  have hl := ordTo_len L k
  rw [List.getD_eq_getElem?_getD, List.getElem?_eq_getElem (by omega)]
  exact mem_ordTo.1 (List.getElem_mem _)
/-- two neighbours of a list change places. -/
theorem swap_at (s r : List Nat) (x k : Nat) (hk : k < s.length) :
    ((s.take (k + 1) ++ x :: s.drop (k + 1) ++ r).set (k + 1) (s.getD k 0)).set k x = s.take k ++ x :: s.drop k ++ r := by
  rw [List.take_succ_eq_append_getElem hk, List.drop_eq_getElem_cons hk, List.getD_eq_getElem?_getD, List.getElem?_eq_getElem hk]
  have hA : (s.take k).length = k := by rw [List.length_take]; omega
  simp only [Option.getD_some, List.append_assoc, List.cons_append, List.nil_append]
  rw [List.set_append_right _ _ (by omega), hA, show k + 1 - k = 1 by omega, List.set_append_right _ _ (by omega), hA, Nat.sub_self]
  rfl

/-! The greedy take. -/
def gl (L : List Lt) (C : List Int) (n : Int) (i : Nat) : Nat → List Int × Int → List Int × Int
  | 0, s => s
  | f + 1, s => if s.2 < n ∧ s.1.getD i 0 < (L.getD i ltZ).u then (if wo L C (plus s.1 i) ≤ s.2 then s else gl L C n i f (plus s.1 i, wo L C (plus s.1 i))) else s
def gAll (L : List Lt) (C : List Int) (n : Int) (o : List Nat) (s : List Int × Int) : List Int × Int := o.foldl (fun s i => gl L C n i 1000 s) s
def gSt (L : List Lt) : List Int × Int := (List.replicate L.length 0, 0)
def gR (L : List Lt) (C : List Int) (n : Int) : List Int × Int := gAll L C n (ordL L) (gSt L)
section
variable {L : List Lt} {C : List Int} {n : Int}
theorem gl_stop {i f : Nat} {s : List Int × Int} (h : ¬ (s.2 < n ∧ s.1.getD i 0 < (L.getD i ltZ).u)) : gl L C n i f s = s := by
  cases f with
  | zero => rfl
  | succ f => rw [gl, if_neg h]
theorem gl_full {i f : Nat} {s : List Int × Int} (h : s.2 < n ∧ s.1.getD i 0 < (L.getD i ltZ).u) (g : wo L C (plus s.1 i) ≤ s.2) : gl L C n i f s = s := by
  cases f with
  | zero => rfl
  | succ f => rw [gl, if_pos h, if_pos g]
theorem gl_go {i f : Nat} {s : List Int × Int} (h : s.2 < n ∧ s.1.getD i 0 < (L.getD i ltZ).u) (g : ¬ wo L C (plus s.1 i) ≤ s.2) : gl L C n i (f + 1) s = gl L C n i f (plus s.1 i, wo L C (plus s.1 i)) := by rw [gl, if_pos h, if_neg g]
/-- what holds of a take on the way. -/
def GInv (L : List Lt) (C : List Int) (n : Int) (s : List Int × Int) : Prop :=
  TkOk L s.1 ∧ s.2 = wo L C s.1 ∧ (s.1 = List.replicate L.length 0 ∨ ∃ i, i < L.length ∧ 0 < s.1.getD i 0 ∧ wo L C (less s.1 i) < n)
theorem ginv_start (h : OkP L C n) : GInv L C n (gSt L) := ⟨tk_zero h, (wo_zero h).symm, .inl rfl⟩
theorem ginv_plus (h : OkP L C n) {s : List Int × Int} (hs : GInv L C n s) {i : Nat} (hi : i < L.length) (hc : s.2 < n ∧ s.1.getD i 0 < (L.getD i ltZ).u) : GInv L C n (plus s.1 i, wo L C (plus s.1 i)) := by
  obtain ⟨h1, h2, h3⟩ := hs
  have hl : i < s.1.length := by rw [h1.1]; exact hi
  refine ⟨tk_plus h1 hi hc.2, rfl, .inr ⟨i, hi, ?_, ?_⟩⟩
  · have := (h1.2 i hi).1
    show 0 < (plus s.1 i).getD i 0
    rw [plus_at hl, if_pos rfl]; omega
  · show wo L C (less (plus s.1 i) i) < n
    rw [less_plus hl, ← h2]
    exact hc.1
theorem ginv_gl (h : OkP L C n) {i : Nat} (hi : i < L.length) : ∀ (f : Nat) (s : List Int × Int), GInv L C n s → GInv L C n (gl L C n i f s)
  | 0, s, hs => hs
  | f + 1, s, hs => by
    by_cases hc : s.2 < n ∧ s.1.getD i 0 < (L.getD i ltZ).u
    · by_cases hw : wo L C (plus s.1 i) ≤ s.2
      · rw [gl_full hc hw]; exact hs
      · rw [gl_go hc hw]; exact ginv_gl h hi f _ (ginv_plus h hs hi hc)
    · rw [gl_stop hc]; exact hs
theorem ginv_all (h : OkP L C n) : ∀ (o : List Nat) (s : List Int × Int), (∀ i ∈ o, i < L.length) → GInv L C n s → GInv L C n (gAll L C n o s)
  | [], s, _, hs => hs
  | i :: o, s, ho, hs => ginv_all h o _ (fun j hj => ho j (List.mem_cons_of_mem _ hj)) (ginv_gl h (ho i List.mem_cons_self) 1000 s hs)
theorem ginv_R (h : OkP L C n) : GInv L C n (gR L C n) := ginv_all h _ _ (fun i hi => mem_ordTo.1 hi) (ginv_start h)
/-- nothing more of lot i. -/
def Done (L : List Lt) (n : Int) (s : List Int × Int) (i : Nat) : Prop := n ≤ s.2 ∨ s.1.getD i 0 = (L.getD i ltZ).u ∨ (L.getD i ltZ).v = 0
theorem done_keep (h : OkP L C n) {i j : Nat} (hj : j < L.length) : ∀ (f : Nat) (s : List Int × Int), GInv L C n s → Done L n s i → Done L n (gl L C n j f s) i
  | 0, s, _, hd => hd
  | f + 1, s, hs, hd => by
    by_cases hc : s.2 < n ∧ s.1.getD j 0 < (L.getD j ltZ).u
    · by_cases hw : wo L C (plus s.1 j) ≤ s.2
      · rw [gl_full hc hw]; exact hd
      · rw [gl_go hc hw]
        refine done_keep h hj f _ (ginv_plus h hs hj hc) ?_
        rcases hd with hd | hd | hd
        · omega
        · refine .inr (.inl ?_)
          show (plus s.1 j).getD i 0 = _
          rw [plus_at (by rw [hs.1.1]; exact hj)]
          split
          · rename_i e; subst e; omega
          · exact hd
        · exact .inr (.inr hd)
    · rw [gl_stop hc]; exact hd
theorem done_gl (h : OkP L C n) (hz : ∀ j, j < C.length → C.getD j 0 = 0) {i : Nat} (hi : i < L.length) : ∀ (f : Nat) (s : List Int × Int), GInv L C n s → (L.getD i ltZ).u - s.1.getD i 0 ≤ (f : Int) → Done L n (gl L C n i f s) i
  | 0, s, hs, hf => by
    have := (hs.1.2 i hi).2
    exact .inr (.inl (by show s.1.getD i 0 = _; omega))
  | f + 1, s, hs, hf => by
    have h2 := (hs.1.2 i hi).2
    by_cases hc : s.2 < n ∧ s.1.getD i 0 < (L.getD i ltZ).u
    · have hup := wo_free_up h hz hs.1.1 hi
      by_cases hw : wo L C (plus s.1 i) ≤ s.2
      · rw [gl_full hc hw]
        have hv := (h.lot hi).2.1.1
        have := hs.2.1
        exact .inr (.inr (by omega))
      · rw [gl_go hc hw]
        refine done_gl h hz hi f _ (ginv_plus h hs hi hc) ?_
        show _ - (plus s.1 i).getD i 0 ≤ _
        rw [plus_at (by rw [hs.1.1]; exact hi), if_pos rfl]
        omega
    · rw [gl_stop hc]
      by_cases q : s.2 < n
      · exact .inr (.inl (by omega))
      · exact .inl (by omega)
theorem done_all (h : OkP L C n) (hz : ∀ j, j < C.length → C.getD j 0 = 0) {i : Nat} : ∀ (o : List Nat) (s : List Int × Int), (∀ j ∈ o, j < L.length) → GInv L C n s → (i ∈ o ∨ Done L n s i) → Done L n (gAll L C n o s) i
  | [], s, _, _, hd => by
    rcases hd with hd | hd
    · cases hd
    · exact hd
  | j :: o, s, ho, hs, hd => by
    have hj := ho j List.mem_cons_self
    refine done_all h hz o _ (fun k hk => ho k (List.mem_cons_of_mem _ hk)) (ginv_gl h hj 1000 s hs) ?_
    rcases hd with hd | hd
    · rcases List.mem_cons.1 hd with rfl | hd
      · have h1 := (h.lot hj).1
        have h2 := (hs.1.2 i hj).1
        exact .inr (done_gl h hz hj 1000 s hs (by omega))
      · exact .inl hd
    · exact .inr (done_keep h hj 1000 s hs hd)
/-- without limits nothing is left that would count. -/
theorem greedy_free (h : OkP L C n) (hz : ∀ j, j < C.length → C.getD j 0 = 0) (hn : (gR L C n).2 < n) : wo L C (full L) < n := by
  have hi := ginv_R h
  have hd : ∀ i, i < L.length → Done L n (gR L C n) i := fun i hi => done_all h hz _ _ (fun j hj => mem_ordTo.1 hj) (ginv_start h) (.inl (mem_ordTo.2 hi))
  have e : wo L C (full L) = wo L C (gR L C n).1 := by
    refine sumF_same fun j hj => ?_
    unfold woF
    congr 1
    refine sumF_same fun i hl => ?_
    unfold gsF
    rw [full_at]
    rcases hd i hl with q | q | q
    · omega
    · rw [q]
    · rw [q, Int.mul_zero, Int.mul_zero]
  rw [e, ← hi.2.1]
  exact hn
/-- what is greedy fits; not all that there is is too little; of some lot none may be left out, if anything is taken. -/
theorem greedy_fits (h : OkP L C n) (hn : ¬ (gR L C n).2 < n) : n ≤ wo L C (gR L C n).1 ∧ n ≤ wo L C (full L) := by
  have hi := ginv_R h
  have := wo_most h hi.1
  have := hi.2.1
  omega
end
end Go.Proofs.YtmihpgccdknhfaaDoor
