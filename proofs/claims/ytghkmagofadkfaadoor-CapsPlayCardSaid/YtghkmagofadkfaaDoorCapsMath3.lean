/-
  Sums in the order in which the document takes them: what is known behind so many classes, currencies, issuers, lines.
-/
import Derived.Test.YtghkmagofadkfaaDoorCapsMath2
import Derived.Test.YtghkmagofadkfaaDoorCaps5
namespace Go.Proofs.YtghkmagofadkfaaDoor
open Go Go.RowKit
set_option linter.unusedVariables false

theorem sumN_mono {f : Nat → Int} {a b : Nat} (h : ∀ k, 0 ≤ f k) (hab : a ≤ b) : sumN f a ≤ sumN f b := by
  induction b with
  | zero => rw [Nat.le_zero.1 hab]; exact Int.le_refl _
  | succ b ih =>
    rcases Nat.lt_or_eq_of_le hab with q | rfl
    · have := ih (by omega)
      have := h b
      simp only [sumN]
      omega
    · exact Int.le_refl _
def f3 (T : CTab) (l : List Ln) (c m : Int) (k : Nat) : Int := capN (s1 l c m (k : Int)) (getC T (3, (k : Int)))
def f2 (T : CTab) (l : List Ln) (c : Int) (k : Nat) : Int := capN (s2 T l c ((k : Int) + 1)) (getC T (2, (k : Int) + 1))
def f1 (T : CTab) (l : List Ln) (k : Nat) : Int := capN (s3 T l ((k : Int) + 1)) (getC T (1, (k : Int) + 1))
/-- what is known behind j issuers, currencies, classes. -/
def g4 (T : CTab) (l : List Ln) (c m : Int) (j : Nat) (y : Int) : Prop := y = sumN (f3 T l c m) j ∧ y ≤ 1000000000000000 ∧ ∀ i : Int, 0 ≤ i → i < (j : Int) → s1 l c m i ≤ 1000000000000000
def g3 (T : CTab) (l : List Ln) (c : Int) (j : Nat) (y : Int) : Prop := y = sumN (f2 T l c) j ∧ y ≤ 1000000000000000 ∧ ∀ m : Int, 1 ≤ m → m ≤ (j : Int) → (∀ i : Int, 0 ≤ i → i ≤ 32 → s1 l c m i ≤ 1000000000000000) ∧ s2 T l c m ≤ 1000000000000000
def g2 (T : CTab) (l : List Ln) (j : Nat) (y : Int) : Prop := y = sumN (f1 T l) j ∧ y ≤ 1000000000000000 ∧
  ∀ c : Int, 1 ≤ c → c ≤ (j : Int) → (∀ m : Int, 1 ≤ m → m ≤ 6 → (∀ i : Int, 0 ≤ i → i ≤ 32 → s1 l c m i ≤ 1000000000000000) ∧ s2 T l c m ≤ 1000000000000000) ∧ s3 T l c ≤ 1000000000000000
section
variable {T : CTab} {l : List Ln}
theorem g4_start (c m : Int) : g4 T l c m 0 0 := ⟨rfl, by omega, fun i h1 h2 => by simp at h2; omega⟩
theorem g3_start (c : Int) : g3 T l c 0 0 := ⟨rfl, by omega, fun i h1 h2 => by simp at h2; omega⟩
theorem g2_start : g2 T l 0 0 := ⟨rfl, by omega, fun i h1 h2 => by simp at h2; omega⟩
theorem f3_nn (h : ∀ x ∈ l, lnOk x) (c m : Int) (k : Nat) : 0 ≤ f3 T l c m k := capN_nn _ (s1_nn h _ _ _)
theorem f2_nn (h : ∀ x ∈ l, lnOk x) (c : Int) (k : Nat) : 0 ≤ f2 T l c k := capN_nn _ (s2_nn h _ _)
theorem f1_nn (h : ∀ x ∈ l, lnOk x) (k : Nat) : 0 ≤ f1 T l k := capN_nn _ (s3_nn h _)
theorem wrap_two {a b : Int} (h1 : 0 ≤ a) (h2 : a ≤ 1000000000000000) (h3 : 0 ≤ b) (h4 : b ≤ 1000000000000000) : IntKind.i64.wrap (a + b) = a + b := by rw [IntKind.wrap_i64]; omega
theorem s1_take_le (h : ∀ x ∈ l, lnOk x) (k : Nat) (c m i : Int) : s1 (l.take k) c m i ≤ s1 l c m i := by
  have e : s1 l c m i = s1 (l.take k) c m i + s1 (l.drop k) c m i := by rw [← s1_app, List.take_append_drop]
  have := s1_nn (l := l.drop k) (fun x hx => h x (List.mem_of_mem_drop hx)) c m i
  omega
/-- one more line of these. -/
theorem step_line (h : ∀ x ∈ l, lnOk x) {k : Nat} (hk : k < l.length) {c m i : Int} (hc : 1 ≤ c ∧ c ≤ 6) (hm : 1 ≤ m ∧ m ≤ 6) (hi : 0 ≤ i ∧ i ≤ 32) (he : (l.getD k lnZ).c = c ∧ (l.getD k lnZ).m = m ∧ (l.getD k lnZ).i = i) {x : Int} (hx : x = s1 (l.take k) c m i) (hx2 : x ≤ 1000000000000000) :
    IntKind.i64.wrap (x + (l.getD k lnZ).v) = s1 (l.take (k + 1)) c m i ∧ (1000000000000000 < IntKind.i64.wrap (x + (l.getD k lnZ).v) → ¬ fits T l) := by
  have hv := (h _ (getL_mem hk)).2.2.2
  have hx0 := s1_nn (l := l.take k) (fun x hx => h x (List.mem_of_mem_take hx)) c m i
  have e1 : s1 (l.take (k + 1)) c m i = x + (l.getD k lnZ).v := by
    rw [take_snocL l k hk, s1_snoc, hx]
    unfold hitL
    rw [if_pos he]
  rw [wrap_two (by omega) hx2 hv.1 hv.2]
  refine ⟨e1.symm, fun ho hf => ?_⟩
  have h1 := ((hf.1 c hc.1 hc.2).1 m hm.1 hm.2).1 i hi.1 hi.2
  have h2 := s1_take_le h (k + 1) c m i
  omega
theorem step_other {k : Nat} (hk : k < l.length) {c m i : Int} (he : ¬ ((l.getD k lnZ).c = c ∧ (l.getD k lnZ).m = m ∧ (l.getD k lnZ).i = i)) : s1 (l.take (k + 1)) c m i = s1 (l.take k) c m i := by
  rw [take_snocL l k hk, s1_snoc]
  unfold hitL
  rw [if_neg he, Int.add_zero]
theorem step_issuer (h : ∀ x ∈ l, lnOk x) {c m : Int} (hc : 1 ≤ c ∧ c ≤ 6) (hm : 1 ≤ m ∧ m ≤ 6) {j : Nat} (hj : j < 33) {y : Int} (hy : g4 T l c m j y) (hx : s1 l c m (j : Int) ≤ 1000000000000000) :
    (IntKind.i64.wrap (y + capN (s1 l c m (j : Int)) (getC T (3, (j : Int)))) ≤ 1000000000000000 → g4 T l c m (j + 1) (IntKind.i64.wrap (y + capN (s1 l c m (j : Int)) (getC T (3, (j : Int)))))) ∧
    (1000000000000000 < IntKind.i64.wrap (y + capN (s1 l c m (j : Int)) (getC T (3, (j : Int)))) → ¬ fits T l) := by
  have hy0 : 0 ≤ y := by rw [hy.1]; exact sumN_nn fun k _ => f3_nn h _ _ _
  have hf0 := f3_nn (T := T) h c m j
  have hf1 : f3 T l c m j ≤ 1000000000000000 := Int.le_trans (capN_le _ _) hx
  have e : sumN (f3 T l c m) (j + 1) = y + f3 T l c m j := by rw [hy.1]; rfl
  change (IntKind.i64.wrap (y + f3 T l c m j) ≤ _ → _) ∧ (_ < IntKind.i64.wrap (y + f3 T l c m j) → _)
  have e2 : IntKind.i64.wrap (y + capN (s1 l c m (j : Int)) (getC T (3, (j : Int)))) = y + f3 T l c m j := wrap_two hy0 hy.2.1 hf0 hf1
  rw [e2, wrap_two hy0 hy.2.1 hf0 hf1]
  refine ⟨fun q => ⟨e.symm, q, fun i h1 h2 => ?_⟩, fun ho hf => ?_⟩
  · by_cases q2 : i < (j : Int)
    · exact hy.2.2 i h1 q2
    · have : i = (j : Int) := by omega
      rw [this]; exact hx
  · have h1 := ((hf.1 c hc.1 hc.2).1 m hm.1 hm.2).2
    have h2 : sumN (f3 T l c m) (j + 1) ≤ s2 T l c m := sumN_mono (f3_nn h c m) (by omega)
    omega
theorem step_money (h : ∀ x ∈ l, lnOk x) {c : Int} (hc : 1 ≤ c ∧ c ≤ 6) {j : Nat} (hj : j < 6) {y z : Int} (hy : g3 T l c j y) (hz : g4 T l c ((j : Int) + 1) 33 z) :
    (IntKind.i64.wrap (y + capN z (getC T (2, (j : Int) + 1))) ≤ 1000000000000000 → g3 T l c (j + 1) (IntKind.i64.wrap (y + capN z (getC T (2, (j : Int) + 1))))) ∧
    (1000000000000000 < IntKind.i64.wrap (y + capN z (getC T (2, (j : Int) + 1))) → ¬ fits T l) := by
  have hzs : z = s2 T l c ((j : Int) + 1) := hz.1
  have hy0 : 0 ≤ y := by rw [hy.1]; exact sumN_nn fun k _ => f2_nn h _ _
  have hf0 := f2_nn (T := T) h c j
  have e0 : capN z (getC T (2, (j : Int) + 1)) = f2 T l c j := by rw [hzs]; rfl
  have hf1 : f2 T l c j ≤ 1000000000000000 := by rw [← e0]; exact Int.le_trans (capN_le _ _) hz.2.1
  have e : sumN (f2 T l c) (j + 1) = y + f2 T l c j := by rw [hy.1]; rfl
  rw [e0, wrap_two hy0 hy.2.1 hf0 hf1]
  refine ⟨fun q => ⟨e.symm, q, fun m h1 h2 => ?_⟩, fun ho hf => ?_⟩
  · by_cases q2 : m ≤ (j : Int)
    · exact hy.2.2 m h1 q2
    · have : m = (j : Int) + 1 := by omega
      rw [this]
      exact ⟨fun i h3 h4 => hz.2.2 i h3 (by omega), by rw [← hzs]; exact hz.2.1⟩
  · have h1 := (hf.1 c hc.1 hc.2).2
    have h2 : sumN (f2 T l c) (j + 1) ≤ s3 T l c := sumN_mono (f2_nn h c) (by omega)
    omega
theorem step_class (h : ∀ x ∈ l, lnOk x) {j : Nat} (hj : j < 6) {y z : Int} (hy : g2 T l j y) (hz : g3 T l ((j : Int) + 1) 6 z) :
    (IntKind.i64.wrap (y + capN z (getC T (1, (j : Int) + 1))) ≤ 1000000000000000 → g2 T l (j + 1) (IntKind.i64.wrap (y + capN z (getC T (1, (j : Int) + 1))))) ∧
    (1000000000000000 < IntKind.i64.wrap (y + capN z (getC T (1, (j : Int) + 1))) → ¬ fits T l) := by
  have hzs : z = s3 T l ((j : Int) + 1) := hz.1
  have hy0 : 0 ≤ y := by rw [hy.1]; exact sumN_nn fun k _ => f1_nn h _
  have hf0 := f1_nn (T := T) h j
  have e0 : capN z (getC T (1, (j : Int) + 1)) = f1 T l j := by rw [hzs]; rfl
  have hf1 : f1 T l j ≤ 1000000000000000 := by rw [← e0]; exact Int.le_trans (capN_le _ _) hz.2.1
  have e : sumN (f1 T l) (j + 1) = y + f1 T l j := by rw [hy.1]; rfl
  rw [e0, wrap_two hy0 hy.2.1 hf0 hf1]
  refine ⟨fun q => ⟨e.symm, q, fun c h1 h2 => ?_⟩, fun ho hf => ?_⟩
  · by_cases q2 : c ≤ (j : Int)
    · exact hy.2.2 c h1 q2
    · have : c = (j : Int) + 1 := by omega
      rw [this]
      exact ⟨fun m h3 h4 => hz.2.2 m h3 h4, by rw [← hzs]; exact hz.2.1⟩
  · have h1 := hf.2
    have h2 : sumN (f1 T l) (j + 1) ≤ s4 T l := sumN_mono (f1_nn h) (by omega)
    omega
theorem g2_end {y : Int} (hy : g2 T l 6 y) : fits T l ∧ y = s4 T l := ⟨⟨fun c h1 h2 => hy.2.2 c h1 h2, by have := hy.2.1; rw [hy.1] at this; exact this⟩, hy.1⟩
end
end Go.Proofs.YtghkmagofadkfaaDoor
