/-
  What Least tells, by the rate's place; first.
-/
import Derived.Test.YtmihpgccdknhfaaDoorBound1
import Derived.Test.YtmihpgccdknhfaaDoorLotsLaw
import Derived.Test.YtmihpgccdknhfaaDoorBase
namespace Go.Proofs.YtmihpgccdknhfaaDoor
open Go.RowKit
set_option linter.unusedVariables false

section
variable {L : List Lt} {C : List Int} {n : Int}
theorem ls_some (h : OkP L C n) {F r : Nat} (hF : F ≤ L.length) (hr : rtOf L F = some r) {left K : Int} (h0 : 0 < left) (hK : left * (L.getD r ltZ).c ≤ K * (L.getD r ltZ).v) (hK2 : K ≤ 9223372036854775807) :
    lsB L F left = true ∧ lsV L F left = divq left (L.getD r ltZ).c (L.getD r ltZ).v true ∧ 0 ≤ lsV L F left ∧ lsV L F left ≤ K := by
  obtain ⟨q1, q2, q3, q4⟩ := (rateIs_of L F).2 r hr
  have hv := (ratedB_iff.1 q3).1
  have hl := h.lot q2
  have e : chL L F = L.getD r ltZ := by rw [chL_rate h hF, hr]; rfl
  have g0 := divq_pos hv (Int.le_of_lt h0) hl.2.2.1.1
  have g1 := (divq_le hv).2 hK
  have ok : divOk left (chL L F).c (chL L F).v true = true := by
    rw [e]
    unfold divOk in64
    rw [decide_eq_true hv, Bool.true_and]
    simp only [decide_eq_true_iff, Bool.and_eq_true]
    omega
  have ev : lsV L F left = divq left (L.getD r ltZ).c (L.getD r ltZ).v true := by
    unfold lsV divAns
    rw [if_neg (by omega), ok, if_pos rfl, e]
  refine ⟨?_, ev, by rw [ev]; exact g0, by rw [ev]; exact g1⟩
  unfold lsB
  rw [if_neg (by omega), ok]
theorem ls_none (h : OkP L C n) {F : Nat} (hF : F ≤ L.length) (hr : rtOf L F = none) {left : Int} (h0 : 0 < left) : lsB L F left = false ∧ lsV L F left = 0 := by
  have e : chL L F = ltZ := by rw [chL_rate h hF, hr]; rfl
  unfold lsB lsV
  rw [if_neg (by omega), if_neg (by omega), e]
  exact ⟨rfl, rfl⟩
theorem ls_zero (F : Nat) {left : Int} (h0 : left ≤ 0) : lsB L F left = true ∧ lsV L F left = 0 := by
  unfold lsB lsV
  rw [if_pos h0, if_pos h0]
  exact ⟨rfl, rfl⟩
/-- one more: no less; twice: at most twice; from a later one: no less. -/
theorem grows_ways (h : OkP L C n) {F : Nat} (hF : F < L.length) {x y : Int} (hx : 0 < x) (hx2 : x ≤ 1000000000) (hxy : x ≤ y) (hy : y ≤ 2000000000) :
    ((lsB L F x = true ∧ lsB L F y = true ∧ lsB L F (2 * x) = true) ∧ (lsV L F x ≤ lsV L F y ∧ lsV L F (2 * x) ≤ 2 * lsV L F x ∧ 0 ≤ lsV L F x ∧ lsV L F x ≤ 1000000000000000000) ∧ (lsB L (F + 1) x = false ∨ (lsB L (F + 1) x = true ∧ lsV L F x ≤ lsV L (F + 1) x))) ∨
    (lsB L F x = false ∧ lsB L F y = false ∧ lsB L (F + 1) x = false) := by
  cases hr : rtOf L F with
  | none =>
    refine .inr ⟨(ls_none h (Nat.le_of_lt hF) hr hx).1, (ls_none h (Nat.le_of_lt hF) hr (by omega)).1, ?_⟩
    cases hs : rtOf L (F + 1) with
    | none => exact (ls_none h hF hs hx).1
    | some s =>
      obtain ⟨r, e, _⟩ := rate_later (L := L) (Nat.le_succ F) hs
      rw [hr] at e; cases e
  | some r =>
    obtain ⟨q1, q2, q3, q4⟩ := (rateIs_of L F).2 r hr
    have hv := (ratedB_iff.1 q3).1
    have hl := h.lot q2
    have hb : ∀ (t K : Int), 0 ≤ t → t * 1000000000 ≤ K → t * (L.getD r ltZ).c ≤ K * (L.getD r ltZ).v := fun t K ht hK => by
      have h1 : t * (L.getD r ltZ).c ≤ t * 1000000000 := Int.mul_le_mul_of_nonneg_left hl.2.2.1.2 ht
      have h2 : K * 1 ≤ K * (L.getD r ltZ).v := Int.mul_le_mul_of_nonneg_left (by omega) (by omega)
      omega
    obtain ⟨a1, a2, a3, a4⟩ := ls_some h (Nat.le_of_lt hF) hr hx (hb x 1000000000000000000 (by omega) (by omega)) (by omega)
    obtain ⟨b1, b2, b3, b4⟩ := ls_some h (Nat.le_of_lt hF) hr (left := y) (by omega) (hb y 2000000000000000000 (by omega) (by omega)) (by omega)
    obtain ⟨d1, d2, d3, d4⟩ := ls_some h (Nat.le_of_lt hF) hr (left := 2 * x) (by omega) (hb (2 * x) 2000000000000000000 (by omega) (by omega)) (by omega)
    refine .inl ⟨⟨a1, b1, d1⟩, ⟨?_, ?_, a3, a4⟩, ?_⟩
    · rw [a2, b2]; exact divq_mono hv hl.2.2.1.1 hxy
    · rw [a2, d2]; exact divq_twice hv
    · cases hs : rtOf L (F + 1) with
      | none => exact .inl (ls_none h hF hs hx).1
      | some s =>
        obtain ⟨r', e, hle⟩ := rate_later (L := L) (Nat.le_succ F) hs
        rw [hr] at e
        obtain rfl := Option.some.inj e
        obtain ⟨p1, p2, p3, p4⟩ := (rateIs_of L (F + 1)).2 s hs
        have hvs := (ratedB_iff.1 p3).1
        have hls := h.lot p2
        have hbs : x * (L.getD s ltZ).c ≤ 1000000000000000000 * (L.getD s ltZ).v := by
          have h1 : x * (L.getD s ltZ).c ≤ x * 1000000000 := Int.mul_le_mul_of_nonneg_left hls.2.2.1.2 (by omega)
          have h2 : 1000000000000000000 * 1 ≤ 1000000000000000000 * (L.getD s ltZ).v := Int.mul_le_mul_of_nonneg_left (by omega) (by omega)
          omega
        obtain ⟨e1, e2, e3, e4⟩ := ls_some h hF hs hx hbs (by omega)
        refine .inr ⟨e1, ?_⟩
        rw [a2, e2]
        exact divq_rate hv hvs (by omega) hle
end
def firL : List Lt := [⟨3, 5, 2, 0⟩]
theorem firL_ok : OkP firL [0] 0 := by decide
theorem firL_ls : lsV firL 0 0 = 0 ∧ lsB firL 0 0 = true ∧ lsV firL 0 6 = 3 ∧ lsB firL 0 6 = true := by decide
end Go.Proofs.YtmihpgccdknhfaaDoor
