/-
  What a holding is worth: its terms, its steps, and what is said of them.
-/
import Derived.Test.YtphpmngaljldgaaDoorMoneyMath
import Derived.Test.YtphpmngaljldgaaDoorAssetMath
import Derived.Test.YtphpmngaljldgaaDoorDay
namespace Go.Proofs.YtphpmngaljldgaaDoor
open Go.RowKit
set_option linter.unusedVariables false

/-- terms: today, who holds it, whether it is eligible, price, rate, cut. -/
structure Tm where
  t : Int
  o : Int
  n : Bool
  p : Int
  r : Int
  c : Int
abbrev tmA (y : Tm) : Value := .agg #[.int .i64 y.t, .int .i64 y.o, .bool y.n, .int .i64 y.p, .int .i64 y.r, .int .i64 y.c]
def TmBig (y : Tm) : Prop := (-9223372036854775808 ≤ y.t ∧ y.t ≤ 9223372036854775807) ∧ (-9223372036854775808 ≤ y.o ∧ y.o ≤ 9223372036854775807) ∧ (-9223372036854775808 ≤ y.p ∧ y.p ≤ 9223372036854775807) ∧ (-9223372036854775808 ≤ y.r ∧ y.r ≤ 9223372036854775807) ∧ (-9223372036854775808 ≤ y.c ∧ y.c ≤ 9223372036854775807)
/-- steps: worth, base, value. -/
structure StT where
  w : Int
  b : Int
  v : Int
abbrev vsA (s : StT) : Value := .agg #[.int .i64 s.w, .int .i64 s.b, .int .i64 s.v]
abbrev vsZ : StT := ⟨0, 0, 0⟩

def ownB (a : As) (o : Int) : Bool := decide (o ≠ 0 ∧ a.s = o)
def cnB (a : As) (y : Tm) : Bool := y.n && lfB a.e y.t && !ownB a y.o
def prV (a : As) (p : Int) : Int := if a.c = 1 then 10000 else p
def w1V (a : As) (q : Int) (y : Tm) : Int := capV (win q 1000000000000 && win (prV a y.p) 1000000000) q (prV a y.p) 10000 false
def w1C (a : As) (q : Int) (y : Tm) : Int := capC (win q 1000000000000 && win (prV a y.p) 1000000000) q (prV a y.p) 10000 false
def b1V (a : As) (q : Int) (y : Tm) : Int := capV (win (w1V a q y) 1000000000000000 && win y.r 1000000000) (w1V a q y) y.r 1000000 false
def b1C (a : As) (q : Int) (y : Tm) : Int := capC (win (w1V a q y) 1000000000000000 && win y.r 1000000000) (w1V a q y) y.r 1000000 false
def l1V (a : As) (q : Int) (y : Tm) : Int := capV (win (b1V a q y) 1000000000000000 && win y.c 10000) (b1V a q y) (10000 - y.c) 10000 false
def l1C (a : As) (q : Int) (y : Tm) : Int := capC (win (b1V a q y) 1000000000000000 && win y.c 10000) (b1V a q y) (10000 - y.c) 10000 false
/-- the error's number, and the steps. -/
def vaC (a : As) (q : Int) (y : Tm) : Int := if w1C a q y = 0 then (if b1C a q y = 0 then (if cnB a y = true then l1C a q y else 0) else b1C a q y) else w1C a q y
def vaS (a : As) (q : Int) (y : Tm) : StT := if vaC a q y = 0 then ⟨w1V a q y, b1V a q y, if cnB a y = true then l1V a q y else 0⟩ else vsZ
theorem ownB_ways (a : As) (o : Int) : ((o != 0) = false ∧ ownB a o = false) ∨ ((o != 0) = true ∧ (a.s == o) = false ∧ ownB a o = false) ∨ ((o != 0) = true ∧ (a.s == o) = true ∧ ownB a o = true) := by
  unfold ownB
  simp only [decide_eq_true_iff, decide_eq_false_iff_not, beq_iff_eq, beq_eq_false_iff_ne, bne_iff_ne, bne_eq_false_iff_eq]
  omega
/-- the ways through the steps. -/
theorem value_ways (a : As) (q : Int) (y : Tm) :
    (¬ w1C a q y = 0 ∧ vaC a q y = w1C a q y ∧ vaS a q y = vsZ) ∨
    (w1C a q y = 0 ∧ ¬ b1C a q y = 0 ∧ vaC a q y = b1C a q y ∧ vaS a q y = vsZ) ∨
    (w1C a q y = 0 ∧ b1C a q y = 0 ∧ cnB a y = false ∧ vaC a q y = 0 ∧ vaS a q y = ⟨w1V a q y, b1V a q y, 0⟩) ∨
    (w1C a q y = 0 ∧ b1C a q y = 0 ∧ cnB a y = true ∧ ¬ l1C a q y = 0 ∧ vaC a q y = l1C a q y ∧ vaS a q y = vsZ) ∨
    (w1C a q y = 0 ∧ b1C a q y = 0 ∧ cnB a y = true ∧ l1C a q y = 0 ∧ vaC a q y = 0 ∧ vaS a q y = ⟨w1V a q y, b1V a q y, l1V a q y⟩) := by
  by_cases h1 : w1C a q y = 0
  · by_cases h2 : b1C a q y = 0
    · cases h3 : cnB a y
      · have hc : vaC a q y = 0 := by unfold vaC; rw [if_pos h1, if_pos h2, h3]; rfl
        exact .inr (.inr (.inl ⟨h1, h2, rfl, hc, by unfold vaS; rw [if_pos hc, h3]; rfl⟩))
      · have hc : vaC a q y = l1C a q y := by unfold vaC; rw [if_pos h1, if_pos h2, h3]; rfl
        by_cases h4 : l1C a q y = 0
        · exact .inr (.inr (.inr (.inr ⟨h1, h2, rfl, h4, hc.trans h4, by unfold vaS; rw [if_pos (hc.trans h4), h3]; rfl⟩)))
        · exact .inr (.inr (.inr (.inl ⟨h1, h2, rfl, h4, hc, by unfold vaS; rw [if_neg (by rw [hc]; exact h4)]⟩)))
    · have hc : vaC a q y = b1C a q y := by unfold vaC; rw [if_pos h1, if_neg h2]
      exact .inr (.inl ⟨h1, h2, hc, by unfold vaS; rw [if_neg (by rw [hc]; exact h2)]⟩)
  · have hc : vaC a q y = w1C a q y := if_neg h1
    exact .inl ⟨h1, hc, by unfold vaS; rw [if_neg (by rw [hc]; exact h1)]⟩
theorem errOf_no {A : Nat → Addr} {c : Int} (h : ¬ c = 0) : errOf A c = errAt (A (c - 101).toNat) := if_neg h
theorem vaC_ok (a : As) (q : Int) (y : Tm) : codeOk (vaC a q y) := by
  have k1 : codeOk (w1C a q y) := capC_ok _ _ _ _ _
  have k2 : codeOk (b1C a q y) := capC_ok _ _ _ _ _
  have k3 : codeOk (l1C a q y) := capC_ok _ _ _ _ _
  rcases value_ways a q y with ⟨_, e, _⟩ | ⟨_, _, e, _⟩ | ⟨_, _, _, e, _⟩ | ⟨_, _, _, _, e, _⟩ | ⟨_, _, _, _, e, _⟩
  · rw [e]; exact k1
  · rw [e]; exact k2
  · rw [e]; exact .inl rfl
  · rw [e]; exact k3
  · rw [e]; exact .inl rfl
theorem capV_bd (i : Bool) (a b c : Int) (up : Bool) : -9223372036854775808 ≤ capV i a b c up ∧ capV i a b c up ≤ 9223372036854775807 := by
  unfold capV amtV
  split
  · split
    · rename_i h
      unfold divAns
      have h2 := h.1
      rw [if_pos h2]
      unfold divOk at h2
      rw [Bool.and_eq_true] at h2
      exact (in64_iff _).1 h2.2
    · omega
  · omega
/-- cash is worth itself. -/
theorem cash_worth {a : As} {q : Int} {y : Tm} (h : a.c = 1) : (win q 1000000000000 = false → w1V a q y = 0 ∧ w1C a q y = 103) ∧ (win q 1000000000000 = true → w1V a q y = q ∧ w1C a q y = 0) := by
  have hp : prV a y.p = 10000 := if_pos h
  unfold w1V w1C
  rw [hp]
  refine ⟨fun hq => ?_, fun hq => ?_⟩
  · rw [hq]; exact ⟨rfl, rfl⟩
  · obtain ⟨q0, q1⟩ := win_yes hq
    have hd : divq q 10000 10000 false = q := by rw [divq_down]; omega
    rw [hq]
    have := cap_fine (a := q) (b := 10000) (c := 10000) (up := false) (by omega) (by omega) (by omega)
    rw [hd] at this
    exact this
theorem cash_none {a : As} {q : Int} {y : Tm} (h : ¬ a.c = 1) : w1V a q y = capV (win q 1000000000000 && win y.p 1000000000) q y.p 10000 false ∧ w1C a q y = capC (win q 1000000000000 && win y.p 1000000000) q y.p 10000 false := by
  have hp : prV a y.p = y.p := if_neg h
  unfold w1V w1C
  rw [hp]
  exact ⟨rfl, rfl⟩
end Go.Proofs.YtphpmngaljldgaaDoor
