/-
  Plain numbers: quotients of products, cut towards less or more.
-/
import Derived.Test.YtaojahjgfgmpfaaDoorFixMath
namespace Go.Proofs.YtaojahjgfgmpfaaDoor
open Go Go.RowKit

theorem mul_no {a b : Int} (ha : -9223372036854775808 ≤ a) (ha2 : a ≤ 9223372036854775807) (hb : -9223372036854775808 ≤ b) (hb2 : b ≤ 9223372036854775807) (h : (hi64 (a * b) != wrap64 (lo64 (a * b)) / 9223372036854775808) = true) : in64 (a * b) = false := by
  rw [← Bool.not_eq_true]
  intro hn
  rw [bne_iff_ne] at h
  exact h ((mul_fits ha ha2 hb hb2).2 hn)
theorem mul_yes {a b : Int} (ha : -9223372036854775808 ≤ a) (ha2 : a ≤ 9223372036854775807) (hb : -9223372036854775808 ≤ b) (hb2 : b ≤ 9223372036854775807) (h : (hi64 (a * b) != wrap64 (lo64 (a * b)) / 9223372036854775808) = false) : in64 (a * b) = true ∧ wrap64 (lo64 (a * b)) = a * b := by
  have e : hi64 (a * b) = wrap64 (lo64 (a * b)) / 9223372036854775808 := by simpa using h
  have hn := (mul_fits ha ha2 hb hb2).1 e
  refine ⟨hn, ?_⟩
  have := (in64_iff _).1 hn
  unfold wrap64 lo64; omega

/-- A product over a number above 0, cut towards less, or towards more. -/
def divq (a b c : Int) (up : Bool) : Int := if up = true then -(-(a * b) / c) else a * b / c
theorem neg_ediv' (P c : Int) (hc : 0 < c) : -P / c = if P % c = 0 then -(P / c) else -(P / c) - 1 := by
  have h1 := Int.mul_ediv_add_emod P c
  have h2 := Int.emod_nonneg P (show c ≠ 0 by omega)
  have h3 := Int.emod_lt_of_pos P hc
  generalize P / c = q at *
  generalize P % c = r at *
  subst h1
  split
  · rename_i h; subst h
    rw [show -(c * q + 0) = (-q) * c by grind, Int.mul_ediv_cancel _ (by omega)]
  · rw [show -(c * q + r) = (c - r) + (-q - 1) * c by grind, Int.add_mul_ediv_right _ _ (by omega), Int.ediv_eq_zero_of_lt (by omega) (by omega)]
    omega
/-- the product by its size and its side. -/
theorem mul_size (a b : Int) : a * b = if (decide (a < 0) != decide (b < 0)) = true then -((a.natAbs : Int) * (b.natAbs : Int)) else (a.natAbs : Int) * (b.natAbs : Int) := by
  by_cases ha : a < 0 <;> by_cases hb : b < 0
  · have e1 : (a.natAbs : Int) = -a := by omega
    have e2 : (b.natAbs : Int) = -b := by omega
    simp [ha, hb, e1, e2]; grind
  · have e1 : (a.natAbs : Int) = -a := by omega
    have e2 : (b.natAbs : Int) = b := by omega
    simp [ha, hb, e1, e2]; grind
  · have e1 : (a.natAbs : Int) = a := by omega
    have e2 : (b.natAbs : Int) = -b := by omega
    simp [ha, hb, e1, e2]; grind
  · have e1 : (a.natAbs : Int) = a := by omega
    have e2 : (b.natAbs : Int) = b := by omega
    simp [ha, hb, e1, e2]
/-- the size that is signed, of the quotient of the sizes. -/
def sizeq (P c : Int) (away : Bool) : Int := if P % c = 0 then P / c else if away = true then P / c + 1 else P / c
theorem divq_size (a b c : Int) (up : Bool) (hc : 0 < c) :
    divq a b c up = if (decide (a < 0) != decide (b < 0)) = true then -(sizeq ((a.natAbs : Int) * (b.natAbs : Int)) c (up != (decide (a < 0) != decide (b < 0)))) else sizeq ((a.natAbs : Int) * (b.natAbs : Int)) c (up != (decide (a < 0) != decide (b < 0))) := by
  unfold divq sizeq
  rw [mul_size a b]
  generalize (a.natAbs : Int) * (b.natAbs : Int) = P
  generalize (decide (a < 0) != decide (b < 0)) = n
  cases n <;> cases up <;> simp [neg_ediv' P c hc] <;> split <;> omega

theorem div_end {a b c P : Int} {up : Bool} (hd : divq a b c up = if (decide (a < 0) != decide (b < 0)) = true then -(sizeq P c (up != (decide (a < 0) != decide (b < 0)))) else sizeq P c (up != (decide (a < 0) != decide (b < 0))))
    (_q0 : 0 ≤ P / c) (m0 : 0 ≤ P % c) :
    Hid (cap64 (if (!decide (a < 0) == decide (b < 0)) = true then -(if 0 < P % c ∧ up ≠ (!decide (a < 0) == decide (b < 0)) ∧ P / c < 18446744073709551615 then P / c + 1 else P / c) else (if 0 < P % c ∧ up ≠ (!decide (a < 0) == decide (b < 0)) ∧ P / c < 18446744073709551615 then P / c + 1 else P / c)) = cap64 (divq a b c up)
      ∧ in64 (if (!decide (a < 0) == decide (b < 0)) = true then -(if 0 < P % c ∧ up ≠ (!decide (a < 0) == decide (b < 0)) ∧ P / c < 18446744073709551615 then P / c + 1 else P / c) else (if 0 < P % c ∧ up ≠ (!decide (a < 0) == decide (b < 0)) ∧ P / c < 18446744073709551615 then P / c + 1 else P / c)) = in64 (divq a b c up)) := by
  show _ ∧ _
  have e : (decide (a < 0) != decide (b < 0)) = (!decide (a < 0) == decide (b < 0)) := by
    cases decide (a < 0) <;> cases decide (b < 0) <;> rfl
  rw [e] at hd
  generalize (!decide (a < 0) == decide (b < 0)) = n at *
  rw [hd]
  unfold sizeq
  have far : ∀ x y : Int, (x = y ∨ (in64 x = false ∧ in64 y = false)) → cap64 x = cap64 y ∧ in64 x = in64 y := by
    rintro x y (rfl | ⟨h1, h2⟩)
    · exact ⟨rfl, rfl⟩
    · exact ⟨by rw [cap64_no h1, cap64_no h2], by rw [h1, h2]⟩
  apply far
  generalize P / c = q at *
  generalize P % c = m at *
  by_cases h1 : m = 0
  · subst h1
    cases n <;> cases up <;> simp
  · have h2 : 0 < m := by omega
    by_cases h3 : q < 18446744073709551615
    · cases n <;> cases up <;> simp [h1, h2, h3]
    · simp only [in64_no]
      cases n <;> cases up <;> simp [h1, h3] <;> omega
end Go.Proofs.YtaojahjgfgmpfaaDoor
