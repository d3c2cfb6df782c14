/-
  Plain numbers: what fits 64 bits, halves of words, products by halves, quotients. Nothing of a program stands here.
-/
import Derived.WalkKit
import Derived.Laws.Bits64
import Derived.Laws.BitsAllLaws
namespace Go.Proofs.YtaojahjgfgmpfaaDoor
open Go Go.RowKit

/-- Is it a number of 64 bits with a sign? -/
def in64 (x : Int) : Bool := decide (-9223372036854775808 ≤ x) && decide (x ≤ 9223372036854775807)
def cap64 (x : Int) : Int := if in64 x = true then x else 0
theorem in64_iff (x : Int) : in64 x = true ↔ -9223372036854775808 ≤ x ∧ x ≤ 9223372036854775807 := by simp [in64]
theorem in64_no (x : Int) : in64 x = false ↔ x < -9223372036854775808 ∨ 9223372036854775807 < x := by
  rw [← Bool.not_eq_true, in64_iff]; omega
theorem cap64_yes {x : Int} (h : in64 x = true) : cap64 x = x := if_pos h
theorem cap64_no {x : Int} (h : in64 x = false) : cap64 x = 0 := if_neg (by simp [h])
theorem in64_mk {x : Int} (h : -9223372036854775808 ≤ x ∧ x ≤ 9223372036854775807) : in64 x = true := (in64_iff x).2 h
theorem cap64_lo (x : Int) : -9223372036854775808 ≤ cap64 x := by
  unfold cap64; split
  · rename_i h; exact ((in64_iff x).1 h).1
  · omega
theorem cap64_hi (x : Int) : cap64 x ≤ 9223372036854775807 := by
  unfold cap64; split
  · rename_i h; exact ((in64_iff x).1 h).2
  · omega

/-- the upper and lower 64 bits of a product. -/
def hi64 (x : Int) : Int := x / 18446744073709551616
def lo64 (x : Int) : Int := x % 18446744073709551616

theorem mul_le_half {a b A B : Int} (ha : 0 ≤ a) (hb : 0 ≤ b) (hA : a ≤ A) (hB : b ≤ B) : 0 ≤ a * b ∧ a * b ≤ A * B :=
  ⟨Int.mul_nonneg ha hb, Int.mul_le_mul hA hB hb (by omega)⟩

/-- A product by halves: the parts of the four products. -/
theorem halves_mul (a b : Int) : a * b = (a / 4294967296) * (b / 4294967296) * 18446744073709551616 + ((a / 4294967296) * (b % 4294967296) + (a % 4294967296) * (b / 4294967296)) * 4294967296 + (a % 4294967296) * (b % 4294967296) := by
  have ea : a = (a / 4294967296) * 4294967296 + a % 4294967296 := by omega
  have eb : b = (b / 4294967296) * 4294967296 + b % 4294967296 := by omega
  generalize a / 4294967296 = a1 at *
  generalize a % 4294967296 = a0 at *
  generalize b / 4294967296 = b1 at *
  generalize b % 4294967296 = b0 at *
  subst ea eb
  grind

theorem or_join64 (n m : Int) (hn : 0 ≤ n) (hn2 : n < 4294967296) (hm : 0 ≤ m) (hm2 : m < 4294967296) :
    bits .or .u64 (n * 4294967296) m = n * 4294967296 + m := by
  rw [u64_or _ _ (by omega) (by omega) hm (by omega)]
  obtain ⟨N, rfl⟩ := Int.eq_ofNat_of_zero_le hn
  obtain ⟨M, rfl⟩ := Int.eq_ofNat_of_zero_le hm
  have e : ((N : Int) * 4294967296).toNat = N * 4294967296 := by omega
  rw [e, Int.toNat_natCast, nat_join 32 _ _ (by omega) (by omega)]
  omega

theorem add_no {a b : Int} (ha : -9223372036854775808 ≤ a) (ha2 : a ≤ 9223372036854775807) (hb : -9223372036854775808 ≤ b) (hb2 : b ≤ 9223372036854775807) (h : (!decide (wrap64 (a + b) < a) == decide (b < 0)) = true) : in64 (a + b) = false := by
  rw [in64_no]; unfold wrap64 at h
  by_cases hc : b < 0 <;> simp [hc] at h <;> omega
theorem add_yes {a b : Int} (ha : -9223372036854775808 ≤ a) (ha2 : a ≤ 9223372036854775807) (hb : -9223372036854775808 ≤ b) (hb2 : b ≤ 9223372036854775807) (h : (!decide (wrap64 (a + b) < a) == decide (b < 0)) = false) : in64 (a + b) = true ∧ wrap64 (a + b) = a + b := by
  rw [in64_iff]; unfold wrap64 at *
  by_cases hc : b < 0 <;> simp [hc] at h <;> omega
theorem sub_no {a b : Int} (ha : -9223372036854775808 ≤ a) (ha2 : a ≤ 9223372036854775807) (hb : -9223372036854775808 ≤ b) (hb2 : b ≤ 9223372036854775807) (h : (!decide (a < wrap64 (a - b)) == decide (b < 0)) = true) : in64 (a - b) = false := by
  rw [in64_no]; unfold wrap64 at h
  by_cases hc : b < 0 <;> simp [hc] at h <;> omega
theorem sub_yes {a b : Int} (ha : -9223372036854775808 ≤ a) (ha2 : a ≤ 9223372036854775807) (hb : -9223372036854775808 ≤ b) (hb2 : b ≤ 9223372036854775807) (h : (!decide (a < wrap64 (a - b)) == decide (b < 0)) = false) : in64 (a - b) = true ∧ wrap64 (a - b) = a - b := by
  rw [in64_iff]; unfold wrap64 at *
  by_cases hc : b < 0 <;> simp [hc] at h <;> omega
theorem wide_hi (p q r s : Int) (_p0 : 0 ≤ p) (_q0 : 0 ≤ q) (_r0 : 0 ≤ r) :
    s + (q + p / 4294967296) / 4294967296 + (r + (q + p / 4294967296) % 4294967296) / 4294967296 = (s * 18446744073709551616 + (q + r) * 4294967296 + p) / 18446744073709551616 := by omega
theorem wide_lo (p q r s : Int) (_p0 : 0 ≤ p) (_q0 : 0 ≤ q) (_r0 : 0 ≤ r) :
    bits .or .u64 ((r + (q + p / 4294967296)) % 4294967296 * 4294967296) (p % 4294967296) = (s * 18446744073709551616 + (q + r) * 4294967296 + p) % 18446744073709551616 := by
  rw [or_join64 _ _ (by omega) (by omega) (by omega) (by omega)]
  omega
theorem mul_bd {a b : Int} {A B : Nat} (ha : a.natAbs ≤ A) (hb : b.natAbs ≤ B) : -((A * B : Nat) : Int) ≤ a * b ∧ a * b ≤ ((A * B : Nat) : Int) := by
  have h := Int.natAbs_mul a b
  have := Nat.mul_le_mul ha hb
  omega
theorem mul_bd63 {a b : Int} (ha : -9223372036854775808 ≤ a) (ha2 : a ≤ 9223372036854775807) (hb : -9223372036854775808 ≤ b) (hb2 : b ≤ 9223372036854775807) :
    -85070591730234615865843651857942052864 ≤ a * b ∧ a * b ≤ 85070591730234615865843651857942052864 := by
  have := mul_bd (a := a) (b := b) (A := 9223372036854775808) (B := 9223372036854775808) (by omega) (by omega)
  have e : 9223372036854775808 * 9223372036854775808 = 85070591730234615865843651857942052864 := by decide
  rw [e] at this
  omega
theorem prod_pp {a b : Int} (ha : -9223372036854775808 ≤ a) (ha2 : a ≤ 9223372036854775807) (hb : -9223372036854775808 ≤ b) (hb2 : b ≤ 9223372036854775807) : wrap64 (hi64 (a * b)) = hi64 (a * b) := by
  have := mul_bd63 ha ha2 hb hb2
  unfold wrap64 hi64; omega
theorem prod_np {a b : Int} (ha : -9223372036854775808 ≤ a) (ha2 : a ≤ 9223372036854775807) (hb : -9223372036854775808 ≤ b) (hb2 : b ≤ 9223372036854775807) (h : a < 0) : wrap64 (wrap64 (hi64 (a % 18446744073709551616 * b)) - b) = hi64 (a * b) ∧ lo64 (a % 18446744073709551616 * b) = lo64 (a * b) := by
  have := mul_bd63 ha ha2 hb hb2
  have e : a % 18446744073709551616 = a + 18446744073709551616 := by omega
  rw [e, Int.add_mul]
  unfold wrap64 hi64 lo64; omega
theorem prod_pn {a b : Int} (ha : -9223372036854775808 ≤ a) (ha2 : a ≤ 9223372036854775807) (hb : -9223372036854775808 ≤ b) (hb2 : b ≤ 9223372036854775807) (h : b < 0) : wrap64 (wrap64 (hi64 (a * (b % 18446744073709551616))) - a) = hi64 (a * b) ∧ lo64 (a * (b % 18446744073709551616)) = lo64 (a * b) := by
  have := mul_bd63 ha ha2 hb hb2
  have e : b % 18446744073709551616 = b + 18446744073709551616 := by omega
  rw [e, Int.mul_add]
  unfold wrap64 hi64 lo64; omega
theorem prod_nn {a b : Int} (ha : -9223372036854775808 ≤ a) (ha2 : a ≤ 9223372036854775807) (hb : -9223372036854775808 ≤ b) (hb2 : b ≤ 9223372036854775807) (h : a < 0) (h2 : b < 0) : wrap64 (wrap64 (wrap64 (hi64 (a % 18446744073709551616 * (b % 18446744073709551616))) - b) - a) = hi64 (a * b) ∧ lo64 (a % 18446744073709551616 * (b % 18446744073709551616)) = lo64 (a * b) := by
  have := mul_bd63 ha ha2 hb hb2
  have e : b % 18446744073709551616 = b + 18446744073709551616 := by omega
  have e2 : a % 18446744073709551616 = a + 18446744073709551616 := by omega
  rw [e, e2, Int.mul_add, Int.add_mul, Int.add_mul]
  unfold wrap64 hi64 lo64; omega
/-- Mul: the product fits just if all above its lower bits repeat their sign. -/
theorem mul_fits {a b : Int} (ha : -9223372036854775808 ≤ a) (ha2 : a ≤ 9223372036854775807) (hb : -9223372036854775808 ≤ b) (hb2 : b ≤ 9223372036854775807) : (hi64 (a * b) = wrap64 (lo64 (a * b)) / 9223372036854775808) ↔ in64 (a * b) = true := by
  have := mul_bd63 ha ha2 hb hb2
  rw [in64_iff]; unfold wrap64 hi64 lo64; omega
end Go.Proofs.YtaojahjgfgmpfaaDoor
