/-
  Plain numbers: a wide number over another, bit by bit from the highest.
-/
import Derived.Test.YtpfieoemojnioaaDoorDivMath
import Derived.Test.YtpfieoemojnioaaDoorQuoMath
namespace Go.Proofs.YtpfieoemojnioaaDoor
open Go Go.RowKit

/-- one bit more of what is divided: the quotient, and what is left. -/
theorem bit_step {P c b : Int} (hc : 0 < c) (b0 : 0 ≤ b) (b1 : b ≤ 1) :
    (c ≤ 2 * (P % c) + b → (2 * P + b) / c = 2 * (P / c) + 1 ∧ (2 * P + b) % c = 2 * (P % c) + b - c) ∧
    (2 * (P % c) + b < c → (2 * P + b) / c = 2 * (P / c) ∧ (2 * P + b) % c = 2 * (P % c) + b) := by
  have h1 := Int.mul_ediv_add_emod P c
  have h2 := Int.emod_nonneg P (show c ≠ 0 by omega)
  have h3 := Int.emod_lt_of_pos P hc
  generalize P / c = q at *
  generalize P % c = r at *
  subst h1
  constructor
  · intro h
    rw [show 2 * (c * q + r) + b = (2 * r + b - c) + (2 * q + 1) * c by grind, Int.add_mul_ediv_right _ _ (by omega), Int.add_mul_emod_self_right, Int.ediv_eq_zero_of_lt (by omega) (by omega), Int.emod_eq_of_lt (by omega) (by omega)]
    omega
  · intro h
    rw [show 2 * (c * q + r) + b = (2 * r + b) + (2 * q) * c by grind, Int.add_mul_ediv_right _ _ (by omega), Int.add_mul_emod_self_right, Int.ediv_eq_zero_of_lt (by omega) (by omega), Int.emod_eq_of_lt (by omega) (by omega)]
    omega

theorem pow_succ' (n : Nat) : (2 : Int) ^ (n + 1) = 2 * 2 ^ n := by rw [Int.pow_succ, Int.mul_comm]
theorem pow_split63 (n : Nat) (h : n < 64) : (2 : Int) ^ n * 2 * 2 ^ (63 - n) = 18446744073709551616 := by
  rw [Int.mul_assoc, ← pow_succ', ← Int.pow_add, show n + (63 - n + 1) = 64 from by omega]; decide
theorem pow_split128 (n : Nat) (h : 64 ≤ n) : (2 : Int) ^ n = 18446744073709551616 * 2 ^ (n - 64) := by
  rw [show (18446744073709551616 : Int) = 2 ^ 64 by decide, ← Int.pow_add, show 64 + (n - 64) = n from by omega]

/-- the bits of X from the n-th on. -/
theorem shift_more (X : Int) (n : Nat) : X / 2 ^ n = 2 * (X / 2 ^ (n + 1)) + X / 2 ^ n % 2 := by
  have : X / 2 ^ (n + 1) = X / 2 ^ n / 2 := by
    rw [Int.pow_succ, Int.ediv_ediv_of_nonneg (Int.le_of_lt (pow_pos' n))]
  rw [this]; omega

/-- what stands where a quotient's bits do: all below the n-th are 0 yet. -/
def qAt (Q : Int) (n : Nat) : Int := Q * 2 ^ n % 18446744073709551616
def fitsAt (Q : Int) (n : Nat) : Bool := decide (Q * 2 ^ n < 18446744073709551616)
theorem qAt_bd (Q : Int) (n : Nat) : 0 ≤ qAt Q n ∧ qAt Q n ≤ 18446744073709551615 := by unfold qAt; omega

theorem q_zero (Q : Int) (n : Nat) : qAt (2 * Q) n = qAt Q (n + 1) ∧ fitsAt (2 * Q) n = fitsAt Q (n + 1) := by
  unfold qAt fitsAt
  rw [pow_succ', show 2 * Q * 2 ^ n = Q * (2 * 2 ^ n) by grind]
  exact ⟨rfl, rfl⟩
theorem q_high (Q : Int) (n : Nat) (h : 64 ≤ n) (hQ : 0 ≤ Q) : qAt (2 * Q + 1) n = qAt Q (n + 1) ∧ fitsAt (2 * Q + 1) n = false := by
  unfold qAt fitsAt
  have hp := pow_split128 n h
  have h1 := pow_pos' (n - 64)
  have h2 := pow_pos' n
  rw [pow_succ']
  constructor
  · rw [show (2 * Q + 1) * 2 ^ n = Q * (2 * 2 ^ n) + 18446744073709551616 * 2 ^ (n - 64) by rw [← hp]; grind, Int.add_mul_emod_self_left]
  · rw [decide_eq_false_iff_not]
    have : 1 * 2 ^ n ≤ (2 * Q + 1) * 2 ^ n := Int.mul_le_mul_of_nonneg_right (by omega) (by omega)
    have : (18446744073709551616 : Int) * 1 ≤ 18446744073709551616 * 2 ^ (n - 64) := Int.mul_le_mul_of_nonneg_left (by omega) (by omega)
    omega
theorem q_low (Q : Int) (n : Nat) (h : n < 64) : qAt (2 * Q + 1) n = qAt Q (n + 1) + 2 ^ n ∧ fitsAt (2 * Q + 1) n = fitsAt Q (n + 1) ∧ bits .or .u64 (qAt Q (n + 1)) (2 ^ n) = qAt Q (n + 1) + 2 ^ n := by
  have hp := pow_split63 n h
  have hV := pow_pos' (63 - n)
  have hT := pow_pos' n
  have e1 : Q * 2 ^ (n + 1) = (2 ^ n * 2) * Q := by rw [pow_succ']; grind
  have e2 : (2 * Q + 1) * 2 ^ n = (2 ^ n * 2) * Q + 2 ^ n := by grind
  have e3 : qAt Q (n + 1) = (2 ^ n * 2) * (Q % 2 ^ (63 - n)) := by
    unfold qAt
    rw [e1, ← hp, Int.mul_emod_mul_of_pos _ _ (by omega)]
  have h2 := Int.emod_nonneg Q (show (2 : Int) ^ (63 - n) ≠ 0 by omega)
  have h3 := Int.emod_lt_of_pos Q hV
  have h1 := Int.mul_ediv_add_emod Q (2 ^ (63 - n))
  have h4 : (2 ^ n * 2) * (Q % 2 ^ (63 - n) + 1) ≤ (2 ^ n * 2) * 2 ^ (63 - n) := Int.mul_le_mul_of_nonneg_left (by omega) (by omega)
  have h5 : 0 ≤ (2 ^ n * 2) * (Q % 2 ^ (63 - n)) := Int.mul_nonneg (by omega) h2
  rw [Int.mul_add, hp] at h4
  refine ⟨?_, ?_, ?_⟩
  · rw [e3]
    unfold qAt
    have e4 : (2 * Q + 1) * 2 ^ n = (2 ^ n * 2 * (Q % 2 ^ (63 - n)) + 2 ^ n) + 18446744073709551616 * (Q / 2 ^ (63 - n)) := by
      rw [e2, ← hp]
      have : (2 : Int) ^ n * 2 * Q = 2 ^ n * 2 * (2 ^ (63 - n) * (Q / 2 ^ (63 - n)) + Q % 2 ^ (63 - n)) := by rw [h1]
      grind
    rw [e4, Int.add_mul_emod_self_left, Int.emod_eq_of_lt (by omega) (by omega)]
  · unfold fitsAt
    rw [e1, e2]
    have : (2 ^ n * 2) * Q < 18446744073709551616 ↔ (2 ^ n * 2) * Q + 2 ^ n < 18446744073709551616 := by
      constructor
      · intro hl
        rw [← hp] at hl
        have hq : Q < 2 ^ (63 - n) := Int.lt_of_mul_lt_mul_left hl (by omega)
        have : (2 ^ n * 2) * (Q + 1) ≤ (2 ^ n * 2) * 2 ^ (63 - n) := Int.mul_le_mul_of_nonneg_left (by omega) (by omega)
        rw [Int.mul_add, hp] at this
        omega
      · intro hl; omega
    simp [this]
  · rw [e3, u64_or _ _ h5 (by omega) (by omega) (by omega)]
    obtain ⟨K, hK⟩ := Int.eq_ofNat_of_zero_le h2
    rw [hK]
    have c1 : ((2 : Int) ^ n * 2 * (K : Int)) = ((2 ^ n * 2 * K : Nat) : Int) := by simp
    have c2 : ((2 : Int) ^ n) = ((2 ^ n : Nat) : Int) := by simp
    rw [c1, c2, Int.toNat_natCast, Int.toNat_natCast, nat_join (n + 1) _ _ (by rw [Nat.pow_succ]; exact Nat.mul_mod_right _ _) (by rw [Nat.pow_succ]; have := Nat.pow_pos (n := n) (show 0 < 2 by decide); omega)]
    simp

/-- the n-th bit, out of the two halves. -/
theorem bit_low (hi lo : Int) (n : Nat) (h : n < 64) : (hi * 18446744073709551616 + lo) / 2 ^ n % 2 = lo / 2 ^ n % 2 := by
  have hp := pow_split63 n h
  have hT := pow_pos' n
  rw [show hi * 18446744073709551616 + lo = lo + 2 ^ n * (2 * (hi * 2 ^ (63 - n))) by rw [← hp]; grind, Int.add_mul_ediv_left _ _ (by omega)]
  omega
theorem bit_high (hi lo : Int) (n : Nat) (h : 64 ≤ n) (l0 : 0 ≤ lo) (l1 : lo < 18446744073709551616) : (hi * 18446744073709551616 + lo) / 2 ^ n % 2 = hi / 2 ^ (n - 64) % 2 := by
  rw [pow_split128 n h, ← Int.ediv_ediv_of_nonneg (by omega)]
  rw [show (hi * 18446744073709551616 + lo) / 18446744073709551616 = hi by omega]
theorem and_one {x : Int} (h0 : 0 ≤ x) (h1 : x < 18446744073709551616) : bits .and .u64 x 1 = x % 2 := by
  rw [u64_and _ _ h0 h1 (by omega) (by omega)]
  obtain ⟨X, rfl⟩ := Int.eq_ofNat_of_zero_le h0
  rw [Int.toNat_natCast]
  show ((X &&& 1 : Nat) : Int) = _
  rw [nat_mask1]; omega
theorem and_63 (n : Nat) (h : n < 128) : bits .and .i64 (n : Int) 63 = ((n % 64 : Nat) : Int) := by
  have : ∀ k : Fin 128, bits .and .i64 ((k.val : Nat) : Int) 63 = ((k.val % 64 : Nat) : Int) := by decide +kernel
  exact this ⟨n, h⟩
/-- twice what is left, and a bit: what the machine has of it. -/
theorem or_bit {r b : Int} (b0 : 0 ≤ b) (b1 : b ≤ 1) : bits .or .u64 (IntKind.u64.wrap (r * 2)) b = (2 * r + b) % 18446744073709551616 := by
  rw [IntKind.wrap_u64, u64_or _ _ (by omega) (by omega) b0 (by omega)]
  obtain ⟨B, rfl⟩ := Int.eq_ofNat_of_zero_le b0
  obtain ⟨K, hK⟩ := Int.eq_ofNat_of_zero_le (show 0 ≤ r * 2 % 18446744073709551616 by omega)
  rw [hK, Int.toNat_natCast, Int.toNat_natCast, nat_join 1 _ _ (by omega) (by omega)]
  omega
theorem wide_lo' (p q r s : Int) (p0 : 0 ≤ p) (q0 : 0 ≤ q) (r0 : 0 ≤ r) :
    bits .or .u64 (IntKind.u64.wrap ((r + (q + p / 4294967296) % 4294967296) * 4294967296)) (p % 4294967296) = (s * 18446744073709551616 + (q + r) * 4294967296 + p) % 18446744073709551616 := by
  have e : IntKind.u64.wrap ((r + (q + p / 4294967296) % 4294967296) * 4294967296) = (r + (q + p / 4294967296)) % 4294967296 * 4294967296 := by rw [IntKind.wrap_u64]; omega
  rw [e]
  exact wide_lo p q r s p0 q0 r0
theorem and_low32_i64 (x : Int) : bits .and .i64 x 4294967295 = x % 4294967296 := by
  show IntKind.i64.wrap ((BitVec.ofInt 64 x &&& BitVec.ofInt 64 4294967295).toNat : Int) = _
  have e : (BitVec.ofInt 64 4294967295).toNat = 2 ^ 32 - 1 := by decide
  rw [BitVec.toNat_and, e, Nat.and_two_pow_sub_one_eq_mod, BitVec.toNat_ofInt, IntKind.wrap_i64]
  omega
theorem or_join_i64 (h l : Int) (h0 : -2147483648 ≤ h) (h1 : h ≤ 2147483647) (l0 : 0 ≤ l) (l1 : l < 4294967296) : bits .or .i64 (h * 4294967296) l = h * 4294967296 + l := by
  show IntKind.i64.wrap ((BitVec.ofInt 64 (h * 4294967296) ||| BitVec.ofInt 64 l).toNat : Int) = _
  rw [BitVec.toNat_or, BitVec.toNat_ofInt, BitVec.toNat_ofInt, nat_join 32 _ _ (by omega) (by omega), IntKind.wrap_i64]
  omega

/-- A product by its size: it fits just if its side's number does. -/
theorem mul_signed {a b A B : Int} (hA : (a.natAbs : Int) = A) (hB : (b.natAbs : Int) = B) : (if (!decide (a < 0) == decide (b < 0)) = true then -(A * B) else A * B) = a * b := by
  have e : (decide (a < 0) != decide (b < 0)) = (!decide (a < 0) == decide (b < 0)) := by
    cases decide (a < 0) <;> cases decide (b < 0) <;> rfl
  rw [mul_size a b, hA, hB, e]
theorem mul_big {a b A B : Int} (hA : (a.natAbs : Int) = A) (hB : (b.natAbs : Int) = B) (h : 18446744073709551616 ≤ A * B) : in64 (a * b) = false := by
  rw [← mul_signed hA hB, in64_no]
  split <;> omega
end Go.Proofs.YtpfieoemojnioaaDoor
