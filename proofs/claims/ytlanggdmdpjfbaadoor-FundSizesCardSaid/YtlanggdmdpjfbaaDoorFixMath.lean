/-
  Plain numbers: what fits 64 bits, halves of words, products by halves, quotients. Nothing of a program stands here.
  Plain numbers: quotients of products, cut towards less or more.
  Plain numbers: a wide number over one of 64 bits, digit by digit of 32 bits; the length of a number in bits.
  Plain numbers: a wide number over another, bit by bit from the highest.
-/
import Derived.WalkKit
import Derived.Laws.Bits64
import Derived.Laws.BitsAllLaws
import Derived.Lib.BitFns
namespace Go.Proofs.YtlanggdmdpjfbaaDoor
open Go Go.RowKit

/-- Is it a number of 64 bits with a sign? -/
def in64 (x : Int) : Bool := decide (-9223372036854775808 ≤ x) && decide (x ≤ 9223372036854775807)
def cap64 (x : Int) : Int := if in64 x = true then x else 0
theorem in64_iff (x : Int) : in64 x = true ↔ -9223372036854775808 ≤ x ∧ x ≤ 9223372036854775807 := by simp [in64]
theorem in64_no (x : Int) : in64 x = false ↔ x < -9223372036854775808 ∨ 9223372036854775807 < x := by
  rw [← Bool.not_eq_true, in64_iff]; omega
theorem cap64_yes {x : Int} (h : in64 x = true) : cap64 x = x := if_pos h
theorem cap64_no {x : Int} (h : in64 x = false) : cap64 x = 0 := if_neg (by simp [h])
theorem in64_mk {x : Int} (h : -9223372036854775808 ≤ x ∧ x ≤ 9223372036854775807) : in64 x = true := (in64_iff x).2 h
theorem cap64_lo (x : Int) : -9223372036854775808 ≤ cap64 x := by
  unfold cap64; split
  · rename_i h; exact ((in64_iff x).1 h).1
  · omega
theorem cap64_hi (x : Int) : cap64 x ≤ 9223372036854775807 := by
  unfold cap64; split
  · rename_i h; exact ((in64_iff x).1 h).2
  · omega

/-- the upper and lower 64 bits of a product. -/
def hi64 (x : Int) : Int := x / 18446744073709551616
def lo64 (x : Int) : Int := x % 18446744073709551616

theorem mul_le_half {a b A B : Int} (ha : 0 ≤ a) (hb : 0 ≤ b) (hA : a ≤ A) (hB : b ≤ B) : 0 ≤ a * b ∧ a * b ≤ A * B :=
  ⟨Int.mul_nonneg ha hb, Int.mul_le_mul hA hB hb (by omega)⟩

/-- A product by halves: the parts of the four products. -/
theorem halves_mul (a b : Int) : a * b = (a / 4294967296) * (b / 4294967296) * 18446744073709551616 + ((a / 4294967296) * (b % 4294967296) + (a % 4294967296) * (b / 4294967296)) * 4294967296 + (a % 4294967296) * (b % 4294967296) := by
  have ea : a = (a / 4294967296) * 4294967296 + a % 4294967296 := by omega
  have eb : b = (b / 4294967296) * 4294967296 + b % 4294967296 := by omega
  generalize a / 4294967296 = a1 at *
  generalize a % 4294967296 = a0 at *
  generalize b / 4294967296 = b1 at *
  generalize b % 4294967296 = b0 at *
  subst ea eb
  grind

theorem or_join64 (n m : Int) (hn : 0 ≤ n) (hn2 : n < 4294967296) (hm : 0 ≤ m) (hm2 : m < 4294967296) :
    bits .or .u64 (n * 4294967296) m = n * 4294967296 + m := by
  rw [u64_or _ _ (by omega) (by omega) hm (by omega)]
  obtain ⟨N, rfl⟩ := Int.eq_ofNat_of_zero_le hn
  obtain ⟨M, rfl⟩ := Int.eq_ofNat_of_zero_le hm
  have e : ((N : Int) * 4294967296).toNat = N * 4294967296 := by omega
  rw [e, Int.toNat_natCast, nat_join 32 _ _ (by omega) (by omega)]
  omega

theorem add_no {a b : Int} (ha : -9223372036854775808 ≤ a) (ha2 : a ≤ 9223372036854775807) (hb : -9223372036854775808 ≤ b) (hb2 : b ≤ 9223372036854775807) (h : (!decide (wrap64 (a + b) < a) == decide (b < 0)) = true) : in64 (a + b) = false := by
  rw [in64_no]; unfold wrap64 at h
  by_cases hc : b < 0 <;> simp [hc] at h <;> omega
theorem add_yes {a b : Int} (ha : -9223372036854775808 ≤ a) (ha2 : a ≤ 9223372036854775807) (hb : -9223372036854775808 ≤ b) (hb2 : b ≤ 9223372036854775807) (h : (!decide (wrap64 (a + b) < a) == decide (b < 0)) = false) : in64 (a + b) = true ∧ wrap64 (a + b) = a + b := by
  rw [in64_iff]; unfold wrap64 at *
  by_cases hc : b < 0 <;> simp [hc] at h <;> omega
theorem sub_no {a b : Int} (ha : -9223372036854775808 ≤ a) (ha2 : a ≤ 9223372036854775807) (hb : -9223372036854775808 ≤ b) (hb2 : b ≤ 9223372036854775807) (h : (!decide (a < wrap64 (a - b)) == decide (b < 0)) = true) : in64 (a - b) = false := by
  rw [in64_no]; unfold wrap64 at h
  by_cases hc : b < 0 <;> simp [hc] at h <;> omega
theorem sub_yes {a b : Int} (ha : -9223372036854775808 ≤ a) (ha2 : a ≤ 9223372036854775807) (hb : -9223372036854775808 ≤ b) (hb2 : b ≤ 9223372036854775807) (h : (!decide (a < wrap64 (a - b)) == decide (b < 0)) = false) : in64 (a - b) = true ∧ wrap64 (a - b) = a - b := by
  rw [in64_iff]; unfold wrap64 at *
  by_cases hc : b < 0 <;> simp [hc] at h <;> omega
theorem wide_hi (p q r s : Int) (_p0 : 0 ≤ p) (_q0 : 0 ≤ q) (_r0 : 0 ≤ r) :
    s + (q + p / 4294967296) / 4294967296 + (r + (q + p / 4294967296) % 4294967296) / 4294967296 = (s * 18446744073709551616 + (q + r) * 4294967296 + p) / 18446744073709551616 := by omega
theorem wide_lo (p q r s : Int) (_p0 : 0 ≤ p) (_q0 : 0 ≤ q) (_r0 : 0 ≤ r) :
    bits .or .u64 ((r + (q + p / 4294967296)) % 4294967296 * 4294967296) (p % 4294967296) = (s * 18446744073709551616 + (q + r) * 4294967296 + p) % 18446744073709551616 := by
  rw [or_join64 _ _ (by omega) (by omega) (by omega) (by omega)]
  omega
theorem mul_bd {a b : Int} {A B : Nat} (ha : a.natAbs ≤ A) (hb : b.natAbs ≤ B) : -((A * B : Nat) : Int) ≤ a * b ∧ a * b ≤ ((A * B : Nat) : Int) := by
  have h := Int.natAbs_mul a b
  have := Nat.mul_le_mul ha hb
  omega
theorem mul_bd63 {a b : Int} (ha : -9223372036854775808 ≤ a) (ha2 : a ≤ 9223372036854775807) (hb : -9223372036854775808 ≤ b) (hb2 : b ≤ 9223372036854775807) :
    -85070591730234615865843651857942052864 ≤ a * b ∧ a * b ≤ 85070591730234615865843651857942052864 := by
  have := mul_bd (a := a) (b := b) (A := 9223372036854775808) (B := 9223372036854775808) (by omega) (by omega)
  have e : 9223372036854775808 * 9223372036854775808 = 85070591730234615865843651857942052864 := by decide
  rw [e] at this
  omega
theorem prod_pp {a b : Int} (ha : -9223372036854775808 ≤ a) (ha2 : a ≤ 9223372036854775807) (hb : -9223372036854775808 ≤ b) (hb2 : b ≤ 9223372036854775807) : wrap64 (hi64 (a * b)) = hi64 (a * b) := by
  have := mul_bd63 ha ha2 hb hb2
  unfold wrap64 hi64; omega
theorem prod_np {a b : Int} (ha : -9223372036854775808 ≤ a) (ha2 : a ≤ 9223372036854775807) (hb : -9223372036854775808 ≤ b) (hb2 : b ≤ 9223372036854775807) (h : a < 0) : wrap64 (wrap64 (hi64 (a % 18446744073709551616 * b)) - b) = hi64 (a * b) ∧ lo64 (a % 18446744073709551616 * b) = lo64 (a * b) := by
  have := mul_bd63 ha ha2 hb hb2
  have e : a % 18446744073709551616 = a + 18446744073709551616 := by omega
  rw [e, Int.add_mul]
  unfold wrap64 hi64 lo64; omega
theorem prod_pn {a b : Int} (ha : -9223372036854775808 ≤ a) (ha2 : a ≤ 9223372036854775807) (hb : -9223372036854775808 ≤ b) (hb2 : b ≤ 9223372036854775807) (h : b < 0) : wrap64 (wrap64 (hi64 (a * (b % 18446744073709551616))) - a) = hi64 (a * b) ∧ lo64 (a * (b % 18446744073709551616)) = lo64 (a * b) := by
  have := mul_bd63 ha ha2 hb hb2
  have e : b % 18446744073709551616 = b + 18446744073709551616 := by omega
  rw [e, Int.mul_add]
  unfold wrap64 hi64 lo64; omega
theorem prod_nn {a b : Int} (ha : -9223372036854775808 ≤ a) (ha2 : a ≤ 9223372036854775807) (hb : -9223372036854775808 ≤ b) (hb2 : b ≤ 9223372036854775807) (h : a < 0) (h2 : b < 0) : wrap64 (wrap64 (wrap64 (hi64 (a % 18446744073709551616 * (b % 18446744073709551616))) - b) - a) = hi64 (a * b) ∧ lo64 (a % 18446744073709551616 * (b % 18446744073709551616)) = lo64 (a * b) := by
  have := mul_bd63 ha ha2 hb hb2
  have e : b % 18446744073709551616 = b + 18446744073709551616 := by omega
  have e2 : a % 18446744073709551616 = a + 18446744073709551616 := by omega
  rw [e, e2, Int.mul_add, Int.add_mul, Int.add_mul]
  unfold wrap64 hi64 lo64; omega
/-- Mul: the product fits just if all above its lower bits repeat their sign. -/
theorem mul_fits {a b : Int} (ha : -9223372036854775808 ≤ a) (ha2 : a ≤ 9223372036854775807) (hb : -9223372036854775808 ≤ b) (hb2 : b ≤ 9223372036854775807) : (hi64 (a * b) = wrap64 (lo64 (a * b)) / 9223372036854775808) ↔ in64 (a * b) = true := by
  have := mul_bd63 ha ha2 hb hb2
  rw [in64_iff]; unfold wrap64 hi64 lo64; omega
end Go.Proofs.YtlanggdmdpjfbaaDoor
namespace Go.Proofs.YtlanggdmdpjfbaaDoor
open Go Go.RowKit

theorem mul_no {a b : Int} (ha : -9223372036854775808 ≤ a) (ha2 : a ≤ 9223372036854775807) (hb : -9223372036854775808 ≤ b) (hb2 : b ≤ 9223372036854775807) (h : (hi64 (a * b) != wrap64 (lo64 (a * b)) / 9223372036854775808) = true) : in64 (a * b) = false := by
  rw [← Bool.not_eq_true]
  intro hn
  rw [bne_iff_ne] at h
  exact h ((mul_fits ha ha2 hb hb2).2 hn)
theorem mul_yes {a b : Int} (ha : -9223372036854775808 ≤ a) (ha2 : a ≤ 9223372036854775807) (hb : -9223372036854775808 ≤ b) (hb2 : b ≤ 9223372036854775807) (h : (hi64 (a * b) != wrap64 (lo64 (a * b)) / 9223372036854775808) = false) : in64 (a * b) = true ∧ wrap64 (lo64 (a * b)) = a * b := by
  have e : hi64 (a * b) = wrap64 (lo64 (a * b)) / 9223372036854775808 := by simpa using h
  have hn := (mul_fits ha ha2 hb hb2).1 e
  refine ⟨hn, ?_⟩
  have := (in64_iff _).1 hn
  unfold wrap64 lo64; omega

/-- A product over a number above 0, cut towards less, or towards more. -/
def divq (a b c : Int) (up : Bool) : Int := if up = true then -(-(a * b) / c) else a * b / c
theorem neg_ediv' (P c : Int) (hc : 0 < c) : -P / c = if P % c = 0 then -(P / c) else -(P / c) - 1 := by
  have h1 := Int.mul_ediv_add_emod P c
  have h2 := Int.emod_nonneg P (show c ≠ 0 by omega)
  have h3 := Int.emod_lt_of_pos P hc
  generalize P / c = q at *
  generalize P % c = r at *
  subst h1
  split
  · rename_i h; subst h
    rw [show -(c * q + 0) = (-q) * c by grind, Int.mul_ediv_cancel _ (by omega)]
  · rw [show -(c * q + r) = (c - r) + (-q - 1) * c by grind, Int.add_mul_ediv_right _ _ (by omega), Int.ediv_eq_zero_of_lt (by omega) (by omega)]
    omega
/-- the product by its size and its side. -/
theorem mul_size (a b : Int) : a * b = if (decide (a < 0) != decide (b < 0)) = true then -((a.natAbs : Int) * (b.natAbs : Int)) else (a.natAbs : Int) * (b.natAbs : Int) := by
  by_cases ha : a < 0 <;> by_cases hb : b < 0
  · have e1 : (a.natAbs : Int) = -a := by omega
    have e2 : (b.natAbs : Int) = -b := by omega
    simp [ha, hb, e1, e2]; grind
  · have e1 : (a.natAbs : Int) = -a := by omega
    have e2 : (b.natAbs : Int) = b := by omega
    simp [ha, hb, e1, e2]; grind
  · have e1 : (a.natAbs : Int) = a := by omega
    have e2 : (b.natAbs : Int) = -b := by omega
    simp [ha, hb, e1, e2]; grind
  · have e1 : (a.natAbs : Int) = a := by omega
    have e2 : (b.natAbs : Int) = b := by omega
    simp [ha, hb, e1, e2]
/-- the size that is signed, of the quotient of the sizes. -/
def sizeq (P c : Int) (away : Bool) : Int := if P % c = 0 then P / c else if away = true then P / c + 1 else P / c
theorem divq_size (a b c : Int) (up : Bool) (hc : 0 < c) :
    divq a b c up = if (decide (a < 0) != decide (b < 0)) = true then -(sizeq ((a.natAbs : Int) * (b.natAbs : Int)) c (up != (decide (a < 0) != decide (b < 0)))) else sizeq ((a.natAbs : Int) * (b.natAbs : Int)) c (up != (decide (a < 0) != decide (b < 0))) := by
  unfold divq sizeq
  rw [mul_size a b]
  generalize (a.natAbs : Int) * (b.natAbs : Int) = P
  generalize (decide (a < 0) != decide (b < 0)) = n
  cases n <;> cases up <;> simp [neg_ediv' P c hc] <;> split <;> omega

theorem div_end {a b c P : Int} {up : Bool} (hd : divq a b c up = if (decide (a < 0) != decide (b < 0)) = true then -(sizeq P c (up != (decide (a < 0) != decide (b < 0)))) else sizeq P c (up != (decide (a < 0) != decide (b < 0))))
    (_q0 : 0 ≤ P / c) (m0 : 0 ≤ P % c) :
    Hid (cap64 (if (!decide (a < 0) == decide (b < 0)) = true then -(if 0 < P % c ∧ up ≠ (!decide (a < 0) == decide (b < 0)) ∧ P / c < 18446744073709551615 then P / c + 1 else P / c) else (if 0 < P % c ∧ up ≠ (!decide (a < 0) == decide (b < 0)) ∧ P / c < 18446744073709551615 then P / c + 1 else P / c)) = cap64 (divq a b c up)
      ∧ in64 (if (!decide (a < 0) == decide (b < 0)) = true then -(if 0 < P % c ∧ up ≠ (!decide (a < 0) == decide (b < 0)) ∧ P / c < 18446744073709551615 then P / c + 1 else P / c) else (if 0 < P % c ∧ up ≠ (!decide (a < 0) == decide (b < 0)) ∧ P / c < 18446744073709551615 then P / c + 1 else P / c)) = in64 (divq a b c up)) := by
  show _ ∧ _
  have e : (decide (a < 0) != decide (b < 0)) = (!decide (a < 0) == decide (b < 0)) := by
    cases decide (a < 0) <;> cases decide (b < 0) <;> rfl
  rw [e] at hd
  generalize (!decide (a < 0) == decide (b < 0)) = n at *
  rw [hd]
  unfold sizeq
  have far : ∀ x y : Int, (x = y ∨ (in64 x = false ∧ in64 y = false)) → cap64 x = cap64 y ∧ in64 x = in64 y := by
    rintro x y (rfl | ⟨h1, h2⟩)
    · exact ⟨rfl, rfl⟩
    · exact ⟨by rw [cap64_no h1, cap64_no h2], by rw [h1, h2]⟩
  apply far
  generalize P / c = q at *
  generalize P % c = m at *
  by_cases h1 : m = 0
  · subst h1
    cases n <;> cases up <;> simp
  · have h2 : 0 < m := by omega
    by_cases h3 : q < 18446744073709551615
    · cases n <;> cases up <;> simp [h1, h2, h3]
    · simp only [in64_no]
      cases n <;> cases up <;> simp [h1, h3] <;> omega
end Go.Proofs.YtlanggdmdpjfbaaDoor
namespace Go.Proofs.YtlanggdmdpjfbaaDoor
open Go Go.RowKit

theorem bitLen_spec (x : Nat) (h0 : x ≠ 0) (h : x < 18446744073709551616) : 1 ≤ Lib.bitLen x ∧ Lib.bitLen x ≤ 64 ∧ 2 ^ (Lib.bitLen x - 1) ≤ x ∧ x < 2 ^ Lib.bitLen x := by
  induction x using Nat.strongRecOn with
  | ind x ih =>
    by_cases h1 : x = 1
    · subst h1; decide
    · have e := Lib.bitLen_half x h0 h
      have ih' := ih (x / 2) (by omega) (by omega) (by omega)
      have l : Lib.bitLen x ≤ 64 := Lib.bitLen_le x 64 (by omega) h
      rw [e] at l ⊢
      generalize Lib.bitLen (x / 2) = k at ih' l ⊢
      obtain ⟨k, rfl⟩ : ∃ j, k = j + 1 := ⟨k - 1, by omega⟩
      refine ⟨by omega, by omega, ?_, ?_⟩
      · rw [show 1 + (k + 1) - 1 = k + 1 from by omega, Nat.pow_succ]
        have := ih'.2.2.1
        simp only [Nat.add_sub_cancel] at this
        omega
      · rw [show 1 + (k + 1) = (k + 1) + 1 from by omega, Nat.pow_succ]
        have := ih'.2.2.2
        omega

/-- One digit of 32 bits: the guess q with its rest r = u - q * y1 is at least the digit, and what the test asks is whether it is too great. -/
theorem digit_test {q y1 y0 u n1 : Int} : q * y0 > 4294967296 * (u - q * y1) + n1 ↔ q * (y1 * 4294967296 + y0) > u * 4294967296 + n1 := by
  constructor <;> intro h <;> grind
/-- the digit is the quotient, once it is not too great and no less than that. -/
theorem digit_done {q Q y N : Int} (hy : 0 < y) (hQ : Q = N / y) (h1 : Q ≤ q) (h2 : q * y ≤ N) : q = Q := by
  have : q ≤ N / y := (Int.le_ediv_iff_mul_le hy).2 h2
  omega
theorem digit_less {q Q y N : Int} (hy : 0 < y) (hQ : Q = N / y) (h2 : N < q * y) : Q ≤ q - 1 := by
  have : N / y < q := Int.ediv_lt_of_lt_mul hy h2
  omega

theorem pow_split (s : Nat) (hs : s ≤ 64) : (2 : Int) ^ s * 2 ^ (64 - s) = 18446744073709551616 := by
  rw [← Int.pow_add, show s + (64 - s) = 64 from by omega]; decide
theorem pow_pos' (s : Nat) : (0 : Int) < 2 ^ s := Int.pow_pos (by decide)

/-- The leading zeros of y: y shifted by them has its highest bit. -/
theorem lead_norm {y : Int} {s : Nat} (h0 : 0 < y) (h1 : y ≤ 18446744073709551615) (hs : (s : Int) = 64 - Lib.bitLen y.toNat) :
    s ≤ 63 ∧ 9223372036854775808 ≤ y * 2 ^ s ∧ y * 2 ^ s < 18446744073709551616 := by
  obtain ⟨b1, b2, b3, b4⟩ := bitLen_spec y.toNat (by omega) (by omega)
  generalize Lib.bitLen y.toNat = k at *
  have hp := Nat.pow_pos (n := s) (show 0 < 2 by decide)
  have e1 : 2 ^ (k - 1) * 2 ^ s = 9223372036854775808 := by
    rw [← Nat.pow_add, show k - 1 + s = 63 from by omega]
  have e2 : 2 ^ k * 2 ^ s = 18446744073709551616 := by
    rw [← Nat.pow_add, show k + s = 64 from by omega]
  have f1 := Nat.mul_le_mul_right (2 ^ s) b3
  have f2 := Nat.mul_lt_mul_of_pos_right b4 hp
  rw [e1] at f1
  rw [e2] at f2
  obtain ⟨Y, rfl⟩ := Int.eq_ofNat_of_zero_le (show 0 ≤ y by omega)
  rw [Int.toNat_natCast] at f1 f2
  have c : ((Y : Int) * 2 ^ s) = ((Y * 2 ^ s : Nat) : Int) := by simp
  rw [c]
  omega

theorem or_shift {a b : Int} {s : Nat} (hs : s ≤ 64) (ha : 0 ≤ a) (hab : a * 2 ^ s < 18446744073709551616) (hb : 0 ≤ b) (hb2 : b < 2 ^ s) : bits .or .u64 (a * 2 ^ s) b = a * 2 ^ s + b := by
  have hp := pow_pos' s
  have hps : (2 : Int) ^ s ≤ 18446744073709551616 := by
    have := pow_split s hs
    have h1 := pow_pos' (64 - s)
    have h2 := Int.mul_le_mul_of_nonneg_left (show 1 ≤ (2 : Int) ^ (64 - s) by omega) (show 0 ≤ (2 : Int) ^ s by omega)
    omega
  have h0 : 0 ≤ a * 2 ^ s := Int.mul_nonneg ha (by omega)
  rw [u64_or _ _ h0 hab hb (by omega)]
  obtain ⟨A, rfl⟩ := Int.eq_ofNat_of_zero_le ha
  obtain ⟨B, rfl⟩ := Int.eq_ofNat_of_zero_le hb
  have c : ((A : Int) * 2 ^ s) = ((A * 2 ^ s : Nat) : Int) := by simp
  rw [c, Int.toNat_natCast, Int.toNat_natCast]
  have hb3 : B < 2 ^ s := by
    have : ((2 ^ s : Nat) : Int) = 2 ^ s := by simp
    omega
  rw [nat_join s _ _ (Nat.mul_mod_left _ _) hb3]
  simp

theorem norm_or {hi lo y : Int} {s : Nat} (h0 : 0 ≤ hi) (h1 : hi < y) (l0 : 0 ≤ lo) (l1 : lo ≤ 18446744073709551615) (hs : s ≤ 63) (y1 : y * 2 ^ s < 18446744073709551616) : bits .or .u64 (IntKind.u64.wrap (hi * 2 ^ s)) (lo / 2 ^ (64 - s)) = hi * 2 ^ s + lo / 2 ^ (64 - s) := by
  have hp := pow_pos' s
  have hr := pow_pos' (64 - s)
  have hpr := pow_split s (by omega)
  have a1 : hi * 2 ^ s < y * 2 ^ s := Int.mul_lt_mul_of_pos_right h1 hp
  have a0 : 0 ≤ hi * 2 ^ s := Int.mul_nonneg h0 (by omega)
  have e : IntKind.u64.wrap (hi * 2 ^ s) = hi * 2 ^ s := by rw [IntKind.wrap_u64]; omega
  rw [e]
  exact or_shift (by omega) h0 (by omega) (Int.ediv_nonneg l0 (by omega)) (Int.ediv_lt_of_lt_mul hr (by omega))
theorem norm_low {lo : Int} {s : Nat} (hs : s ≤ 63) : IntKind.u64.wrap (lo * 2 ^ s) = lo * 2 ^ s - lo / 2 ^ (64 - s) * 18446744073709551616 ∧ 0 ≤ lo * 2 ^ s - lo / 2 ^ (64 - s) * 18446744073709551616 ∧ lo * 2 ^ s - lo / 2 ^ (64 - s) * 18446744073709551616 < 18446744073709551616 := by
  have hp := pow_pos' s
  have hr := pow_pos' (64 - s)
  have hpr := pow_split s (by omega)
  have b1 := Int.emod_nonneg lo (show (2 : Int) ^ (64 - s) ≠ 0 by omega)
  have b2 := Int.emod_lt_of_pos lo hr
  have b3 := Int.mul_ediv_add_emod lo (2 ^ (64 - s))
  generalize lo % 2 ^ (64 - s) = m at *
  generalize lo / 2 ^ (64 - s) = d at *
  generalize (2 : Int) ^ s = P at *
  generalize (2 : Int) ^ (64 - s) = R at *
  have e : lo * P = d * 18446744073709551616 + m * P := by rw [← b3, ← hpr]; grind
  have f1 : m * P < R * P := Int.mul_lt_mul_of_pos_right b2 hp
  have f0 : 0 ≤ m * P := Int.mul_nonneg b1 (by omega)
  rw [Int.mul_comm R P, hpr] at f1
  rw [IntKind.wrap_u64]
  omega
theorem norm_all {hi lo : Int} {s : Nat} : (hi * 18446744073709551616 + lo) * 2 ^ s = (hi * 2 ^ s + lo / 2 ^ (64 - s)) * 18446744073709551616 + (lo * 2 ^ s - lo / 2 ^ (64 - s) * 18446744073709551616) := by
  grind
theorem norm_lt {hi lo y : Int} {s : Nat} (h0 : 0 ≤ hi) (h1 : hi < y) (l0 : 0 ≤ lo) (l1 : lo ≤ 18446744073709551615) (hs : s ≤ 63) (y1 : y * 2 ^ s < 18446744073709551616) : 0 ≤ hi * 2 ^ s + lo / 2 ^ (64 - s) ∧ hi * 2 ^ s + lo / 2 ^ (64 - s) < y * 2 ^ s := by
  have hp := pow_pos' s
  have hr := pow_pos' (64 - s)
  have hpr := pow_split s (by omega)
  have a1 : (hi + 1) * 2 ^ s ≤ y * 2 ^ s := Int.mul_le_mul_of_nonneg_right (by omega) (by omega)
  have a0 : 0 ≤ hi * 2 ^ s := Int.mul_nonneg h0 (by omega)
  have c1 : 0 ≤ lo / 2 ^ (64 - s) := Int.ediv_nonneg l0 (by omega)
  have c2 : lo / 2 ^ (64 - s) < 2 ^ s := Int.ediv_lt_of_lt_mul hr (by omega)
  rw [Int.add_mul] at a1
  omega

/-- Two digits are the quotient, and what they leave the rest. -/
theorem two_digits {u n1 n0 Y : Int} (hY : 0 < Y) : (u * 18446744073709551616 + (n1 * 4294967296 + n0)) / Y = (u * 4294967296 + n1) / Y * 4294967296 + ((u * 4294967296 + n1) % Y * 4294967296 + n0) / Y
    ∧ (u * 18446744073709551616 + (n1 * 4294967296 + n0)) % Y = ((u * 4294967296 + n1) % Y * 4294967296 + n0) % Y := by
  have e : u * 18446744073709551616 + (n1 * 4294967296 + n0) = ((u * 4294967296 + n1) % Y * 4294967296 + n0) + ((u * 4294967296 + n1) / Y * 4294967296) * Y := by
    have := Int.mul_ediv_add_emod (u * 4294967296 + n1) Y
    grind
  rw [e, Int.add_mul_ediv_right _ _ (by omega), Int.add_mul_emod_self_right]
  omega
/-- A shift of both changes nothing of the quotient, and shifts the rest. -/
theorem shift_div {X y P : Int} (hP : 0 < P) : X / y = (X * P) / (y * P) ∧ X % y = (X * P) % (y * P) / P := by
  constructor
  · rw [Int.mul_ediv_mul_of_pos_left _ _ hP]
  · rw [Int.mul_comm X P, Int.mul_comm y P, Int.mul_emod_mul_of_pos _ _ hP, Int.mul_ediv_cancel_left _ (by omega)]
/-- What is left by the quotient. -/
theorem rest_mod {N Y : Int} : N - N / Y * Y = N % Y := by
  have := Int.mul_ediv_add_emod N Y
  grind
theorem quo_small {N Y B : Int} (hY : 0 < Y) (h0 : 0 ≤ N) (h : N < Y * B) : 0 ≤ N / Y ∧ N / Y < B :=
  ⟨Int.ediv_nonneg h0 (by omega), Int.ediv_lt_of_lt_mul hY (by rw [Int.mul_comm]; exact h)⟩

theorem tab8 (k : Nat) (h : k < Lib.len8tab.size) : (Lib.len8tab[k]'h).toNat = Lib.bitLen k ∧ Lib.bitLen k ≤ 8 := by
  have hk : k < 256 := by rw [Lib.len8tab_size] at h; exact h
  have e := Lib.len8_eq ⟨k, hk⟩
  have l := Lib.bitLen_le8 ⟨k, hk⟩
  simp only [Lib.len8, Int.toNat_natCast] at e l
  rw [getElem?_pos Lib.len8tab k h] at e
  simp only [Option.getD_some] at e
  exact ⟨by omega, l⟩
theorem tab_end {X c : Nat} (k : Nat) (h : k < Lib.len8tab.size) (hc : c ≤ 100) (e : Lib.bitLen X = c + Lib.bitLen k) : wrap64 ((c : Int) + wrap64 ((Lib.len8tab[k]'h).toNat : Int)) = (Lib.bitLen X : Int) := by
  obtain ⟨e1, l⟩ := tab8 k h
  rw [e1, e]; unfold wrap64; omega
theorem tab_end0 {X : Nat} (k : Nat) (h : k < Lib.len8tab.size) (e : Lib.bitLen X = Lib.bitLen k) : wrap64 (wrap64 ((Lib.len8tab[k]'h).toNat : Int)) = (Lib.bitLen X : Int) := by
  obtain ⟨e1, l⟩ := tab8 k h
  rw [e1, e]; unfold wrap64; omega

/-- a guess whose rest has grown out of its digit is not too great. -/
theorem digit_break {Q R u y1 y0 n1 : Int} (hR : 4294967296 ≤ R) (e : R = u - Q * y1) (h0 : 0 ≤ Q) (hu : u < y1 * 4294967296 + y0) (hy1 : 0 < y1) (hy0 : 0 ≤ y0) (hy : y0 < 4294967296) (hn : 0 ≤ n1) :
    Q * (y1 * 4294967296 + y0) ≤ u * 4294967296 + n1 := by
  have h1 : Q * y1 < 4294967296 * y1 := by omega
  have h2 : Q < 4294967296 := Int.lt_of_mul_lt_mul_right h1 (by omega)
  have h3 : Q * y0 ≤ Q * 4294967296 := Int.mul_le_mul_of_nonneg_left (by omega) h0
  subst e
  have h4 : Q * (y1 * 4294967296 + y0) = Q * y1 * 4294967296 + Q * y0 := by grind
  omega
theorem digit_over {Q u Y n1 : Int} (hQ : 4294967296 ≤ Q) (hu : u < Y) (hu0 : 0 ≤ u) (hn : n1 < 4294967296) : u * 4294967296 + n1 < Q * Y := by
  have : 4294967296 * Y ≤ Q * Y := Int.mul_le_mul_of_nonneg_right hQ (by omega)
  omega
theorem mul_bd32 {Q y0 : Int} (h0 : 0 ≤ Q) (h1 : Q < 4294967296) (b0 : 0 ≤ y0) (b1 : y0 < 4294967296) : 0 ≤ Q * y0 ∧ Q * y0 ≤ 18446744065119617025 := by
  have := mul_le_half h0 b0 (show Q ≤ 4294967295 by omega) (show y0 ≤ 4294967295 by omega)
  omega
theorem wrap_rest {u n1 Q Y : Int} (hY : 0 < Y) (hY2 : Y ≤ 18446744073709551616) (hQ : Q = (u * 4294967296 + n1) / Y) :
    IntKind.u64.wrap (u * 4294967296 + n1 - Q * Y) = (u * 4294967296 + n1) % Y := by
  have e := rest_mod (N := u * 4294967296 + n1) (Y := Y)
  rw [← hQ] at e
  have h1 := Int.emod_nonneg (u * 4294967296 + n1) (show Y ≠ 0 by omega)
  have h2 := Int.emod_lt_of_pos (u * 4294967296 + n1) hY
  rw [e, IntKind.wrap_u64]; omega

/-- the first guess of a digit. -/
theorem digit_start {u n y1 y0 : Int} (u0 : 0 ≤ u) (uY : u < y1 * 4294967296 + y0) (a1 : 2147483648 ≤ y1) (a2 : y1 < 4294967296) (b1 : 0 ≤ y0) (b2 : y0 < 4294967296) (c1 : 0 ≤ n) (c2 : n < 4294967296) :
    0 ≤ u / y1 ∧ u / y1 ≤ 8589934591 ∧ 0 ≤ u - u / y1 * y1 ∧ u - u / y1 * y1 < 4294967296 ∧ 0 ≤ u / y1 * y1 ∧ u / y1 * y1 ≤ 18446744073709551615 ∧ (u * 4294967296 + n) / (y1 * 4294967296 + y0) ≤ u / y1 := by
  have h1 : 0 ≤ u / y1 := Int.ediv_nonneg u0 (by omega)
  have h2 := Int.emod_nonneg u (show y1 ≠ 0 by omega)
  have h3 := Int.emod_lt_of_pos u (show 0 < y1 by omega)
  have h4 := Int.mul_ediv_add_emod u y1
  rw [Int.mul_comm] at h4
  have h5 : u / y1 < 8589934592 := Int.ediv_lt_of_lt_mul (by omega) (by omega)
  generalize u / y1 = q at *
  generalize u % y1 = m at *
  refine ⟨h1, by omega, by omega, by omega, Int.mul_nonneg h1 (by omega), by omega, ?_⟩
  have h6 : (u * 4294967296 + n) / (y1 * 4294967296 + y0) < q + 1 := by
    refine Int.ediv_lt_of_lt_mul (by omega) ?_
    have h7 : 0 ≤ q * y0 := Int.mul_nonneg h1 b1
    have e : (q + 1) * (y1 * 4294967296 + y0) = q * y1 * 4294967296 + q * y0 + y1 * 4294967296 + y0 := by grind
    rw [e]; omega
  omega
theorem wrap3 {u n D Y : Int} : IntKind.u64.wrap (IntKind.u64.wrap (IntKind.u64.wrap (u * 4294967296) + n) - IntKind.u64.wrap (D * Y)) = IntKind.u64.wrap (u * 4294967296 + n - D * Y) := by
  simp only [IntKind.wrap_u64]; omega
theorem and_low32 {x : Int} (h0 : 0 ≤ x) (h1 : x < 18446744073709551616) : bits .and .u64 x 4294967295 = x % 4294967296 := by
  rw [u64_and _ _ h0 h1 (by omega) (by omega)]
  obtain ⟨X, rfl⟩ := Int.eq_ofNat_of_zero_le h0
  rw [Int.toNat_natCast]
  show ((X &&& 4294967295 : Nat) : Int) = _
  rw [show (4294967295 : Nat) = 2 ^ 32 - 1 by decide, Nat.and_two_pow_sub_one_eq_mod]
  omega
end Go.Proofs.YtlanggdmdpjfbaaDoor
namespace Go.Proofs.YtlanggdmdpjfbaaDoor
open Go Go.RowKit

/-- one bit more of what is divided: the quotient, and what is left. -/
theorem bit_step {P c b : Int} (hc : 0 < c) (b0 : 0 ≤ b) (b1 : b ≤ 1) :
    (c ≤ 2 * (P % c) + b → (2 * P + b) / c = 2 * (P / c) + 1 ∧ (2 * P + b) % c = 2 * (P % c) + b - c) ∧
    (2 * (P % c) + b < c → (2 * P + b) / c = 2 * (P / c) ∧ (2 * P + b) % c = 2 * (P % c) + b) := by
  have h1 := Int.mul_ediv_add_emod P c
  have h2 := Int.emod_nonneg P (show c ≠ 0 by omega)
  have h3 := Int.emod_lt_of_pos P hc
  generalize P / c = q at *
  generalize P % c = r at *
  subst h1
  constructor
  · intro h
    rw [show 2 * (c * q + r) + b = (2 * r + b - c) + (2 * q + 1) * c by grind, Int.add_mul_ediv_right _ _ (by omega), Int.add_mul_emod_self_right, Int.ediv_eq_zero_of_lt (by omega) (by omega), Int.emod_eq_of_lt (by omega) (by omega)]
    omega
  · intro h
    rw [show 2 * (c * q + r) + b = (2 * r + b) + (2 * q) * c by grind, Int.add_mul_ediv_right _ _ (by omega), Int.add_mul_emod_self_right, Int.ediv_eq_zero_of_lt (by omega) (by omega), Int.emod_eq_of_lt (by omega) (by omega)]
    omega

theorem pow_succ' (n : Nat) : (2 : Int) ^ (n + 1) = 2 * 2 ^ n := by rw [Int.pow_succ, Int.mul_comm]
theorem pow_split63 (n : Nat) (h : n < 64) : (2 : Int) ^ n * 2 * 2 ^ (63 - n) = 18446744073709551616 := by
  rw [Int.mul_assoc, ← pow_succ', ← Int.pow_add, show n + (63 - n + 1) = 64 from by omega]; decide
theorem pow_split128 (n : Nat) (h : 64 ≤ n) : (2 : Int) ^ n = 18446744073709551616 * 2 ^ (n - 64) := by
  rw [show (18446744073709551616 : Int) = 2 ^ 64 by decide, ← Int.pow_add, show 64 + (n - 64) = n from by omega]

/-- the bits of X from the n-th on. -/
theorem shift_more (X : Int) (n : Nat) : X / 2 ^ n = 2 * (X / 2 ^ (n + 1)) + X / 2 ^ n % 2 := by
  have : X / 2 ^ (n + 1) = X / 2 ^ n / 2 := by
    rw [Int.pow_succ, Int.ediv_ediv_of_nonneg (Int.le_of_lt (pow_pos' n))]
  rw [this]; omega

/-- what stands where a quotient's bits do: all below the n-th are 0 yet. -/
def qAt (Q : Int) (n : Nat) : Int := Q * 2 ^ n % 18446744073709551616
def fitsAt (Q : Int) (n : Nat) : Bool := decide (Q * 2 ^ n < 18446744073709551616)
theorem qAt_bd (Q : Int) (n : Nat) : 0 ≤ qAt Q n ∧ qAt Q n ≤ 18446744073709551615 := by unfold qAt; omega

theorem q_zero (Q : Int) (n : Nat) : qAt (2 * Q) n = qAt Q (n + 1) ∧ fitsAt (2 * Q) n = fitsAt Q (n + 1) := by
  unfold qAt fitsAt
  rw [pow_succ', show 2 * Q * 2 ^ n = Q * (2 * 2 ^ n) by grind]
  exact ⟨rfl, rfl⟩
theorem q_high (Q : Int) (n : Nat) (h : 64 ≤ n) (hQ : 0 ≤ Q) : qAt (2 * Q + 1) n = qAt Q (n + 1) ∧ fitsAt (2 * Q + 1) n = false := by
  unfold qAt fitsAt
  have hp := pow_split128 n h
  have h1 := pow_pos' (n - 64)
  have h2 := pow_pos' n
  rw [pow_succ']
  constructor
  · rw [show (2 * Q + 1) * 2 ^ n = Q * (2 * 2 ^ n) + 18446744073709551616 * 2 ^ (n - 64) by rw [← hp]; grind, Int.add_mul_emod_self_left]
  · rw [decide_eq_false_iff_not]
    have : 1 * 2 ^ n ≤ (2 * Q + 1) * 2 ^ n := Int.mul_le_mul_of_nonneg_right (by omega) (by omega)
    have : (18446744073709551616 : Int) * 1 ≤ 18446744073709551616 * 2 ^ (n - 64) := Int.mul_le_mul_of_nonneg_left (by omega) (by omega)
    omega
theorem q_low (Q : Int) (n : Nat) (h : n < 64) : qAt (2 * Q + 1) n = qAt Q (n + 1) + 2 ^ n ∧ fitsAt (2 * Q + 1) n = fitsAt Q (n + 1) ∧ bits .or .u64 (qAt Q (n + 1)) (2 ^ n) = qAt Q (n + 1) + 2 ^ n := by
  have hp := pow_split63 n h
  have hV := pow_pos' (63 - n)
  have hT := pow_pos' n
  have e1 : Q * 2 ^ (n + 1) = (2 ^ n * 2) * Q := by rw [pow_succ']; grind
  have e2 : (2 * Q + 1) * 2 ^ n = (2 ^ n * 2) * Q + 2 ^ n := by grind
  have e3 : qAt Q (n + 1) = (2 ^ n * 2) * (Q % 2 ^ (63 - n)) := by
    unfold qAt
    rw [e1, ← hp, Int.mul_emod_mul_of_pos _ _ (by omega)]
  have h2 := Int.emod_nonneg Q (show (2 : Int) ^ (63 - n) ≠ 0 by omega)
  have h3 := Int.emod_lt_of_pos Q hV
  have h1 := Int.mul_ediv_add_emod Q (2 ^ (63 - n))
  have h4 : (2 ^ n * 2) * (Q % 2 ^ (63 - n) + 1) ≤ (2 ^ n * 2) * 2 ^ (63 - n) := Int.mul_le_mul_of_nonneg_left (by omega) (by omega)
  have h5 : 0 ≤ (2 ^ n * 2) * (Q % 2 ^ (63 - n)) := Int.mul_nonneg (by omega) h2
  rw [Int.mul_add, hp] at h4
  refine ⟨?_, ?_, ?_⟩
  · rw [e3]
    unfold qAt
    have e4 : (2 * Q + 1) * 2 ^ n = (2 ^ n * 2 * (Q % 2 ^ (63 - n)) + 2 ^ n) + 18446744073709551616 * (Q / 2 ^ (63 - n)) := by
      rw [e2, ← hp]
      have : (2 : Int) ^ n * 2 * Q = 2 ^ n * 2 * (2 ^ (63 - n) * (Q / 2 ^ (63 - n)) + Q % 2 ^ (63 - n)) := by rw [h1]
      grind
    rw [e4, Int.add_mul_emod_self_left, Int.emod_eq_of_lt (by omega) (by omega)]
  · unfold fitsAt
    rw [e1, e2]
    have : (2 ^ n * 2) * Q < 18446744073709551616 ↔ (2 ^ n * 2) * Q + 2 ^ n < 18446744073709551616 := by
      constructor
      · intro hl
        rw [← hp] at hl
        have hq : Q < 2 ^ (63 - n) := Int.lt_of_mul_lt_mul_left hl (by omega)
        have : (2 ^ n * 2) * (Q + 1) ≤ (2 ^ n * 2) * 2 ^ (63 - n) := Int.mul_le_mul_of_nonneg_left (by omega) (by omega)
        rw [Int.mul_add, hp] at this
        omega
      · intro hl; omega
    simp [this]
  · rw [e3, u64_or _ _ h5 (by omega) (by omega) (by omega)]
    obtain ⟨K, hK⟩ := Int.eq_ofNat_of_zero_le h2
    rw [hK]
    have c1 : ((2 : Int) ^ n * 2 * (K : Int)) = ((2 ^ n * 2 * K : Nat) : Int) := by simp
    have c2 : ((2 : Int) ^ n) = ((2 ^ n : Nat) : Int) := by simp
    rw [c1, c2, Int.toNat_natCast, Int.toNat_natCast, nat_join (n + 1) _ _ (by rw [Nat.pow_succ]; exact Nat.mul_mod_right _ _) (by rw [Nat.pow_succ]; have := Nat.pow_pos (n := n) (show 0 < 2 by decide); omega)]
    simp

/-- the n-th bit, out of the two halves. -/
theorem bit_low (hi lo : Int) (n : Nat) (h : n < 64) : (hi * 18446744073709551616 + lo) / 2 ^ n % 2 = lo / 2 ^ n % 2 := by
  have hp := pow_split63 n h
  have hT := pow_pos' n
  rw [show hi * 18446744073709551616 + lo = lo + 2 ^ n * (2 * (hi * 2 ^ (63 - n))) by rw [← hp]; grind, Int.add_mul_ediv_left _ _ (by omega)]
  omega
theorem bit_high (hi lo : Int) (n : Nat) (h : 64 ≤ n) (l0 : 0 ≤ lo) (l1 : lo < 18446744073709551616) : (hi * 18446744073709551616 + lo) / 2 ^ n % 2 = hi / 2 ^ (n - 64) % 2 := by
  rw [pow_split128 n h, ← Int.ediv_ediv_of_nonneg (by omega)]
  rw [show (hi * 18446744073709551616 + lo) / 18446744073709551616 = hi by omega]
theorem and_one {x : Int} (h0 : 0 ≤ x) (h1 : x < 18446744073709551616) : bits .and .u64 x 1 = x % 2 := by
  rw [u64_and _ _ h0 h1 (by omega) (by omega)]
  obtain ⟨X, rfl⟩ := Int.eq_ofNat_of_zero_le h0
  rw [Int.toNat_natCast]
  show ((X &&& 1 : Nat) : Int) = _
  rw [nat_mask1]; omega
theorem and_63 (n : Nat) (h : n < 128) : bits .and .i64 (n : Int) 63 = ((n % 64 : Nat) : Int) := by
  have : ∀ k : Fin 128, bits .and .i64 ((k.val : Nat) : Int) 63 = ((k.val % 64 : Nat) : Int) := by decide +kernel
  exact this ⟨n, h⟩
/-- twice what is left, and a bit: what the machine has of it. -/
theorem or_bit {r b : Int} (b0 : 0 ≤ b) (b1 : b ≤ 1) : bits .or .u64 (IntKind.u64.wrap (r * 2)) b = (2 * r + b) % 18446744073709551616 := by
  rw [IntKind.wrap_u64, u64_or _ _ (by omega) (by omega) b0 (by omega)]
  obtain ⟨B, rfl⟩ := Int.eq_ofNat_of_zero_le b0
  obtain ⟨K, hK⟩ := Int.eq_ofNat_of_zero_le (show 0 ≤ r * 2 % 18446744073709551616 by omega)
  rw [hK, Int.toNat_natCast, Int.toNat_natCast, nat_join 1 _ _ (by omega) (by omega)]
  omega
theorem wide_lo' (p q r s : Int) (p0 : 0 ≤ p) (q0 : 0 ≤ q) (r0 : 0 ≤ r) :
    bits .or .u64 (IntKind.u64.wrap ((r + (q + p / 4294967296) % 4294967296) * 4294967296)) (p % 4294967296) = (s * 18446744073709551616 + (q + r) * 4294967296 + p) % 18446744073709551616 := by
  have e : IntKind.u64.wrap ((r + (q + p / 4294967296) % 4294967296) * 4294967296) = (r + (q + p / 4294967296)) % 4294967296 * 4294967296 := by rw [IntKind.wrap_u64]; omega
  rw [e]
  exact wide_lo p q r s p0 q0 r0
theorem and_low32_i64 (x : Int) : bits .and .i64 x 4294967295 = x % 4294967296 := by
  show IntKind.i64.wrap ((BitVec.ofInt 64 x &&& BitVec.ofInt 64 4294967295).toNat : Int) = _
  have e : (BitVec.ofInt 64 4294967295).toNat = 2 ^ 32 - 1 := by decide
  rw [BitVec.toNat_and, e, Nat.and_two_pow_sub_one_eq_mod, BitVec.toNat_ofInt, IntKind.wrap_i64]
  omega
theorem or_join_i64 (h l : Int) (h0 : -2147483648 ≤ h) (h1 : h ≤ 2147483647) (l0 : 0 ≤ l) (l1 : l < 4294967296) : bits .or .i64 (h * 4294967296) l = h * 4294967296 + l := by
  show IntKind.i64.wrap ((BitVec.ofInt 64 (h * 4294967296) ||| BitVec.ofInt 64 l).toNat : Int) = _
  rw [BitVec.toNat_or, BitVec.toNat_ofInt, BitVec.toNat_ofInt, nat_join 32 _ _ (by omega) (by omega), IntKind.wrap_i64]
  omega

/-- A product by its size: it fits just if its side's number does. -/
theorem mul_signed {a b A B : Int} (hA : (a.natAbs : Int) = A) (hB : (b.natAbs : Int) = B) : (if (!decide (a < 0) == decide (b < 0)) = true then -(A * B) else A * B) = a * b := by
  have e : (decide (a < 0) != decide (b < 0)) = (!decide (a < 0) == decide (b < 0)) := by
    cases decide (a < 0) <;> cases decide (b < 0) <;> rfl
  rw [mul_size a b, hA, hB, e]
theorem mul_big {a b A B : Int} (hA : (a.natAbs : Int) = A) (hB : (b.natAbs : Int) = B) (h : 18446744073709551616 ≤ A * B) : in64 (a * b) = false := by
  rw [← mul_signed hA hB, in64_no]
  split <;> omega
end Go.Proofs.YtlanggdmdpjfbaaDoor
