/-
  Plain numbers: a wide number over one of 64 bits, digit by digit of 32 bits; the length of a number in bits.
-/
import Derived.Test.YtaojahjgfgmpfaaDoorFixMath
import Derived.Lib.BitFns
namespace Go.Proofs.YtaojahjgfgmpfaaDoor
open Go Go.RowKit

theorem bitLen_spec (x : Nat) (h0 : x ≠ 0) (h : x < 18446744073709551616) : 1 ≤ Lib.bitLen x ∧ Lib.bitLen x ≤ 64 ∧ 2 ^ (Lib.bitLen x - 1) ≤ x ∧ x < 2 ^ Lib.bitLen x := by
  induction x using Nat.strongRecOn with
  | ind x ih =>
    by_cases h1 : x = 1
    · subst h1; decide
    · have e := Lib.bitLen_half x h0 h
      have ih' := ih (x / 2) (by omega) (by omega) (by omega)
      have l : Lib.bitLen x ≤ 64 := Lib.bitLen_le x 64 (by omega) h
      rw [e] at l ⊢
      generalize Lib.bitLen (x / 2) = k at ih' l ⊢
      obtain ⟨k, rfl⟩ : ∃ j, k = j + 1 := ⟨k - 1, by omega⟩
      refine ⟨by omega, by omega, ?_, ?_⟩
      · rw [show 1 + (k + 1) - 1 = k + 1 from by omega, Nat.pow_succ]
        have := ih'.2.2.1
        simp only [Nat.add_sub_cancel] at this
        omega
      · rw [show 1 + (k + 1) = (k + 1) + 1 from by omega, Nat.pow_succ]
        have := ih'.2.2.2
        omega

/-- One digit of 32 bits: the guess q with its rest r = u - q * y1 is at least the digit, and what the test asks is whether it is too great. -/
theorem digit_test {q y1 y0 u n1 : Int} : q * y0 > 4294967296 * (u - q * y1) + n1 ↔ q * (y1 * 4294967296 + y0) > u * 4294967296 + n1 := by
  constructor <;> intro h <;> grind
/-- the digit is the quotient, once it is not too great and no less than that. -/
theorem digit_done {q Q y N : Int} (hy : 0 < y) (hQ : Q = N / y) (h1 : Q ≤ q) (h2 : q * y ≤ N) : q = Q := by
  have : q ≤ N / y := (Int.le_ediv_iff_mul_le hy).2 h2
  omega
theorem digit_less {q Q y N : Int} (hy : 0 < y) (hQ : Q = N / y) (h2 : N < q * y) : Q ≤ q - 1 := by
  have : N / y < q := Int.ediv_lt_of_lt_mul hy h2
  omega

theorem pow_split (s : Nat) (hs : s ≤ 64) : (2 : Int) ^ s * 2 ^ (64 - s) = 18446744073709551616 := by
  rw [← Int.pow_add, show s + (64 - s) = 64 from by omega]; decide
theorem pow_pos' (s : Nat) : (0 : Int) < 2 ^ s := Int.pow_pos (by decide)

/-- The leading zeros of y: y shifted by them has its highest bit. -/
theorem lead_norm {y : Int} {s : Nat} (h0 : 0 < y) (h1 : y ≤ 18446744073709551615) (hs : (s : Int) = 64 - Lib.bitLen y.toNat) :
    s ≤ 63 ∧ 9223372036854775808 ≤ y * 2 ^ s ∧ y * 2 ^ s < 18446744073709551616 := by
  obtain ⟨b1, b2, b3, b4⟩ := bitLen_spec y.toNat (by omega) (by omega)
  generalize Lib.bitLen y.toNat = k at *
  have hp := Nat.pow_pos (n := s) (show 0 < 2 by decide)
  have e1 : 2 ^ (k - 1) * 2 ^ s = 9223372036854775808 := by
    rw [← Nat.pow_add, show k - 1 + s = 63 from by omega]
  have e2 : 2 ^ k * 2 ^ s = 18446744073709551616 := by
    rw [← Nat.pow_add, show k + s = 64 from by omega]
  have f1 := Nat.mul_le_mul_right (2 ^ s) b3
  have f2 := Nat.mul_lt_mul_of_pos_right b4 hp
  rw [e1] at f1
  rw [e2] at f2
  obtain ⟨Y, rfl⟩ := Int.eq_ofNat_of_zero_le (show 0 ≤ y by omega)
  rw [Int.toNat_natCast] at f1 f2
  have c : ((Y : Int) * 2 ^ s) = ((Y * 2 ^ s : Nat) : Int) := by simp
  rw [c]
  omega

theorem or_shift {a b : Int} {s : Nat} (hs : s ≤ 64) (ha : 0 ≤ a) (hab : a * 2 ^ s < 18446744073709551616) (hb : 0 ≤ b) (hb2 : b < 2 ^ s) : bits .or .u64 (a * 2 ^ s) b = a * 2 ^ s + b := by
  have hp := pow_pos' s
  have hps : (2 : Int) ^ s ≤ 18446744073709551616 := by
    have := pow_split s hs
    have h1 := pow_pos' (64 - s)
    have h2 := Int.mul_le_mul_of_nonneg_left (show 1 ≤ (2 : Int) ^ (64 - s) by omega) (show 0 ≤ (2 : Int) ^ s by omega)
    omega
  have h0 : 0 ≤ a * 2 ^ s := Int.mul_nonneg ha (by omega)
  rw [u64_or _ _ h0 hab hb (by omega)]
  obtain ⟨A, rfl⟩ := Int.eq_ofNat_of_zero_le ha
  obtain ⟨B, rfl⟩ := Int.eq_ofNat_of_zero_le hb
  have c : ((A : Int) * 2 ^ s) = ((A * 2 ^ s : Nat) : Int) := by simp
  rw [c, Int.toNat_natCast, Int.toNat_natCast]
  have hb3 : B < 2 ^ s := by
    have : ((2 ^ s : Nat) : Int) = 2 ^ s := by simp
    omega
  rw [nat_join s _ _ (Nat.mul_mod_left _ _) hb3]
  simp

theorem norm_or {hi lo y : Int} {s : Nat} (h0 : 0 ≤ hi) (h1 : hi < y) (l0 : 0 ≤ lo) (l1 : lo ≤ 18446744073709551615) (hs : s ≤ 63) (y1 : y * 2 ^ s < 18446744073709551616) : bits .or .u64 (IntKind.u64.wrap (hi * 2 ^ s)) (lo / 2 ^ (64 - s)) = hi * 2 ^ s + lo / 2 ^ (64 - s) := by
  have hp := pow_pos' s
  have hr := pow_pos' (64 - s)
  have hpr := pow_split s (by omega)
  have a1 : hi * 2 ^ s < y * 2 ^ s := Int.mul_lt_mul_of_pos_right h1 hp
  have a0 : 0 ≤ hi * 2 ^ s := Int.mul_nonneg h0 (by omega)
  have e : IntKind.u64.wrap (hi * 2 ^ s) = hi * 2 ^ s := by rw [IntKind.wrap_u64]; omega
  rw [e]
  exact or_shift (by omega) h0 (by omega) (Int.ediv_nonneg l0 (by omega)) (Int.ediv_lt_of_lt_mul hr (by omega))
theorem norm_low {lo : Int} {s : Nat} (hs : s ≤ 63) : IntKind.u64.wrap (lo * 2 ^ s) = lo * 2 ^ s - lo / 2 ^ (64 - s) * 18446744073709551616 ∧ 0 ≤ lo * 2 ^ s - lo / 2 ^ (64 - s) * 18446744073709551616 ∧ lo * 2 ^ s - lo / 2 ^ (64 - s) * 18446744073709551616 < 18446744073709551616 := by
  have hp := pow_pos' s
  have hr := pow_pos' (64 - s)
  have hpr := pow_split s (by omega)
  have b1 := Int.emod_nonneg lo (show (2 : Int) ^ (64 - s) ≠ 0 by omega)
  have b2 := Int.emod_lt_of_pos lo hr
  have b3 := Int.mul_ediv_add_emod lo (2 ^ (64 - s))
  generalize lo % 2 ^ (64 - s) = m at *
  generalize lo / 2 ^ (64 - s) = d at *
  generalize (2 : Int) ^ s = P at *
  generalize (2 : Int) ^ (64 - s) = R at *
  have e : lo * P = d * 18446744073709551616 + m * P := by rw [← b3, ← hpr]; grind
  have f1 : m * P < R * P := Int.mul_lt_mul_of_pos_right b2 hp
  have f0 : 0 ≤ m * P := Int.mul_nonneg b1 (by omega)
  rw [Int.mul_comm R P, hpr] at f1
  rw [IntKind.wrap_u64]
  omega
theorem norm_all {hi lo : Int} {s : Nat} : (hi * 18446744073709551616 + lo) * 2 ^ s = (hi * 2 ^ s + lo / 2 ^ (64 - s)) * 18446744073709551616 + (lo * 2 ^ s - lo / 2 ^ (64 - s) * 18446744073709551616) := by
  grind
theorem norm_lt {hi lo y : Int} {s : Nat} (h0 : 0 ≤ hi) (h1 : hi < y) (l0 : 0 ≤ lo) (l1 : lo ≤ 18446744073709551615) (hs : s ≤ 63) (y1 : y * 2 ^ s < 18446744073709551616) : 0 ≤ hi * 2 ^ s + lo / 2 ^ (64 - s) ∧ hi * 2 ^ s + lo / 2 ^ (64 - s) < y * 2 ^ s := by
  have hp := pow_pos' s
  have hr := pow_pos' (64 - s)
  have hpr := pow_split s (by omega)
  have a1 : (hi + 1) * 2 ^ s ≤ y * 2 ^ s := Int.mul_le_mul_of_nonneg_right (by omega) (by omega)
  have a0 : 0 ≤ hi * 2 ^ s := Int.mul_nonneg h0 (by omega)
  have c1 : 0 ≤ lo / 2 ^ (64 - s) := Int.ediv_nonneg l0 (by omega)
  have c2 : lo / 2 ^ (64 - s) < 2 ^ s := Int.ediv_lt_of_lt_mul hr (by omega)
  rw [Int.add_mul] at a1
  omega

/-- Two digits are the quotient, and what they leave the rest. -/
theorem two_digits {u n1 n0 Y : Int} (hY : 0 < Y) : (u * 18446744073709551616 + (n1 * 4294967296 + n0)) / Y = (u * 4294967296 + n1) / Y * 4294967296 + ((u * 4294967296 + n1) % Y * 4294967296 + n0) / Y
    ∧ (u * 18446744073709551616 + (n1 * 4294967296 + n0)) % Y = ((u * 4294967296 + n1) % Y * 4294967296 + n0) % Y := by
  have e : u * 18446744073709551616 + (n1 * 4294967296 + n0) = ((u * 4294967296 + n1) % Y * 4294967296 + n0) + ((u * 4294967296 + n1) / Y * 4294967296) * Y := by
    have := Int.mul_ediv_add_emod (u * 4294967296 + n1) Y
    grind
  rw [e, Int.add_mul_ediv_right _ _ (by omega), Int.add_mul_emod_self_right]
  omega
/-- A shift of both changes nothing of the quotient, and shifts the rest. -/
theorem shift_div {X y P : Int} (hP : 0 < P) : X / y = (X * P) / (y * P) ∧ X % y = (X * P) % (y * P) / P := by
  constructor
  · rw [Int.mul_ediv_mul_of_pos_left _ _ hP]
  · rw [Int.mul_comm X P, Int.mul_comm y P, Int.mul_emod_mul_of_pos _ _ hP, Int.mul_ediv_cancel_left _ (by omega)]
/-- What is left by the quotient. -/
theorem rest_mod {N Y : Int} : N - N / Y * Y = N % Y := by
  have := Int.mul_ediv_add_emod N Y
  grind
theorem quo_small {N Y B : Int} (hY : 0 < Y) (h0 : 0 ≤ N) (h : N < Y * B) : 0 ≤ N / Y ∧ N / Y < B :=
  ⟨Int.ediv_nonneg h0 (by omega), Int.ediv_lt_of_lt_mul hY (by rw [Int.mul_comm]; exact h)⟩

theorem tab8 (k : Nat) (h : k < Lib.len8tab.size) : (Lib.len8tab[k]'h).toNat = Lib.bitLen k ∧ Lib.bitLen k ≤ 8 := by
  have hk : k < 256 := by rw [Lib.len8tab_size] at h; exact h
  have e := Lib.len8_eq ⟨k, hk⟩
  have l := Lib.bitLen_le8 ⟨k, hk⟩
  simp only [Lib.len8, Int.toNat_natCast] at e l
  rw [getElem?_pos Lib.len8tab k h] at e
  simp only [Option.getD_some] at e
  exact ⟨by omega, l⟩
theorem tab_end {X c : Nat} (k : Nat) (h : k < Lib.len8tab.size) (hc : c ≤ 100) (e : Lib.bitLen X = c + Lib.bitLen k) : wrap64 ((c : Int) + wrap64 ((Lib.len8tab[k]'h).toNat : Int)) = (Lib.bitLen X : Int) := by
  obtain ⟨e1, l⟩ := tab8 k h
  rw [e1, e]; unfold wrap64; omega
theorem tab_end0 {X : Nat} (k : Nat) (h : k < Lib.len8tab.size) (e : Lib.bitLen X = Lib.bitLen k) : wrap64 (wrap64 ((Lib.len8tab[k]'h).toNat : Int)) = (Lib.bitLen X : Int) := by
  obtain ⟨e1, l⟩ := tab8 k h
  rw [e1, e]; unfold wrap64; omega

/-- a guess whose rest has grown out of its digit is not too great. -/
theorem digit_break {Q R u y1 y0 n1 : Int} (hR : 4294967296 ≤ R) (e : R = u - Q * y1) (h0 : 0 ≤ Q) (hu : u < y1 * 4294967296 + y0) (hy1 : 0 < y1) (hy0 : 0 ≤ y0) (hy : y0 < 4294967296) (hn : 0 ≤ n1) :
    Q * (y1 * 4294967296 + y0) ≤ u * 4294967296 + n1 := by
  have h1 : Q * y1 < 4294967296 * y1 := by omega
  have h2 : Q < 4294967296 := Int.lt_of_mul_lt_mul_right h1 (by omega)
  have h3 : Q * y0 ≤ Q * 4294967296 := Int.mul_le_mul_of_nonneg_left (by omega) h0
  subst e
  have h4 : Q * (y1 * 4294967296 + y0) = Q * y1 * 4294967296 + Q * y0 := by grind
  omega
theorem digit_over {Q u Y n1 : Int} (hQ : 4294967296 ≤ Q) (hu : u < Y) (hu0 : 0 ≤ u) (hn : n1 < 4294967296) : u * 4294967296 + n1 < Q * Y := by
  have : 4294967296 * Y ≤ Q * Y := Int.mul_le_mul_of_nonneg_right hQ (by omega)
  omega
theorem mul_bd32 {Q y0 : Int} (h0 : 0 ≤ Q) (h1 : Q < 4294967296) (b0 : 0 ≤ y0) (b1 : y0 < 4294967296) : 0 ≤ Q * y0 ∧ Q * y0 ≤ 18446744065119617025 := by
  have := mul_le_half h0 b0 (show Q ≤ 4294967295 by omega) (show y0 ≤ 4294967295 by omega)
  omega
theorem wrap_rest {u n1 Q Y : Int} (hY : 0 < Y) (hY2 : Y ≤ 18446744073709551616) (hQ : Q = (u * 4294967296 + n1) / Y) :
    IntKind.u64.wrap (u * 4294967296 + n1 - Q * Y) = (u * 4294967296 + n1) % Y := by
  have e := rest_mod (N := u * 4294967296 + n1) (Y := Y)
  rw [← hQ] at e
  have h1 := Int.emod_nonneg (u * 4294967296 + n1) (show Y ≠ 0 by omega)
  have h2 := Int.emod_lt_of_pos (u * 4294967296 + n1) hY
  rw [e, IntKind.wrap_u64]; omega

/-- the first guess of a digit. -/
theorem digit_start {u n y1 y0 : Int} (u0 : 0 ≤ u) (uY : u < y1 * 4294967296 + y0) (a1 : 2147483648 ≤ y1) (a2 : y1 < 4294967296) (b1 : 0 ≤ y0) (b2 : y0 < 4294967296) (c1 : 0 ≤ n) (c2 : n < 4294967296) :
    0 ≤ u / y1 ∧ u / y1 ≤ 8589934591 ∧ 0 ≤ u - u / y1 * y1 ∧ u - u / y1 * y1 < 4294967296 ∧ 0 ≤ u / y1 * y1 ∧ u / y1 * y1 ≤ 18446744073709551615 ∧ (u * 4294967296 + n) / (y1 * 4294967296 + y0) ≤ u / y1 := by
  have h1 : 0 ≤ u / y1 := Int.ediv_nonneg u0 (by omega)
  have h2 := Int.emod_nonneg u (show y1 ≠ 0 by omega)
  have h3 := Int.emod_lt_of_pos u (show 0 < y1 by omega)
  have h4 := Int.mul_ediv_add_emod u y1
  rw [Int.mul_comm] at h4
  have h5 : u / y1 < 8589934592 := Int.ediv_lt_of_lt_mul (by omega) (by omega)
  generalize u / y1 = q at *
  generalize u % y1 = m at *
  refine ⟨h1, by omega, by omega, by omega, Int.mul_nonneg h1 (by omega), by omega, ?_⟩
  have h6 : (u * 4294967296 + n) / (y1 * 4294967296 + y0) < q + 1 := by
    refine Int.ediv_lt_of_lt_mul (by omega) ?_
    have h7 : 0 ≤ q * y0 := Int.mul_nonneg h1 b1
    have e : (q + 1) * (y1 * 4294967296 + y0) = q * y1 * 4294967296 + q * y0 + y1 * 4294967296 + y0 := by grind
    rw [e]; omega
  omega
theorem wrap3 {u n D Y : Int} : IntKind.u64.wrap (IntKind.u64.wrap (IntKind.u64.wrap (u * 4294967296) + n) - IntKind.u64.wrap (D * Y)) = IntKind.u64.wrap (u * 4294967296 + n - D * Y) := by
  simp only [IntKind.wrap_u64]; omega
theorem and_low32 {x : Int} (h0 : 0 ≤ x) (h1 : x < 18446744073709551616) : bits .and .u64 x 4294967295 = x % 4294967296 := by
  rw [u64_and _ _ h0 h1 (by omega) (by omega)]
  obtain ⟨X, rfl⟩ := Int.eq_ofNat_of_zero_le h0
  rw [Int.toNat_natCast]
  show ((X &&& 4294967295 : Nat) : Int) = _
  rw [show (4294967295 : Nat) = 2 ^ 32 - 1 by decide, Nat.and_two_pow_sub_one_eq_mod]
  omega
end Go.Proofs.YtaojahjgfgmpfaaDoor
