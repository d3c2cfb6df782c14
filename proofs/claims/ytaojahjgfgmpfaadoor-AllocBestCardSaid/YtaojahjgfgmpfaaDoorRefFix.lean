/-
  What the document's own arithmetic (pledgeref1) answers.
-/
import Derived.Test.YtaojahjgfgmpfaaDoorFix
import Derived.Test.YtaojahjgfgmpfaaDoorFixMath
namespace Go.Proofs.YtaojahjgfgmpfaaDoor
open Go.RowKit

/-- over's loop: the bits from the (n+1)-th on are divided. -/
def OverAt (X c : Int) (n : Nat) (q r f : Value) : Prop := q = .int .u64 (qAt (X / 2 ^ n / c) n) ∧ r = .int .u64 (X / 2 ^ n % c) ∧ f = .bool (fitsAt (X / 2 ^ n / c) n)
def OverRel (X c : Int) (q r f i : Value) : Prop := (∃ n : Nat, n < 128 ∧ i = .int .i64 n ∧ OverAt X c (n + 1) q r f) ∨ (i = .int .i64 (-1) ∧ OverAt X c 0 q r f)
theorem overAt_start {X c : Int} (h0 : 0 ≤ X) (h1 : X < 340282366920938463463374607431768211456) : OverAt X c 128 (.int .u64 0) (.int .u64 0) (.bool true) := by
  have e : X / 2 ^ 128 = 0 := Int.ediv_eq_zero_of_lt h0 (by have : (2 : Int) ^ 128 = 340282366920938463463374607431768211456 := by decide
                                                            omega)
  unfold OverAt qAt fitsAt
  rw [e]; simp
theorem over_core {X c b R r : Int} {n : Nat} (hc : 0 < c) (hr : X / 2 ^ (n + 1) % c = r) (hb : X / 2 ^ n % 2 = b) (hR : 2 * r + b = R) (b0 : 0 ≤ b) (b1 : b ≤ 1) :
    (c ≤ R → X / 2 ^ n / c = 2 * (X / 2 ^ (n + 1) / c) + 1 ∧ X / 2 ^ n % c = R - c) ∧ (R < c → X / 2 ^ n / c = 2 * (X / 2 ^ (n + 1) / c) ∧ X / 2 ^ n % c = R) := by
  have hs := shift_more X n
  rw [hb] at hs
  obtain ⟨h1, h2⟩ := bit_step (P := X / 2 ^ (n + 1)) hc b0 b1
  rw [hr, hR] at h1 h2
  rw [hs]
  exact ⟨h1, h2⟩
theorem overRel_of {X c : Int} {n : Nat} {q r f : Value} (h : OverAt X c n q r f) (hn : n ≤ 127) : OverRel X c q r f (.int .i64 ((n : Int) - 1)) := by
  cases n with
  | zero => exact .inr ⟨rfl, h⟩
  | succ m => exact .inl ⟨m, by omega, by rw [show ((m + 1 : Nat) : Int) - 1 = m from by omega], h⟩
theorem over_zero {X c b R r : Int} {n : Nat} (hc : 0 < c) (hr : X / 2 ^ (n + 1) % c = r) (hb : X / 2 ^ n % 2 = b) (hR : 2 * r + b = R) (b0 : 0 ≤ b) (b1 : b ≤ 1) (h : R < c) (hn : n ≤ 127) :
    OverRel X c (.int .u64 (qAt (X / 2 ^ (n + 1) / c) (n + 1))) (.int .u64 R) (.bool (fitsAt (X / 2 ^ (n + 1) / c) (n + 1))) (.int .i64 ((n : Int) - 1)) := by
  obtain ⟨h1, h2⟩ := (over_core hc hr hb hR b0 b1).2 h
  obtain ⟨g1, g2⟩ := q_zero (X / 2 ^ (n + 1) / c) n
  exact overRel_of ⟨by rw [h1, g1], by rw [h2], by rw [h1, g2]⟩ hn
theorem over_high {X c b R r : Int} {n : Nat} (hc : 0 < c) (hr : X / 2 ^ (n + 1) % c = r) (hb : X / 2 ^ n % 2 = b) (hR : 2 * r + b = R) (b0 : 0 ≤ b) (b1 : b ≤ 1) (h : c ≤ R) (h64 : 64 ≤ n) (hq : 0 ≤ X / 2 ^ (n + 1) / c) (hn : n ≤ 127) :
    OverRel X c (.int .u64 (qAt (X / 2 ^ (n + 1) / c) (n + 1))) (.int .u64 (R - c)) (.bool false) (.int .i64 ((n : Int) - 1)) := by
  obtain ⟨h1, h2⟩ := (over_core hc hr hb hR b0 b1).1 h
  obtain ⟨g1, g2⟩ := q_high (X / 2 ^ (n + 1) / c) n h64 hq
  exact overRel_of ⟨by rw [h1, g1], by rw [h2], by rw [h1, g2]⟩ hn
theorem over_low {X c b R r : Int} {n : Nat} (hc : 0 < c) (hr : X / 2 ^ (n + 1) % c = r) (hb : X / 2 ^ n % 2 = b) (hR : 2 * r + b = R) (b0 : 0 ≤ b) (b1 : b ≤ 1) (h : c ≤ R) (h64 : n < 64) :
    OverRel X c (.int .u64 (bits .or .u64 (qAt (X / 2 ^ (n + 1) / c) (n + 1)) (IntKind.u64.wrap (2 ^ n)))) (.int .u64 (R - c)) (.bool (fitsAt (X / 2 ^ (n + 1) / c) (n + 1))) (.int .i64 ((n : Int) - 1)) := by
  obtain ⟨h1, h2⟩ := (over_core hc hr hb hR b0 b1).1 h
  obtain ⟨g1, g2, g3⟩ := q_low (X / 2 ^ (n + 1) / c) n h64
  have e : IntKind.u64.wrap (2 ^ n) = 2 ^ n := by
    have hp := pow_split63 n h64
    have hT := pow_pos' n
    have hV := pow_pos' (63 - n)
    have : (2 : Int) ^ n * 2 * 1 ≤ 2 ^ n * 2 * 2 ^ (63 - n) := Int.mul_le_mul_of_nonneg_left (by omega) (by omega)
    rw [IntKind.wrap_u64]; omega
  rw [e, g3]
  exact overRel_of ⟨by rw [h1, g1], by rw [h2], by rw [h1, g2]⟩ (by omega)
theorem over_done (Q : Int) : qAt Q 0 = Q % 18446744073709551616 ∧ fitsAt Q 0 = decide (Q < 18446744073709551616) := by
  unfold qAt fitsAt; simp
theorem measure_down {n : Nat} : (intOf (Value.int IntKind.i64 ((n : Int) - 1)) + 1).toNat < (intOf (Value.int IntKind.i64 (n : Int)) + 1).toNat := by simp [intOf]

theorem refWide_any (a b : Int) (w : World) (ha : 0 ≤ a) (ha2 : a ≤ 18446744073709551615) (hb : 0 ≤ b) (hb2 : b ≤ 18446744073709551615) :
    Calls Tryd.prog 77 #[.int .u64 a, .int .u64 b] w fun e w' => e = .returned (.tuple #[.int .u64 (hi64 (a * b)), .int .u64 (lo64 (a * b))]) ∧ w = w' := by
  have hp := halves_mul a b
  unfold hi64 lo64
  rw [hp]
  clear hp
  have a1 : 0 ≤ a / 4294967296 := by omega
  have a2 : a / 4294967296 ≤ 4294967295 := by omega
  have a3 : 0 ≤ a % 4294967296 := by omega
  have a4 : a % 4294967296 ≤ 4294967295 := by omega
  have b1 : 0 ≤ b / 4294967296 := by omega
  have b2 : b / 4294967296 ≤ 4294967295 := by omega
  have b3 : 0 ≤ b % 4294967296 := by omega
  have b4 : b % 4294967296 ≤ 4294967295 := by omega
  have p1 := mul_le_half a3 b3 a4 b4
  have p2 := mul_le_half a1 b3 a2 b4
  have p3 := mul_le_half a3 b1 a4 b2
  have p4 := mul_le_half a1 b1 a2 b2
  have e1 := and_low32 ha (by omega)
  have e2 := and_low32 hb (by omega)
  have e3 := and_low32 p1.1 (by omega)
  have e4 := and_low32 (x := a / 4294967296 * (b % 4294967296) + a % 4294967296 * (b % 4294967296) / 4294967296) (by omega) (by omega)
  go_enter Tryd.func77, Tryd.ntmps77
  go_wp2_with fail
  go_ret2
  exact ⟨ret_ii (by omega) (wide_lo' _ _ _ _ p1.1 p2.1 p3.1), rfl⟩

theorem refSize_any (n : Int) (w : World) (h : -9223372036854775808 ≤ n) (h2 : n ≤ 9223372036854775807) :
    Calls Tryd.prog 78 #[.int .i64 n] w fun e w' => e = .returned (.int .u64 n.natAbs) ∧ w = w' := by
  by_cases hn : n < 0
  · go_enter Tryd.func78, Tryd.ntmps78
    go_wp2
    go_ret
    exact ⟨ret_int (by omega), rfl⟩
  · go_enter Tryd.func78, Tryd.ntmps78
    go_wp2
    go_ret
    exact ⟨ret_int (by omega), rfl⟩

def RefSumRel (xs : List Int) (l h i : Value) : Prop :=
  ∃ (k : Nat) (L H : Int), i = .int .i64 (k : Int) ∧ k ≤ xs.length ∧ l = .int .i64 L ∧ h = .int .i64 H ∧ 0 ≤ L ∧ L ≤ k * 4294967295 ∧ -(k * 2147483648 : Int) ≤ H ∧ H ≤ k * 2147483647 ∧ total (xs.take k) = H * 4294967296 + L

end Go.Proofs.YtaojahjgfgmpfaaDoor
