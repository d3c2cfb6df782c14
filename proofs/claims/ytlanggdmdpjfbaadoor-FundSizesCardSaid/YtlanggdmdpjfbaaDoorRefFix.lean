/-
  What the document's own arithmetic (pledgeref1) answers.
-/
import Derived.Test.YtlanggdmdpjfbaaDoorFix
import Derived.Test.YtlanggdmdpjfbaaDoorFixMath
namespace Go.Proofs.YtlanggdmdpjfbaaDoor
open Go.RowKit

/-- over's loop: the bits from the (n+1)-th on are divided. -/
def OverAt (X c : Int) (n : Nat) (q r f : Value) : Prop := q = .int .u64 (qAt (X / 2 ^ n / c) n) ∧ r = .int .u64 (X / 2 ^ n % c) ∧ f = .bool (fitsAt (X / 2 ^ n / c) n)
def OverRel (X c : Int) (q r f i : Value) : Prop := (∃ n : Nat, n < 128 ∧ i = .int .i64 n ∧ OverAt X c (n + 1) q r f) ∨ (i = .int .i64 (-1) ∧ OverAt X c 0 q r f)
theorem overAt_start {X c : Int} (h0 : 0 ≤ X) (h1 : X < 340282366920938463463374607431768211456) : OverAt X c 128 (.int .u64 0) (.int .u64 0) (.bool true) := by
  have e : X / 2 ^ 128 = 0 := Int.ediv_eq_zero_of_lt h0 (by have : (2 : Int) ^ 128 = 340282366920938463463374607431768211456 := by decide
                                                            omega)
  unfold OverAt qAt fitsAt
  rw [e]; simp
theorem over_core {X c b R r : Int} {n : Nat} (hc : 0 < c) (hr : X / 2 ^ (n + 1) % c = r) (hb : X / 2 ^ n % 2 = b) (hR : 2 * r + b = R) (b0 : 0 ≤ b) (b1 : b ≤ 1) :
    (c ≤ R → X / 2 ^ n / c = 2 * (X / 2 ^ (n + 1) / c) + 1 ∧ X / 2 ^ n % c = R - c) ∧ (R < c → X / 2 ^ n / c = 2 * (X / 2 ^ (n + 1) / c) ∧ X / 2 ^ n % c = R) := by
  have hs := shift_more X n
  rw [hb] at hs
  obtain ⟨h1, h2⟩ := bit_step (P := X / 2 ^ (n + 1)) hc b0 b1
  rw [hr, hR] at h1 h2
  rw [hs]
  exact ⟨h1, h2⟩
theorem overRel_of {X c : Int} {n : Nat} {q r f : Value} (h : OverAt X c n q r f) (hn : n ≤ 127) : OverRel X c q r f (.int .i64 ((n : Int) - 1)) := by
  cases n with
  | zero => exact .inr ⟨rfl, h⟩
  | succ m => exact .inl ⟨m, by omega, by rw [show ((m + 1 : Nat) : Int) - 1 = m from by omega], h⟩
theorem over_zero {X c b R r : Int} {n : Nat} (hc : 0 < c) (hr : X / 2 ^ (n + 1) % c = r) (hb : X / 2 ^ n % 2 = b) (hR : 2 * r + b = R) (b0 : 0 ≤ b) (b1 : b ≤ 1) (h : R < c) (hn : n ≤ 127) :
    OverRel X c (.int .u64 (qAt (X / 2 ^ (n + 1) / c) (n + 1))) (.int .u64 R) (.bool (fitsAt (X / 2 ^ (n + 1) / c) (n + 1))) (.int .i64 ((n : Int) - 1)) := by
  obtain ⟨h1, h2⟩ := (over_core hc hr hb hR b0 b1).2 h
  obtain ⟨g1, g2⟩ := q_zero (X / 2 ^ (n + 1) / c) n
  exact overRel_of ⟨by rw [h1, g1], by rw [h2], by rw [h1, g2]⟩ hn
theorem over_high {X c b R r : Int} {n : Nat} (hc : 0 < c) (hr : X / 2 ^ (n + 1) % c = r) (hb : X / 2 ^ n % 2 = b) (hR : 2 * r + b = R) (b0 : 0 ≤ b) (b1 : b ≤ 1) (h : c ≤ R) (h64 : 64 ≤ n) (hq : 0 ≤ X / 2 ^ (n + 1) / c) (hn : n ≤ 127) :
    OverRel X c (.int .u64 (qAt (X / 2 ^ (n + 1) / c) (n + 1))) (.int .u64 (R - c)) (.bool false) (.int .i64 ((n : Int) - 1)) := by
  obtain ⟨h1, h2⟩ := (over_core hc hr hb hR b0 b1).1 h
  obtain ⟨g1, g2⟩ := q_high (X / 2 ^ (n + 1) / c) n h64 hq
  exact overRel_of ⟨by rw [h1, g1], by rw [h2], by rw [h1, g2]⟩ hn
theorem over_low {X c b R r : Int} {n : Nat} (hc : 0 < c) (hr : X / 2 ^ (n + 1) % c = r) (hb : X / 2 ^ n % 2 = b) (hR : 2 * r + b = R) (b0 : 0 ≤ b) (b1 : b ≤ 1) (h : c ≤ R) (h64 : n < 64) :
    OverRel X c (.int .u64 (bits .or .u64 (qAt (X / 2 ^ (n + 1) / c) (n + 1)) (IntKind.u64.wrap (2 ^ n)))) (.int .u64 (R - c)) (.bool (fitsAt (X / 2 ^ (n + 1) / c) (n + 1))) (.int .i64 ((n : Int) - 1)) := by
  obtain ⟨h1, h2⟩ := (over_core hc hr hb hR b0 b1).1 h
  obtain ⟨g1, g2, g3⟩ := q_low (X / 2 ^ (n + 1) / c) n h64
  have e : IntKind.u64.wrap (2 ^ n) = 2 ^ n := by
    have hp := pow_split63 n h64
    have hT := pow_pos' n
    have hV := pow_pos' (63 - n)
    have : (2 : Int) ^ n * 2 * 1 ≤ 2 ^ n * 2 * 2 ^ (63 - n) := Int.mul_le_mul_of_nonneg_left (by omega) (by omega)
    rw [IntKind.wrap_u64]; omega
  rw [e, g3]
  exact overRel_of ⟨by rw [h1, g1], by rw [h2], by rw [h1, g2]⟩ (by omega)
theorem over_done (Q : Int) : qAt Q 0 = Q % 18446744073709551616 ∧ fitsAt Q 0 = decide (Q < 18446744073709551616) := by
  unfold qAt fitsAt; simp
theorem measure_down {n : Nat} : (intOf (Value.int IntKind.i64 ((n : Int) - 1)) + 1).toNat < (intOf (Value.int IntKind.i64 (n : Int)) + 1).toNat := by simp [intOf]

set_option maxHeartbeats 4000000 in
theorem over_any (hi lo c : Int) (w : World) (h0 : 0 ≤ hi) (h1 : hi ≤ 18446744073709551615) (l0 : 0 ≤ lo) (l1 : lo ≤ 18446744073709551615) (hc : 0 < c) (hc2 : c ≤ 9223372036854775807) :
    Calls Tryd.prog 64 #[.int .u64 hi, .int .u64 lo, .int .u64 c] w fun e w' => e = .returned (.tuple #[.int .u64 ((hi * 18446744073709551616 + lo) / c % 18446744073709551616), .int .u64 ((hi * 18446744073709551616 + lo) % c), .bool (decide ((hi * 18446744073709551616 + lo) / c < 18446744073709551616))]) ∧ w = w' := by
  obtain ⟨X, hX⟩ : ∃ x, hi * 18446744073709551616 + lo = x := ⟨_, rfl⟩
  have hX0 := hidden (show 0 ≤ X by omega)
  have hX1 := hidden (show X < 340282366920938463463374607431768211456 by omega)
  have hXX := hidden hX
  rw [hX]
  clear hX
  have a63 := and_63
  go_enter Tryd.func64, Tryd.ntmps64
  go_wp2_with fail
  go_loop [9, 10, 11, 12] (fun q r f i => OverRel X c q r f i) (fun _ _ _ i => (intOf i + 1).toNat)
  case atStart => exact .inl ⟨127, by omega, rfl, overAt_start hX0.out hX1.out⟩
  case round =>
    rcases hrel with ⟨n, hn, rfl, rfl, rfl, rfl⟩ | ⟨rfl, rfl, rfl, rfl⟩
    · have m0 := Int.emod_nonneg (X / 2 ^ (n + 1)) (show c ≠ 0 by omega)
      have m1 := Int.emod_lt_of_pos (X / 2 ^ (n + 1)) hc
      have hq0 := hidden (Int.ediv_nonneg (Int.ediv_nonneg hX0.out (Int.le_of_lt (pow_pos' (n + 1)))) (Int.le_of_lt hc))
      have hs := hidden (shift_more X n)
      have b0 : 0 ≤ X / 2 ^ n % 2 := by omega
      have b1 : X / 2 ^ n % 2 ≤ 1 := by omega
      have hst := hidden (bit_step (P := X / 2 ^ (n + 1)) hc b0 b1)
      obtain ⟨r, hr⟩ : ∃ x, X / 2 ^ (n + 1) % c = x := ⟨_, rfl⟩
      obtain ⟨b, hb⟩ : ∃ x, X / 2 ^ n % 2 = x := ⟨_, rfl⟩
      obtain ⟨R, hR⟩ : ∃ x, 2 * r + b = x := ⟨_, rfl⟩
      rw [hr] at m0 m1
      rw [hb] at b0 b1
      have e2 : bits .or .u64 (r * 2) b = R := by
        have := or_bit (r := r) b0 b1
        rw [IntKind.wrap_u64] at this
        rw [show r * 2 = r * 2 % 18446744073709551616 by omega, this]; omega
      have R0 : 0 ≤ R := by omega
      have R1 : R ≤ 18446744073709551615 := by omega
      by_cases h64 : 64 ≤ n
      · have e1 : bits .and .u64 (hi / 2 ^ (n - 64)) 1 = b := by
          rw [and_one (Int.ediv_nonneg h0 (Int.le_of_lt (pow_pos' _))) (by have := Int.ediv_le_self (2 ^ (n - 64)) h0; omega), ← bit_high hi lo n h64 l0 (by omega), hXX.out, hb]
        by_cases hcR : c ≤ R
        · have hrel := hidden (over_high hc hr hb hR b0 b1 hcR h64 hq0.out (by omega))
          replace hb := hidden hb
          replace hR := hidden hR
          go_wp2_with fail
          exact ⟨hrel.out, measure_down⟩
        · have hrel := hidden (over_zero hc hr hb hR b0 b1 (by omega) (by omega))
          replace hb := hidden hb
          replace hR := hidden hR
          go_wp2_with fail
          exact ⟨hrel.out, measure_down⟩
      · have e1 : bits .and .u64 (lo / 2 ^ n) 1 = b := by
          rw [and_one (Int.ediv_nonneg l0 (Int.le_of_lt (pow_pos' _))) (by have := Int.ediv_le_self (2 ^ n) l0; omega), ← bit_low hi lo n (by omega), hXX.out, hb]
        have em : n % 64 = n := by omega
        by_cases hcR : c ≤ R
        · have hrel := hidden (over_low hc hr hb hR b0 b1 hcR (by omega))
          replace hb := hidden hb
          replace hR := hidden hR
          go_wp2_with fail
          exact ⟨hrel.out, measure_down⟩
        · have hrel := hidden (over_zero hc hr hb hR b0 b1 (by omega) (by omega))
          replace hb := hidden hb
          replace hR := hidden hR
          go_wp2_with fail
          exact ⟨hrel.out, measure_down⟩
    · go_wp2_with fail
      go_ret3
      exact ⟨ret_iib (over_done _).1 rfl (over_done _).2, rfl⟩

theorem refWide_any (a b : Int) (w : World) (ha : 0 ≤ a) (ha2 : a ≤ 18446744073709551615) (hb : 0 ≤ b) (hb2 : b ≤ 18446744073709551615) :
    Calls Tryd.prog 62 #[.int .u64 a, .int .u64 b] w fun e w' => e = .returned (.tuple #[.int .u64 (hi64 (a * b)), .int .u64 (lo64 (a * b))]) ∧ w = w' := by
  have hp := halves_mul a b
  unfold hi64 lo64
  rw [hp]
  clear hp
  have a1 : 0 ≤ a / 4294967296 := by omega
  have a2 : a / 4294967296 ≤ 4294967295 := by omega
  have a3 : 0 ≤ a % 4294967296 := by omega
  have a4 : a % 4294967296 ≤ 4294967295 := by omega
  have b1 : 0 ≤ b / 4294967296 := by omega
  have b2 : b / 4294967296 ≤ 4294967295 := by omega
  have b3 : 0 ≤ b % 4294967296 := by omega
  have b4 : b % 4294967296 ≤ 4294967295 := by omega
  have p1 := mul_le_half a3 b3 a4 b4
  have p2 := mul_le_half a1 b3 a2 b4
  have p3 := mul_le_half a3 b1 a4 b2
  have p4 := mul_le_half a1 b1 a2 b2
  have e1 := and_low32 ha (by omega)
  have e2 := and_low32 hb (by omega)
  have e3 := and_low32 p1.1 (by omega)
  have e4 := and_low32 (x := a / 4294967296 * (b % 4294967296) + a % 4294967296 * (b % 4294967296) / 4294967296) (by omega) (by omega)
  go_enter Tryd.func62, Tryd.ntmps62
  go_wp2_with fail
  go_ret2
  exact ⟨ret_ii (by omega) (wide_lo' _ _ _ _ p1.1 p2.1 p3.1), rfl⟩

theorem refSize_any (n : Int) (w : World) (h : -9223372036854775808 ≤ n) (h2 : n ≤ 9223372036854775807) :
    Calls Tryd.prog 63 #[.int .i64 n] w fun e w' => e = .returned (.int .u64 n.natAbs) ∧ w = w' := by
  by_cases hn : n < 0
  · go_enter Tryd.func63, Tryd.ntmps63
    go_wp2
    go_ret
    exact ⟨ret_int (by omega), rfl⟩
  · go_enter Tryd.func63, Tryd.ntmps63
    go_wp2
    go_ret
    exact ⟨ret_int (by omega), rfl⟩

theorem refSigned_any (n : Int) (neg : Bool) (w : World) (h : 0 ≤ n) (h2 : n ≤ 18446744073709551615) :
    Calls Tryd.prog 65 #[.bool neg, .int .u64 n] w fun e w' => e = .returned (.tuple #[.int .i64 (cap64 (if neg = true then -n else n)), .bool (in64 (if neg = true then -n else n))]) ∧ w = w' := by
  cases neg
  · by_cases hn : n ≤ 9223372036854775807
    · have hi := in64_mk (x := n) (by omega)
      have hc := cap64_yes hi
      go_enter Tryd.func65, Tryd.ntmps65
      go_wp2
      go_ret2
      exact ⟨ret_ib rfl rfl, rfl⟩
    · have hi := (in64_no n).2 (by omega)
      have hc := cap64_no hi
      go_enter Tryd.func65, Tryd.ntmps65
      go_wp2
      go_ret2
      exact ⟨ret_ib rfl rfl, rfl⟩
  · by_cases hn : n ≤ 9223372036854775808
    · by_cases hn0 : n = 0
      · subst hn0
        have hi := in64_mk (x := -0) (by omega)
        have hc := cap64_yes hi
        go_enter Tryd.func65, Tryd.ntmps65
        go_wp2
        go_ret2
        exact ⟨ret_ib (by decide) (by decide), rfl⟩
      · have hne : (n == 0) = false := by simpa using hn0
        have hn1 : 1 ≤ n := by omega
        have hi := in64_mk (x := -n) (by omega)
        have hc := cap64_yes hi
        go_enter Tryd.func65, Tryd.ntmps65
        go_wp2
        go_ret2
        exact ⟨ret_ib (by omega) rfl, rfl⟩
    · have hi := (in64_no (-n)).2 (by omega)
      have hc := cap64_no hi
      go_enter Tryd.func65, Tryd.ntmps65
      go_wp2
      go_ret2
      exact ⟨ret_ib rfl rfl, rfl⟩

set_option maxHeartbeats 4000000 in
theorem refDiv_walk (a b c A B H L q m X : Int) (up bel : Bool) (w : World) (ha : -9223372036854775808 ≤ a) (ha2 : a ≤ 9223372036854775807) (hb : -9223372036854775808 ≤ b) (hb2 : b ≤ 9223372036854775807) (hc : 0 < c) (hc2 : c ≤ 9223372036854775807)
    (hA : (a.natAbs : Int) = A) (hB : (b.natAbs : Int) = B) (hA0 : 0 ≤ A) (hA1 : A ≤ 9223372036854775808) (hB0 : 0 ≤ B) (hB1 : B ≤ 9223372036854775808)
    (hH : hi64 (A * B) = H) (hL : lo64 (A * B) = L) (h1 : 0 ≤ H) (h2 : H ≤ 9223372036854775807) (h3 : 0 ≤ L) (h4 : L ≤ 18446744073709551615) (hP : H * 18446744073709551616 + L = X)
    (hq : X / c = q) (hm : X % c = m) (q0 : 0 ≤ q) (q1 : q < 18446744073709551616) (q2 : q % 18446744073709551616 = q) (m0 : 0 ≤ m) (m1 : m < c) (hbel : (!decide (a < 0) == decide (b < 0)) = bel)
    (R : Int) (hR : Hid (cap64 (if bel = true then -(if 0 < m ∧ up ≠ bel ∧ q < 18446744073709551615 then q + 1 else q) else (if 0 < m ∧ up ≠ bel ∧ q < 18446744073709551615 then q + 1 else q)) = cap64 R ∧ in64 (if bel = true then -(if 0 < m ∧ up ≠ bel ∧ q < 18446744073709551615 then q + 1 else q) else (if 0 < m ∧ up ≠ bel ∧ q < 18446744073709551615 then q + 1 else q)) = in64 R)) :
    Calls Tryd.prog 49 #[.int .i64 a, .int .i64 b, .int .i64 c, .bool up] w fun e w' => e = .returned (.tuple #[.int .i64 (cap64 R), .bool (in64 R)]) ∧ w = w' := by
  by_cases hm1 : m = 0
  · subst hm1
    cases up <;> cases bel
    all_goals
      go_enter Tryd.func49, Tryd.ntmps49
      go_wp2_with (first
        | (go_at_call 63; refine (refSize_any _ _ (by omega) (by omega)).mono ?_; rintro e w' ⟨rfl, rfl⟩)
        | (go_at_call 62; refine (refWide_any _ _ _ (by omega) (by omega) (by omega) (by omega)).mono ?_; rintro e w' ⟨rfl, rfl⟩)
        | (go_at_call 64; refine (over_any _ _ _ _ (by omega) (by omega) (by omega) (by omega) (by omega) (by omega)).mono ?_; rintro e w' ⟨rfl, rfl⟩)
        | (go_at_call 65; refine (refSigned_any _ _ _ (by omega) (by omega)).mono ?_; rintro e w' ⟨rfl, rfl⟩))
      go_ret2
      have h := hR.out
      simp at h
      exact ⟨ret_ib h.1 h.2, rfl⟩
  · have hm2 : (m != 0) = true := by simpa using hm1
    have hm3 : 0 < m := by omega
    clear hm1
    by_cases hq1 : q = 18446744073709551615
    · have hfar : ∀ z : Int, z = q ∨ z = -q → cap64 z = 0 ∧ in64 z = false := by
        rintro z (rfl | rfl) <;> exact ⟨cap64_no ((in64_no _).2 (by omega)), (in64_no _).2 (by omega)⟩
      have hz := hR.out
      rw [if_neg (show ¬ (0 < m ∧ up ≠ bel ∧ q < 18446744073709551615) from fun h => by omega)] at hz
      have hy := hfar (if bel = true then -q else q) (by split; exact .inr rfl; exact .inl rfl)
      have r1 := hz.1.symm.trans hy.1
      have r2 := hz.2.symm.trans hy.2
      have hR' := hidden (show (cap64 (-q) = cap64 R ∧ in64 (-q) = in64 R) ∧ (cap64 q = cap64 R ∧ in64 q = in64 R) ∧ (0 = cap64 R ∧ false = in64 R) from by
        rw [r1, r2]; exact ⟨hfar _ (.inr rfl), hfar _ (.inl rfl), rfl, rfl⟩)
      clear r1 r2
      clear hfar hz hy
      have hb1 : (q == 18446744073709551615) = true := by simpa using hq1
      replace hq1 := hidden hq1
      cases up <;> cases bel
      all_goals
        go_enter Tryd.func49, Tryd.ntmps49
        go_wp2_with (first
          | (go_at_call 63; refine (refSize_any _ _ (by omega) (by omega)).mono ?_; rintro e w' ⟨rfl, rfl⟩)
          | (go_at_call 62; refine (refWide_any _ _ _ (by omega) (by omega) (by omega) (by omega)).mono ?_; rintro e w' ⟨rfl, rfl⟩)
          | (go_at_call 64; refine (over_any _ _ _ _ (by omega) (by omega) (by omega) (by omega) (by omega) (by omega)).mono ?_; rintro e w' ⟨rfl, rfl⟩)
          | (go_at_call 65; refine (refSigned_any _ _ _ (by omega) (by omega)).mono ?_; rintro e w' ⟨rfl, rfl⟩))
        go_ret2
        first
          | exact ⟨ret_ib hR'.out.2.2.1 hR'.out.2.2.2, rfl⟩
          | exact ⟨ret_ib hR'.out.2.1.1 hR'.out.2.1.2, rfl⟩
          | exact ⟨ret_ib hR'.out.1.1 hR'.out.1.2, rfl⟩
    · have hb1 : (q == 18446744073709551615) = false := by simpa using hq1
      have hq2 : q < 18446744073709551615 := by omega
      cases up <;> cases bel
      all_goals
        go_enter Tryd.func49, Tryd.ntmps49
        go_wp2_with (first
          | (go_at_call 63; refine (refSize_any _ _ (by omega) (by omega)).mono ?_; rintro e w' ⟨rfl, rfl⟩)
          | (go_at_call 62; refine (refWide_any _ _ _ (by omega) (by omega) (by omega) (by omega)).mono ?_; rintro e w' ⟨rfl, rfl⟩)
          | (go_at_call 64; refine (over_any _ _ _ _ (by omega) (by omega) (by omega) (by omega) (by omega) (by omega)).mono ?_; rintro e w' ⟨rfl, rfl⟩)
          | (go_at_call 65; refine (refSigned_any _ _ _ (by omega) (by omega)).mono ?_; rintro e w' ⟨rfl, rfl⟩))
        go_ret2
        have h := hR.out
        simp [hm3, hq2] at h
        exact ⟨ret_ib h.1 h.2, rfl⟩

theorem refDiv_no (a b c : Int) (up : Bool) (w : World) (hc : c ≤ 0) :
    Calls Tryd.prog 49 #[.int .i64 a, .int .i64 b, .int .i64 c, .bool up] w fun e w' => e = .returned (.tuple #[.int .i64 0, .bool false]) ∧ w = w' := by
  go_enter Tryd.func49, Tryd.ntmps49
  go_wp2
  go_ret2
  exact ⟨rfl, rfl⟩

set_option maxHeartbeats 1000000 in
theorem refDiv_over (a b c A B H L q X : Int) (up : Bool) (w : World) (ha : -9223372036854775808 ≤ a) (ha2 : a ≤ 9223372036854775807) (hb : -9223372036854775808 ≤ b) (hb2 : b ≤ 9223372036854775807) (hc : 0 < c) (hc2 : c ≤ 9223372036854775807)
    (hA : (a.natAbs : Int) = A) (hB : (b.natAbs : Int) = B) (hA0 : 0 ≤ A) (hA1 : A ≤ 9223372036854775808) (hB0 : 0 ≤ B) (hB1 : B ≤ 9223372036854775808)
    (hH : hi64 (A * B) = H) (hL : lo64 (A * B) = L) (h1 : 0 ≤ H) (h2 : H ≤ 9223372036854775807) (h3 : 0 ≤ L) (h4 : L ≤ 18446744073709551615) (hP : H * 18446744073709551616 + L = X)
    (hq : X / c = q) (hf : decide (q < 18446744073709551616) = false) :
    Calls Tryd.prog 49 #[.int .i64 a, .int .i64 b, .int .i64 c, .bool up] w fun e w' => e = .returned (.tuple #[.int .i64 0, .bool false]) ∧ w = w' := by
  go_enter Tryd.func49, Tryd.ntmps49
  go_wp2_with (first
      | (go_at_call 63; refine (refSize_any _ _ (by omega) (by omega)).mono ?_; rintro e w' ⟨rfl, rfl⟩)
      | (go_at_call 62; refine (refWide_any _ _ _ (by omega) (by omega) (by omega) (by omega)).mono ?_; rintro e w' ⟨rfl, rfl⟩)
      | (go_at_call 64; refine (over_any _ _ _ _ (by omega) (by omega) (by omega) (by omega) (by omega) (by omega)).mono ?_; rintro e w' ⟨rfl, rfl⟩))
  go_ret2
  exact ⟨rfl, rfl⟩

theorem refDiv_any (a b c : Int) (up : Bool) (w : World) (ha : -9223372036854775808 ≤ a) (ha2 : a ≤ 9223372036854775807) (hb : -9223372036854775808 ≤ b) (hb2 : b ≤ 9223372036854775807) (hc2 : c ≤ 9223372036854775807) :
    Calls Tryd.prog 49 #[.int .i64 a, .int .i64 b, .int .i64 c, .bool up] w fun e w' => e = .returned (.tuple #[.int .i64 (divAns a b c up), .bool (divOk a b c up)]) ∧ w = w' := by
  by_cases hc : 0 < c
  · have e1 : divOk a b c up = in64 (divq a b c up) := by simp [divOk, hc]
    have e2 : divAns a b c up = cap64 (divq a b c up) := by unfold divAns cap64; rw [e1]
    rw [e1, e2]
    have hd := divq_size a b c up hc
    obtain ⟨A, hA⟩ : ∃ x : Int, (a.natAbs : Int) = x := ⟨_, rfl⟩
    obtain ⟨B, hB⟩ : ∃ x : Int, (b.natAbs : Int) = x := ⟨_, rfl⟩
    have hA0 : 0 ≤ A := by omega
    have hA1 : A ≤ 9223372036854775808 := by omega
    have hB0 : 0 ≤ B := by omega
    have hB1 : B ≤ 9223372036854775808 := by omega
    have hm := mul_le_half hA0 hB0 hA1 hB1
    rw [hA, hB] at hd
    have hP : hi64 (A * B) * 18446744073709551616 + lo64 (A * B) = A * B := by unfold hi64 lo64; omega
    have h1 : 0 ≤ hi64 (A * B) := by unfold hi64; omega
    have h2 : hi64 (A * B) ≤ 9223372036854775807 := by unfold hi64; omega
    have h3 : 0 ≤ lo64 (A * B) := by unfold lo64; omega
    have h4 : lo64 (A * B) ≤ 18446744073709551615 := by unfold lo64; omega
    have q0 : 0 ≤ A * B / c := Int.ediv_nonneg hm.1 (by omega)
    have m0 := Int.emod_nonneg (A * B) (show c ≠ 0 by omega)
    have m1 := Int.emod_lt_of_pos (A * B) hc
    by_cases hg : A * B / c < 18446744073709551616
    · refine refDiv_walk a b c A B _ _ _ _ _ up _ w ha ha2 hb hb2 hc hc2 hA hB hA0 hA1 hB0 hB1 rfl rfl h1 h2 h3 h4 hP rfl rfl q0 hg (by omega) m0 m1 rfl (divq a b c up) ?_
      exact div_end hd q0 m0
    · have hbig : in64 (divq a b c up) = false := by
        rw [in64_no, hd]
        unfold sizeq
        split <;> split <;> (first | omega | (split <;> omega))
      refine (refDiv_over a b c A B _ _ _ _ up w ha ha2 hb hb2 hc hc2 hA hB hA0 hA1 hB0 hB1 rfl rfl h1 h2 h3 h4 hP rfl (by simpa using hg)).mono ?_
      rintro e w' ⟨rfl, rfl⟩
      exact ⟨ret_ib (cap64_no hbig).symm hbig.symm, rfl⟩
  · have e1 : divOk a b c up = false := by simp [divOk, hc]
    have e2 : divAns a b c up = 0 := by unfold divAns; rw [e1]; rfl
    rw [e1, e2]
    exact refDiv_no a b c up w (by omega)

def RefSumRel (xs : List Int) (l h i : Value) : Prop :=
  ∃ (k : Nat) (L H : Int), i = .int .i64 (k : Int) ∧ k ≤ xs.length ∧ l = .int .i64 L ∧ h = .int .i64 H ∧ 0 ≤ L ∧ L ≤ k * 4294967295 ∧ -(k * 2147483648 : Int) ≤ H ∧ H ≤ k * 2147483647 ∧ total (xs.take k) = H * 4294967296 + L

end Go.Proofs.YtlanggdmdpjfbaaDoor
