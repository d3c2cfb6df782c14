import Derived.Test.YtemjfncfhipjoaaFixLaw
namespace Go.Proofs.Ytemjfncfhipjoaa
open Go.RowKit

theorem quo_bounds {P c : Int} (hc : 0 < c) (up : Bool) (q : Int) (hq : q = if up = true then -(-P / c) else P / c) :
    (up = true → P ≤ q * c ∧ q * c - c < P) ∧ (up = false → q * c ≤ P ∧ P < q * c + c) := by
  have h1 := Int.mul_ediv_add_emod P c
  have h2 := Int.emod_nonneg P (show c ≠ 0 by omega)
  have h3 := Int.emod_lt_of_pos P hc
  have g1 := Int.mul_ediv_add_emod (-P) c
  have g2 := Int.emod_nonneg (-P) (show c ≠ 0 by omega)
  have g3 := Int.emod_lt_of_pos (-P) hc
  constructor
  · intro h; subst h; simp at hq; subst hq
    rw [show -(-P / c) * c = -(c * (-P / c)) by grind]
    omega
  · intro h; subst h; simp at hq; subst hq
    rw [Int.mul_comm]; omega
theorem small_quo {P q c : Int} (h1 : -4611686018427387904 ≤ P) (h2 : P ≤ 4611686018427387904) (hc : 0 < c) (hc2 : c ≤ 2147483647) (h3 : P - c < q * c) (h4 : q * c < P + c) : -9223372036854775808 ≤ q ∧ q ≤ 9223372036854775807 := by
  constructor
  · apply Int.not_lt.1
    intro h
    have : q * c ≤ -9223372036854775808 * c := Int.mul_le_mul_of_nonneg_right (by omega) (by omega)
    omega
  · apply Int.not_lt.1
    intro h
    have : 9223372036854775807 * c ≤ q * c := Int.mul_le_mul_of_nonneg_right (by omega) (by omega)
    omega

set_option maxHeartbeats 1000000 in
theorem walk_fixSmall (a b c : Int) (up : Bool) (w : World) (ha : -2147483648 ≤ a) (ha2 : a ≤ 2147483647) (hb : -2147483648 ≤ b) (hb2 : b ≤ 2147483647) (hc : -2147483648 ≤ c) (hc2 : c ≤ 2147483647) :
    Calls Try.prog 4 #[.int .i32 a, .int .i32 b, .int .i32 c, .bool up] w fun e w' => e = .returned (.bool true) ∧ Below w.heap.size w w' := by
  have hm := mul_bd (a := a) (b := b) (A := 2147483648) (B := 2147483648) (by omega) (by omega)
  rw [show ((2147483648 * 2147483648 : Nat) : Int) = 4611686018427387904 by decide] at hm
  obtain ⟨m1, m2⟩ := hm
  have i1 : in64 (a * b) = true := in64_mk (by omega)
  have i2 : in64 (a + b) = true := in64_mk (by omega)
  have i3 : in64 (a - b) = true := in64_mk (by omega)
  have c1 := cap64_yes i1
  have c2 := cap64_yes i2
  have c3 := cap64_yes i3
  by_cases hc0 : c ≤ 0
  · have k1 : divOk a b c up = false := by unfold divOk; rw [decide_eq_false (by omega)]; rfl
    have k2 : divAns a b c up = 0 := divAns_no k1
    go_enter Try.func4, Try.ntmps4
    go_wp2_with (first
      | (go_at_call 8; refine (law2_first _).mono ?_; rintro e w' ⟨rfl, k, rfl⟩)
      | (go_at_call 9; refine (add_any _ _ _ (by omega) (by omega) (by omega) (by omega)).mono ?_; rintro e w' ⟨rfl, rfl⟩)
      | (go_at_call 11; refine (sub_any _ _ _ (by omega) (by omega) (by omega) (by omega)).mono ?_; rintro e w' ⟨rfl, rfl⟩)
      | (go_at_call 13; refine (mul_any _ _ _ (by omega) (by omega) (by omega) (by omega)).mono ?_; rintro e w' ⟨rfl, rfl⟩)
      | (go_at_call 15; refine (div_any _ _ _ _ _ (by omega) (by omega) (by omega) (by omega) (by omega)).mono ?_; rintro e w' ⟨rfl, k, rfl⟩))
    go_ret
    exact ⟨rfl, below_drewN (Below.refl _ _)⟩
  · have hb' := quo_bounds (P := a * b) (c := c) (by omega) up (divq a b c up) rfl
    have hin : in64 (divq a b c up) = true := in64_mk (by
      cases up
      · have := hb'.2 rfl; exact small_quo m1 m2 (by omega) hc2 (by omega) (by omega)
      · have := hb'.1 rfl; exact small_quo m1 m2 (by omega) hc2 (by omega) (by omega))
    have k1 : divOk a b c up = true := by unfold divOk; rw [decide_eq_true (by omega), hin]; rfl
    have k2 : divAns a b c up = divq a b c up := divAns_ok k1
    obtain ⟨q0, q1⟩ := (in64_iff _).1 hin
    clear hin
    obtain ⟨q, hq⟩ : ∃ x, divq a b c up = x := ⟨_, rfl⟩
    rw [hq] at hb' q0 q1 k2
    clear hq
    cases up
    · obtain ⟨f1, f2⟩ := hb'.2 rfl
      clear hb'
      go_enter Try.func4, Try.ntmps4
      go_wp2_with (first
        | (go_at_call 8; refine (law2_first _).mono ?_; rintro e w' ⟨rfl, k, rfl⟩)
        | (go_at_call 9; refine (add_any _ _ _ (by omega) (by omega) (by omega) (by omega)).mono ?_; rintro e w' ⟨rfl, rfl⟩)
        | (go_at_call 11; refine (sub_any _ _ _ (by omega) (by omega) (by omega) (by omega)).mono ?_; rintro e w' ⟨rfl, rfl⟩)
        | (go_at_call 13; refine (mul_any _ _ _ (by omega) (by omega) (by omega) (by omega)).mono ?_; rintro e w' ⟨rfl, rfl⟩)
        | (go_at_call 15; refine (div_any _ _ _ _ _ (by omega) (by omega) (by omega) (by omega) (by omega)).mono ?_; rintro e w' ⟨rfl, k, rfl⟩))
      go_ret
      exact ⟨rfl, below_drewN (Below.refl _ _)⟩
    · obtain ⟨f1, f2⟩ := hb'.1 rfl
      clear hb'
      go_enter Try.func4, Try.ntmps4
      go_wp2_with (first
        | (go_at_call 8; refine (law2_first _).mono ?_; rintro e w' ⟨rfl, k, rfl⟩)
        | (go_at_call 9; refine (add_any _ _ _ (by omega) (by omega) (by omega) (by omega)).mono ?_; rintro e w' ⟨rfl, rfl⟩)
        | (go_at_call 11; refine (sub_any _ _ _ (by omega) (by omega) (by omega) (by omega)).mono ?_; rintro e w' ⟨rfl, rfl⟩)
        | (go_at_call 13; refine (mul_any _ _ _ (by omega) (by omega) (by omega) (by omega)).mono ?_; rintro e w' ⟨rfl, rfl⟩)
        | (go_at_call 15; refine (div_any _ _ _ _ _ (by omega) (by omega) (by omega) (by omega) (by omega)).mono ?_; rintro e w' ⟨rfl, k, rfl⟩))
      go_ret
      exact ⟨rfl, below_drewN (Below.refl _ _)⟩
end Go.Proofs.Ytemjfncfhipjoaa
