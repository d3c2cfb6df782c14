import Derived.Test.YtemjfncfhipjoaaFixLaw
namespace Go.Proofs.Ytemjfncfhipjoaa
open Go.RowKit

theorem ways_math {a b c : Int} (hc : 0 < c) : (divq a b c true = divq a b c false ∨ divq a b c true = divq a b c false + 1) ∧ divq (-a) b c true = -divq a b c false ∧ divq a c c false = a := by
  refine ⟨?_, ?_, ?_⟩
  · unfold divq
    simp only [if_true, Bool.false_eq_true, if_false]
    rw [neg_ediv' _ _ hc]
    split <;> omega
  · unfold divq
    simp only [if_true, Bool.false_eq_true, if_false]
    rw [show -(-a * b) = a * b by grind]
  · unfold divq
    simp only [Bool.false_eq_true, if_false]
    exact Int.mul_ediv_cancel _ (by omega)

theorem divOk_pos {a b c : Int} {up : Bool} (hc : 0 < c) : divOk a b c up = in64 (divq a b c up) := by simp [divOk, hc]

set_option maxHeartbeats 4000000 in
theorem walk_fixWays (a b c : Int) (w : World) (ha : -9223372036854775808 ≤ a) (ha2 : a ≤ 9223372036854775807) (hb : -9223372036854775808 ≤ b) (hb2 : b ≤ 9223372036854775807) (hc : -9223372036854775808 ≤ c) (hc2 : c ≤ 9223372036854775807) :
    Calls Try.prog 5 #[.int .i64 a, .int .i64 b, .int .i64 c] w fun e w' => e = .returned (.bool true) ∧ Below w.heap.size w w' := by
  by_cases hc0 : c ≤ 0
  · have k1 : ∀ up, divOk a b c up = false := fun up => by unfold divOk; rw [decide_eq_false (by omega)]; rfl
    have k2 := k1 true
    have k3 := k1 false
    have k4 := divAns_no k2
    have k5 := divAns_no k3
    clear k1
    go_enter Try.func5, Try.ntmps5
    go_wp2_with (first
      | (go_at_call 8; refine (law2_first _).mono ?_; rintro e w' ⟨rfl, k, rfl⟩)
      | (go_at_call 15; refine (div_any _ _ _ _ _ (by omega) (by omega) (by omega) (by omega) (by omega)).mono ?_; rintro e w' ⟨rfl, k, rfl⟩))
    all_goals
      go_ret
      exact ⟨rfl, below_drewN (Below.refl _ _)⟩
  · obtain ⟨m1, m2, m3⟩ := ways_math (a := a) (b := b) (c := c) (by omega)
    have o1 : divOk a b c true = in64 (divq a b c true) := divOk_pos (by omega)
    have o2 : divOk a b c false = in64 (divq a b c false) := divOk_pos (by omega)
    have o3 : divOk (-a) b c true = in64 (-divq a b c false) := by rw [divOk_pos (by omega), m2]
    have o4 : divOk a c c false = true := by rw [divOk_pos (by omega), m3]; exact in64_mk (by omega)
    have a4 : divAns a c c false = a := (divAns_ok o4).trans m3
    have a1 : divAns a b c true = cap64 (divq a b c true) := by unfold divAns cap64; rw [o1]
    have a2 : divAns a b c false = cap64 (divq a b c false) := by unfold divAns cap64; rw [o2]
    have a3 : divAns (-a) b c true = cap64 (-divq a b c false) := by unfold divAns cap64; rw [o3, m2]
    clear m2 m3
    generalize divq a b c true = U at *
    generalize divq a b c false = D at *
    by_cases hU : in64 U = true
    all_goals by_cases hD : in64 D = true
    · obtain ⟨u0, u1⟩ := (in64_iff _).1 hU
      obtain ⟨d0, d1⟩ := (in64_iff _).1 hD
      have cU := cap64_yes hU
      have cD := cap64_yes hD
      by_cases hmin : D = -9223372036854775808
      · rcases m1 with rfl | rfl
        · subst hmin
          by_cases hmn : a = -9223372036854775808
          · have hmn1 : (a == -9223372036854775808) = true := by simpa using hmn
            clear hmn
            go_enter Try.func5, Try.ntmps5
            go_wp2_with (first
              | (go_at_call 8; refine (law2_first _).mono ?_; rintro e w' ⟨rfl, k, rfl⟩)
              | (go_at_call 15; refine (div_any _ _ _ _ _ (by omega) (by omega) (by omega) (by omega) (by omega)).mono ?_; rintro e w' ⟨rfl, k, rfl⟩))
            all_goals
              go_ret
              exact ⟨rfl, below_drewN (Below.refl _ _)⟩
          · have hmn1 : (a == -9223372036854775808) = false := by simpa using hmn
            have ha3 : -9223372036854775807 ≤ a := by omega
            clear hmn
            go_enter Try.func5, Try.ntmps5
            go_wp2_with (first
              | (go_at_call 8; refine (law2_first _).mono ?_; rintro e w' ⟨rfl, k, rfl⟩)
              | (go_at_call 15; refine (div_any _ _ _ _ _ (by omega) (by omega) (by omega) (by omega) (by omega)).mono ?_; rintro e w' ⟨rfl, k, rfl⟩))
            all_goals
              go_ret
              exact ⟨rfl, below_drewN (Below.refl _ _)⟩
        · subst hmin
          by_cases hmn : a = -9223372036854775808
          · have hmn1 : (a == -9223372036854775808) = true := by simpa using hmn
            clear hmn
            go_enter Try.func5, Try.ntmps5
            go_wp2_with (first
              | (go_at_call 8; refine (law2_first _).mono ?_; rintro e w' ⟨rfl, k, rfl⟩)
              | (go_at_call 15; refine (div_any _ _ _ _ _ (by omega) (by omega) (by omega) (by omega) (by omega)).mono ?_; rintro e w' ⟨rfl, k, rfl⟩))
            all_goals
              go_ret
              exact ⟨rfl, below_drewN (Below.refl _ _)⟩
          · have hmn1 : (a == -9223372036854775808) = false := by simpa using hmn
            have ha3 : -9223372036854775807 ≤ a := by omega
            clear hmn
            go_enter Try.func5, Try.ntmps5
            go_wp2_with (first
              | (go_at_call 8; refine (law2_first _).mono ?_; rintro e w' ⟨rfl, k, rfl⟩)
              | (go_at_call 15; refine (div_any _ _ _ _ _ (by omega) (by omega) (by omega) (by omega) (by omega)).mono ?_; rintro e w' ⟨rfl, k, rfl⟩))
            all_goals
              go_ret
              exact ⟨rfl, below_drewN (Below.refl _ _)⟩
      · have hn : in64 (-D) = true := in64_mk (by omega)
        have cn := cap64_yes hn
        have hne : (D == -9223372036854775808) = false := by simpa using hmin
        have hne2 : (D != -9223372036854775808) = true := by simpa using hmin
        have hd2 : -9223372036854775807 ≤ D := by omega
        clear hmin
        rcases m1 with rfl | rfl
        · by_cases hmn : a = -9223372036854775808
          · have hmn1 : (a == -9223372036854775808) = true := by simpa using hmn
            clear hmn
            go_enter Try.func5, Try.ntmps5
            go_wp2_with (first
              | (go_at_call 8; refine (law2_first _).mono ?_; rintro e w' ⟨rfl, k, rfl⟩)
              | (go_at_call 15; refine (div_any _ _ _ _ _ (by omega) (by omega) (by omega) (by omega) (by omega)).mono ?_; rintro e w' ⟨rfl, k, rfl⟩))
            all_goals
              go_ret
              exact ⟨rfl, below_drewN (Below.refl _ _)⟩
          · have hmn1 : (a == -9223372036854775808) = false := by simpa using hmn
            have ha3 : -9223372036854775807 ≤ a := by omega
            clear hmn
            go_enter Try.func5, Try.ntmps5
            go_wp2_with (first
              | (go_at_call 8; refine (law2_first _).mono ?_; rintro e w' ⟨rfl, k, rfl⟩)
              | (go_at_call 15; refine (div_any _ _ _ _ _ (by omega) (by omega) (by omega) (by omega) (by omega)).mono ?_; rintro e w' ⟨rfl, k, rfl⟩))
            all_goals
              go_ret
              exact ⟨rfl, below_drewN (Below.refl _ _)⟩
        · by_cases hmn : a = -9223372036854775808
          · have hmn1 : (a == -9223372036854775808) = true := by simpa using hmn
            clear hmn
            go_enter Try.func5, Try.ntmps5
            go_wp2_with (first
              | (go_at_call 8; refine (law2_first _).mono ?_; rintro e w' ⟨rfl, k, rfl⟩)
              | (go_at_call 15; refine (div_any _ _ _ _ _ (by omega) (by omega) (by omega) (by omega) (by omega)).mono ?_; rintro e w' ⟨rfl, k, rfl⟩))
            all_goals
              go_ret
              exact ⟨rfl, below_drewN (Below.refl _ _)⟩
          · have hmn1 : (a == -9223372036854775808) = false := by simpa using hmn
            have ha3 : -9223372036854775807 ≤ a := by omega
            clear hmn
            go_enter Try.func5, Try.ntmps5
            go_wp2_with (first
              | (go_at_call 8; refine (law2_first _).mono ?_; rintro e w' ⟨rfl, k, rfl⟩)
              | (go_at_call 15; refine (div_any _ _ _ _ _ (by omega) (by omega) (by omega) (by omega) (by omega)).mono ?_; rintro e w' ⟨rfl, k, rfl⟩))
            all_goals
              go_ret
              exact ⟨rfl, below_drewN (Below.refl _ _)⟩
    · have cU := cap64_yes hU
      replace hD : in64 D = false := by simpa using hD
      have cD := cap64_no hD
      obtain ⟨u0, u1⟩ := (in64_iff _).1 hU
      clear m1
      by_cases hmn : a = -9223372036854775808
      · have hmn1 : (a == -9223372036854775808) = true := by simpa using hmn
        clear hmn
        go_enter Try.func5, Try.ntmps5
        go_wp2_with (first
          | (go_at_call 8; refine (law2_first _).mono ?_; rintro e w' ⟨rfl, k, rfl⟩)
          | (go_at_call 15; refine (div_any _ _ _ _ _ (by omega) (by omega) (by omega) (by omega) (by omega)).mono ?_; rintro e w' ⟨rfl, k, rfl⟩))
        all_goals
          go_ret
          exact ⟨rfl, below_drewN (Below.refl _ _)⟩
      · have hmn1 : (a == -9223372036854775808) = false := by simpa using hmn
        have ha3 : -9223372036854775807 ≤ a := by omega
        clear hmn
        go_enter Try.func5, Try.ntmps5
        go_wp2_with (first
          | (go_at_call 8; refine (law2_first _).mono ?_; rintro e w' ⟨rfl, k, rfl⟩)
          | (go_at_call 15; refine (div_any _ _ _ _ _ (by omega) (by omega) (by omega) (by omega) (by omega)).mono ?_; rintro e w' ⟨rfl, k, rfl⟩))
        all_goals
          go_ret
          exact ⟨rfl, below_drewN (Below.refl _ _)⟩
    · have cD := cap64_yes hD
      replace hU : in64 U = false := by simpa using hU
      have cU := cap64_no hU
      obtain ⟨d0, d1⟩ := (in64_iff _).1 hD
      by_cases hmin : D = -9223372036854775808
      · subst hmin
        clear m1
        by_cases hmn : a = -9223372036854775808
        · have hmn1 : (a == -9223372036854775808) = true := by simpa using hmn
          clear hmn
          go_enter Try.func5, Try.ntmps5
          go_wp2_with (first
            | (go_at_call 8; refine (law2_first _).mono ?_; rintro e w' ⟨rfl, k, rfl⟩)
            | (go_at_call 15; refine (div_any _ _ _ _ _ (by omega) (by omega) (by omega) (by omega) (by omega)).mono ?_; rintro e w' ⟨rfl, k, rfl⟩))
          all_goals
            go_ret
            exact ⟨rfl, below_drewN (Below.refl _ _)⟩
        · have hmn1 : (a == -9223372036854775808) = false := by simpa using hmn
          have ha3 : -9223372036854775807 ≤ a := by omega
          clear hmn
          go_enter Try.func5, Try.ntmps5
          go_wp2_with (first
            | (go_at_call 8; refine (law2_first _).mono ?_; rintro e w' ⟨rfl, k, rfl⟩)
            | (go_at_call 15; refine (div_any _ _ _ _ _ (by omega) (by omega) (by omega) (by omega) (by omega)).mono ?_; rintro e w' ⟨rfl, k, rfl⟩))
          all_goals
            go_ret
            exact ⟨rfl, below_drewN (Below.refl _ _)⟩
      · have hn : in64 (-D) = true := in64_mk (by omega)
        have cn := cap64_yes hn
        have hne : (D == -9223372036854775808) = false := by simpa using hmin
        have hne2 : (D != -9223372036854775808) = true := by simpa using hmin
        have hd2 : -9223372036854775807 ≤ D := by omega
        clear hmin m1
        by_cases hmn : a = -9223372036854775808
        · have hmn1 : (a == -9223372036854775808) = true := by simpa using hmn
          clear hmn
          go_enter Try.func5, Try.ntmps5
          go_wp2_with (first
            | (go_at_call 8; refine (law2_first _).mono ?_; rintro e w' ⟨rfl, k, rfl⟩)
            | (go_at_call 15; refine (div_any _ _ _ _ _ (by omega) (by omega) (by omega) (by omega) (by omega)).mono ?_; rintro e w' ⟨rfl, k, rfl⟩))
          all_goals
            go_ret
            exact ⟨rfl, below_drewN (Below.refl _ _)⟩
        · have hmn1 : (a == -9223372036854775808) = false := by simpa using hmn
          have ha3 : -9223372036854775807 ≤ a := by omega
          clear hmn
          go_enter Try.func5, Try.ntmps5
          go_wp2_with (first
            | (go_at_call 8; refine (law2_first _).mono ?_; rintro e w' ⟨rfl, k, rfl⟩)
            | (go_at_call 15; refine (div_any _ _ _ _ _ (by omega) (by omega) (by omega) (by omega) (by omega)).mono ?_; rintro e w' ⟨rfl, k, rfl⟩))
          all_goals
            go_ret
            exact ⟨rfl, below_drewN (Below.refl _ _)⟩
    · replace hU : in64 U = false := by simpa using hU
      have cU := cap64_no hU
      replace hD : in64 D = false := by simpa using hD
      have cD := cap64_no hD
      clear m1
      by_cases hmn : a = -9223372036854775808
      · have hmn1 : (a == -9223372036854775808) = true := by simpa using hmn
        clear hmn
        go_enter Try.func5, Try.ntmps5
        go_wp2_with (first
          | (go_at_call 8; refine (law2_first _).mono ?_; rintro e w' ⟨rfl, k, rfl⟩)
          | (go_at_call 15; refine (div_any _ _ _ _ _ (by omega) (by omega) (by omega) (by omega) (by omega)).mono ?_; rintro e w' ⟨rfl, k, rfl⟩))
        all_goals
          go_ret
          exact ⟨rfl, below_drewN (Below.refl _ _)⟩
      · have hmn1 : (a == -9223372036854775808) = false := by simpa using hmn
        have ha3 : -9223372036854775807 ≤ a := by omega
        clear hmn
        go_enter Try.func5, Try.ntmps5
        go_wp2_with (first
          | (go_at_call 8; refine (law2_first _).mono ?_; rintro e w' ⟨rfl, k, rfl⟩)
          | (go_at_call 15; refine (div_any _ _ _ _ _ (by omega) (by omega) (by omega) (by omega) (by omega)).mono ?_; rintro e w' ⟨rfl, k, rfl⟩))
        all_goals
          go_ret
          exact ⟨rfl, below_drewN (Below.refl _ _)⟩
end Go.Proofs.Ytemjfncfhipjoaa
