import Derived.Test.YtemjfncfhipjoaaFixLaw
namespace Go.Proofs.Ytemjfncfhipjoaa
open Go.RowKit

theorem walk_fixEdges (a b : Int) (w : World) (ha : -9223372036854775808 ≤ a) (ha2 : a ≤ 9223372036854775807) (hb : -9223372036854775808 ≤ b) (hb2 : b ≤ 9223372036854775807) :
    Calls Try.prog 6 #[.int .i64 a, .int .i64 b] w fun e w' => e = .returned (.bool true) ∧ Below w.heap.size w w' := by
  have t1 : in64 (9223372036854775807 + a) = decide (a ≤ 0) := by rw [Bool.eq_iff_iff, in64_iff]; simp; omega
  have t2 : in64 (-9223372036854775808 - a) = decide (a ≤ 0) := by rw [Bool.eq_iff_iff, in64_iff]; simp; omega
  by_cases hi : in64 (a + b) = true
  · obtain ⟨i1, i2⟩ := (in64_iff _).1 hi
    have hc := cap64_yes hi
    have k1 : in64 a = true := in64_mk (by omega)
    have k2 : cap64 a = a := cap64_yes k1
    have k3 : in64 (a + b - b) = true := in64_mk (by omega)
    have k4 : cap64 (a + b - b) = a := (cap64_yes k3).trans (by omega)
    have k5 : (!decide (a + b < a) == decide (b < 0)) = false := by
      by_cases h : b < 0 <;> simp [h] <;> omega
    go_enter Try.func6, Try.ntmps6
    go_wp2_with (first
      | (go_at_call 8; refine (law2_first _).mono ?_; rintro e w' ⟨rfl, k, rfl⟩)
      | (go_at_call 9; refine (add_any _ _ _ (by omega) (by omega) (by omega) (by omega)).mono ?_; rintro e w' ⟨rfl, rfl⟩)
      | (go_at_call 11; refine (sub_any _ _ _ (by omega) (by omega) (by omega) (by omega)).mono ?_; rintro e w' ⟨rfl, rfl⟩))
    all_goals
      go_ret
      exact ⟨rfl, below_drewN (Below.refl _ _)⟩
  · replace hi : in64 (a + b) = false := by simpa using hi
    have hc := cap64_no hi
    have hs := (in64_no _).1 hi
    have k1 : (!decide (0 ≤ a) == decide (0 ≤ b)) = false := by
      by_cases h1 : 0 ≤ a <;> by_cases h2 : 0 ≤ b <;> simp [h1, h2] <;> omega
    clear hs
    go_enter Try.func6, Try.ntmps6
    go_wp2_with (first
      | (go_at_call 8; refine (law2_first _).mono ?_; rintro e w' ⟨rfl, k, rfl⟩)
      | (go_at_call 9; refine (add_any _ _ _ (by omega) (by omega) (by omega) (by omega)).mono ?_; rintro e w' ⟨rfl, rfl⟩)
      | (go_at_call 11; refine (sub_any _ _ _ (by omega) (by omega) (by omega) (by omega)).mono ?_; rintro e w' ⟨rfl, rfl⟩))
    all_goals
      go_ret
      exact ⟨rfl, below_drewN (Below.refl _ _)⟩
end Go.Proofs.Ytemjfncfhipjoaa
