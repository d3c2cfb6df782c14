/-
  What the calls of package day answer.
-/
import Derived.Test.YtphpmngaljldgaaDoorDayMath
import Derived.Test.YtphpmngaljldgaaDoorErr
import Derived.Deep.QuietTactic
import Derived.BigQuiet
namespace Go.Proofs.YtphpmngaljldgaaDoor
open Go.RowKit
set_option linter.unusedVariables false

theorem tmod_zero (y k : Int) (b : Bool) (h : (y % k == 0) = b) : (y.tmod k == 0) = b := by
  rw [← h, Bool.eq_iff_iff, beq_iff_eq, beq_iff_eq, ← Int.dvd_iff_emod_eq_zero, ← Int.dvd_iff_tmod_eq_zero]
theorem tmod_some (y k : Int) (b : Bool) (h : (y % k == 0) = b) : (y.tmod k != 0) = !b := by
  rw [bne, tmod_zero y k b h]
theorem lp_of (y : Int) (b4 b100 b400 : Bool) (h4 : (y % 4 == 0) = b4) (h100 : (y % 100 == 0) = b100) (h400 : (y % 400 == 0) = b400) : (b4 && (!b100 || b400)) = lpB y := by
  subst h4; subst h100; subst h400
  unfold lpB
  rw [Bool.eq_iff_iff]
  simp

theorem dmo_feb (y : Int) : dmo y 2 = if lpB y = true then 29 else 28 := rfl
theorem wk_of (n : Int) : (n.tmod 7 + 6) % 7 = wkD n := by
  unfold wkD
  have := Int.tmod_eq_emod (a := n) (b := 7)
  by_cases h : 0 ≤ n ∨ (7 : Int) ∣ n
  · rw [if_pos h] at this; omega
  · rw [if_neg h] at this; simp at this; omega
theorem tmod7_bd (n : Int) : -6 ≤ n.tmod 7 ∧ n.tmod 7 ≤ 6 := by
  have := Int.tmod_eq_emod (a := n) (b := 7)
  by_cases h : 0 ≤ n ∨ (7 : Int) ∣ n
  · rw [if_pos h] at this; omega
  · rw [if_neg h] at this; simp at this; omega
/-- the greatest number of 64 bits. -/
def lfV (e t : Int) : Int := if e = 0 ∨ e ≤ t then 0 else if 9223372036854775807 < e - t then 9223372036854775807 else e - t
def lfB (e t : Int) : Bool := decide (e = 0 ∨ t < e)
theorem left_any (e t : Int) (w : World) (h1 : -9223372036854775808 ≤ e) (h2 : e ≤ 9223372036854775807) (h3 : -9223372036854775808 ≤ t) (h4 : t ≤ 9223372036854775807) :
    Calls Tryd.prog 36 #[.int .i64 e, .int .i64 t] w fun r w' => r = .returned (.tuple #[.int .i64 (lfV e t), .bool (lfB e t)]) ∧ w = w' := by
  by_cases e0 : e = 0
  · subst e0
    have d1 := hidden (show lfV 0 t = 0 by unfold lfV; rw [if_pos (.inl rfl)])
    have d2 := hidden (show lfB 0 t = true by unfold lfB; simp)
    go_enter Tryd.func36, Tryd.ntmps36
    go_wp2
    go_ret2
    exact ⟨ret_ib d1.out.symm d2.out.symm, rfl⟩
  · have k0 : (e == 0) = false := beq_eq_false_iff_ne.2 e0
    by_cases hle : e ≤ t
    · have d1 := hidden (show lfV e t = 0 by unfold lfV; rw [if_pos (.inr hle)])
      have d2 := hidden (show lfB e t = false by unfold lfB; rw [decide_eq_false_iff_not]; omega)
      clear e0
      go_enter Tryd.func36, Tryd.ntmps36
      go_wp2
      go_ret2
      exact ⟨ret_ib d1.out.symm d2.out.symm, rfl⟩
    · have d2 := hidden (show lfB e t = true by unfold lfB; rw [decide_eq_true_iff]; omega)
      by_cases hb : 9223372036854775807 < e - t
      · have d1 := hidden (show lfV e t = 9223372036854775807 by unfold lfV; rw [if_neg (by omega), if_pos hb])
        have hw : IntKind.i64.wrap (e - t) = e - t - 18446744073709551616 := by simp [IntKind.wrap, IntKind.bits, IntKind.signed]; omega
        have hn : e - t - 18446744073709551616 < 0 := by omega
        clear e0
        go_enter Tryd.func36, Tryd.ntmps36
        go_wp2
        go_ret2
        exact ⟨ret_ib d1.out.symm d2.out.symm, rfl⟩
      · have d1 := hidden (show lfV e t = e - t by unfold lfV; rw [if_neg (by omega), if_neg hb])
        have hn : 0 ≤ e - t := by omega
        have hb' : e - t ≤ 9223372036854775807 := by omega
        clear e0 hb
        go_enter Tryd.func36, Tryd.ntmps36
        go_wp2
        go_ret2
        exact ⟨ret_ib d1.out.symm d2.out.symm, rfl⟩

def BkRel (n : Int) (i : Value) : Prop := i = .int .i64 0 ∨ (i = .int .i64 1 ∧ 30 ≤ n) ∨ (i = .int .i64 2 ∧ 90 ≤ n) ∨ (i = .int .i64 3 ∧ 365 ≤ n) ∨ (i = .int .i64 4 ∧ 1095 ≤ n) ∨ (i = .int .i64 5 ∧ 3650 ≤ n)
end Go.Proofs.YtphpmngaljldgaaDoor
