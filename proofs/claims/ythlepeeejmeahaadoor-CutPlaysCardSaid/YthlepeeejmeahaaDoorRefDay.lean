/-
  The document's own calendar: the same answers as package day's.
-/
import Derived.Test.YthlepeeejmeahaaDoorDay
namespace Go.Proofs.YthlepeeejmeahaaDoor
open Go.RowKit
set_option linter.unusedVariables false

theorem wk_of2 (n : Int) : (n.tmod 7 + 13) % 7 = wkD n := by
  have := wk_of n
  omega
theorem refBucket_any (n : Int) (w : World) :
    Calls Tryd.prog 31 #[.int .i64 n] w fun e w' => e = .returned (.int .i64 (bkD n)) ∧ w = w' := by
  have hd := hidden (show bkD n = if n < 30 then 0 else if n < 90 then 1 else if n < 365 then 2 else if n < 1095 then 3 else if n < 3650 then 4 else 5 from rfl)
  by_cases h0 : n < 30
  · rw [if_pos h0] at hd
    go_enter Tryd.func31, Tryd.ntmps31
    go_wp2
    go_ret
    exact ⟨ret_int hd.out.symm, rfl⟩
  · rw [if_neg h0] at hd
    by_cases h1 : n < 90
    · rw [if_pos h1] at hd
      go_enter Tryd.func31, Tryd.ntmps31
      go_wp2
      go_ret
      exact ⟨ret_int hd.out.symm, rfl⟩
    · rw [if_neg h1] at hd
      by_cases h2 : n < 365
      · rw [if_pos h2] at hd
        go_enter Tryd.func31, Tryd.ntmps31
        go_wp2
        go_ret
        exact ⟨ret_int hd.out.symm, rfl⟩
      · rw [if_neg h2] at hd
        by_cases h3 : n < 1095
        · rw [if_pos h3] at hd
          go_enter Tryd.func31, Tryd.ntmps31
          go_wp2
          go_ret
          exact ⟨ret_int hd.out.symm, rfl⟩
        · rw [if_neg h3] at hd
          by_cases h4 : n < 3650
          · rw [if_pos h4] at hd
            go_enter Tryd.func31, Tryd.ntmps31
            go_wp2
            go_ret
            exact ⟨ret_int hd.out.symm, rfl⟩
          · rw [if_neg h4] at hd
            go_enter Tryd.func31, Tryd.ntmps31
            go_wp2
            go_ret
            exact ⟨ret_int hd.out.symm, rfl⟩

/-- what is left, as it goes round. -/
def rfV (e t : Int) : Int := if e = 0 ∨ e ≤ t then 0 else if 9223372036854775807 < e - t then e - t - 18446744073709551616 else e - t
theorem refLeft_any (e t : Int) (w : World) (h1 : -9223372036854775808 ≤ e) (h2 : e ≤ 9223372036854775807) (h3 : -9223372036854775808 ≤ t) (h4 : t ≤ 9223372036854775807) :
    Calls Tryd.prog 30 #[.int .i64 e, .int .i64 t] w fun r w' => r = .returned (.tuple #[.int .i64 (rfV e t), .bool (lfB e t)]) ∧ w = w' := by
  by_cases e0 : e = 0
  · subst e0
    have d1 := hidden (show rfV 0 t = 0 by unfold rfV; rw [if_pos (.inl rfl)])
    have d2 := hidden (show lfB 0 t = true by unfold lfB; simp)
    go_enter Tryd.func30, Tryd.ntmps30
    go_wp2
    go_ret2
    exact ⟨ret_ib d1.out.symm d2.out.symm, rfl⟩
  · have k0 : (e == 0) = false := beq_eq_false_iff_ne.2 e0
    by_cases hle : e ≤ t
    · have d1 := hidden (show rfV e t = 0 by unfold rfV; rw [if_pos (.inr hle)])
      have d2 := hidden (show lfB e t = false by unfold lfB; rw [decide_eq_false_iff_not]; omega)
      clear e0
      go_enter Tryd.func30, Tryd.ntmps30
      go_wp2
      go_ret2
      exact ⟨ret_ib d1.out.symm d2.out.symm, rfl⟩
    · have d2 := hidden (show lfB e t = true by unfold lfB; rw [decide_eq_true_iff]; omega)
      by_cases hb : 9223372036854775807 < e - t
      · have d1 := hidden (show rfV e t = e - t - 18446744073709551616 by unfold rfV; rw [if_neg (by omega), if_pos hb])
        have hw : IntKind.i64.wrap (e - t) = e - t - 18446744073709551616 := by simp [IntKind.wrap, IntKind.bits, IntKind.signed]; omega
        clear e0
        go_enter Tryd.func30, Tryd.ntmps30
        go_wp2
        go_ret2
        exact ⟨ret_ib d1.out.symm d2.out.symm, rfl⟩
      · have d1 := hidden (show rfV e t = e - t by unfold rfV; rw [if_neg (by omega), if_neg hb])
        have hn : 0 ≤ e - t := by omega
        have hb' : e - t ≤ 9223372036854775807 := by omega
        clear e0 hb
        go_enter Tryd.func30, Tryd.ntmps30
        go_wp2
        go_ret2
        exact ⟨ret_ib d1.out.symm d2.out.symm, rfl⟩
end Go.Proofs.YthlepeeejmeahaaDoor
