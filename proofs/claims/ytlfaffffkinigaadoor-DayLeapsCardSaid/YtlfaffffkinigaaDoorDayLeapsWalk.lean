import Derived.Test.YtlfaffffkinigaaDoorDayLaw
import Derived.Test.YtlfaffffkinigaaDoorLaidOn
namespace Go.Proofs.YtlfaffffkinigaaDoor
open Go.RowKit
set_option linter.unusedVariables false

/-- how many of a year's followers leap. -/
def cntL (y : Int) : Nat → Int
  | 0 => 0
  | k + 1 => cntL y k + (if lpB (y + k) = true then 1 else 0)
theorem cntL_bd (y : Int) : ∀ k : Nat, 0 ≤ cntL y k ∧ cntL y k ≤ k
  | 0 => by simp [cntL]
  | k + 1 => by have := cntL_bd y k; simp only [cntL]; split <;> omega
/-- as years count. -/
theorem cntL_eq (y : Int) : ∀ k : Nat, cntL y k = yC (y + k) - yC y - 365 * k
  | 0 => by simp [cntL]
  | k + 1 => by
    have e := yC_next (y + k)
    rw [show y + ((k + 1 : Nat) : Int) = y + k + 1 by omega, cntL, cntL_eq y k, e]
    unfold dyr
    split <;> omega
theorem cntL_all (y : Int) : cntL y 400 = 97 := by
  rw [cntL_eq]; unfold yC; omega
theorem lp_400 (y : Int) : lpB (400 * (y + 1)) = true := by rw [lp_iff]; omega
theorem lp_100 (y : Int) : lpB (400 * y + 100) = false := decide_eq_false (by omega)
theorem lp_4 (y : Int) (h0 : 0 ≤ y) (h : y ≤ 23) : lpB (4 * (y + 1) + 400) = true := by rw [lp_iff]; omega
theorem lp_odd (y : Int) : lpB (2 * y + 1) = false := decide_eq_false (by omega)
def LeapRel (y : Int) (n i : Value) : Prop := ∃ k : Nat, k ≤ 400 ∧ i = .int .i64 (k : Int) ∧ n = .int .i64 (cntL y k)

set_option maxRecDepth 100000 in
set_option maxHeartbeats 4000000 in
theorem walk_dayLeaps (a : Int) (A : Nat → Addr) (w : World) (ha : -9223372036854775808 ≤ a) (ha2 : a ≤ 9223372036854775807) (hS : SentsOn [2] w A) :
    Calls Tryd.prog 8 #[.int .i64 a] w fun e w' => e = .returned (.bool true) ∧ Below w.heap.size w w' := by
  have hF := hidden (law4_first A w hS.on)
  clear hS
  have hx := hidden (fun w => number_any a 5000 w ha ha2 (by decide) (by decide))
  have x0 : 0 ≤ a % 5000 := by omega
  have x1 : a % 5000 ≤ 4999 := by omega
  clear ha ha2
  generalize a % 5000 = x at *
  go_enter Tryd.func8, Tryd.ntmps8
  go_wp2_with fail
  refine hF.out.mono ?_
  rintro e w1 ⟨rfl, hw⟩
  replace hw := hidden hw
  go_wp2_with (go_at_call 23; with_reducible refine (hx.out _).mono ?_; rintro e w' ⟨rfl, rfl⟩)
  go_loop [4, 5] (LeapRel x) (fun _ i => 400 - (intOf i).toNat)
  case atStart => exact ⟨0, by omega, rfl, rfl⟩
  case round =>
    obtain ⟨k, hk, rfl, rfl⟩ := hrel
    obtain ⟨c0, c1⟩ := cntL_bd x k
    by_cases hlt : k < 400
    · have hn := hidden (show cntL x (k + 1) = cntL x k + (if lpB (x + k) = true then 1 else 0) from rfl)
      cases hl : lpB (x + k)
      all_goals
        rw [hl] at hn
        go_wp2_with (go_at_call 17; refine (leap_any _ _ (by omega) (by omega)).mono ?_; rintro e w' ⟨rfl, rfl⟩)
        go_round
        case rel => exact ⟨k + 1, by omega, by go_num, by rw [hn.out]; simp⟩
        case measure => simp [intOf]; omega
    · obtain rfl : k = 400 := by omega
      rw [cntL_all]
      have l1 := lp_400 (x % 10)
      have l2 := lp_100 (x % 10)
      have l3 := lp_4 (x % 24) (by omega) (by omega)
      have l4 := lp_odd x
      have m0 : 0 ≤ x % 10 := by omega
      have m1 : x % 10 ≤ 9 := by omega
      have m2 : 0 ≤ x % 24 := by omega
      have m3 : x % 24 ≤ 23 := by omega
      go_wp2_with (go_at_call 17; refine (leap_any _ _ (by omega) (by omega)).mono ?_; rintro e w' ⟨rfl, rfl⟩)
      go_ret
      exact ⟨rfl, hw.out⟩
end Go.Proofs.YtlfaffffkinigaaDoor
