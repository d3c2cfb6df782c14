/-
  What the statements of money share: the chapter's example; an amount of any number.
-/
import Derived.Test.YtklmkdkjbpmnhaaDoorMoney
import Derived.Test.YtklmkdkjbpmnhaaDoorNumber
namespace Go.Proofs.YtklmkdkjbpmnhaaDoor
open Go.RowKit

theorem law3_first (A : Nat → Addr) (w : World) (hE : ErrsOn [2, 3] w A) : Calls Tryd.prog 8 #[] w fun e w' => e = .returned (.bool true) ∧ ∃ n, w' = w.drewN n := by
  have h := worth_any A 5 9999 w hE (by decide) (by decide) (by decide) (by decide)
  have h1 : capV (win 5 1000000000000 && win 9999 1000000000) 5 9999 10000 false = 4 := by decide
  have h2 : errOf A (capC (win 5 1000000000000 && win 9999 1000000000) 5 9999 10000 false) = .nilIface := by
    rw [show capC (win 5 1000000000000 && win 9999 1000000000) 5 9999 10000 false = 0 by decide]; rfl
  rw [h1, h2] at h
  replace h := hidden h
  clear h1 h2 hE
  go_enter Tryd.func8, Tryd.ntmps8
  go_wp2_with (go_at_call 9; refine h.out.mono ?_; rintro e w' ⟨rfl, k, rfl⟩)
  go_ret
  exact ⟨rfl, _, rfl⟩

theorem below_drew_eq {w w1 w2 : World} {B k : Nat} (h : Below B w w1) (e : w2 = w1.drewN k) : Below B w w2 := by rw [e]; exact below_drewN h

/-- an amount of any number. -/
def amtOf (n : Int) : Int := (if n < 0 then -(n + 1) else n) % 1000000000000001
theorem amtOf_bd (n : Int) : 0 ≤ amtOf n ∧ amtOf n ≤ 1000000000000000 := by unfold amtOf; omega
theorem amtOf_any (n : Int) (w : World) (h : -9223372036854775808 ≤ n) (h2 : n ≤ 9223372036854775807) :
    Calls Tryd.prog 22 #[.int .i64 n] w fun e w' => e = .returned (.int .i64 (amtOf n)) ∧ w = w' := by
  by_cases h0 : n < 0
  · have e : amtOf n = (-(n + 1)) % 1000000000000001 := by unfold amtOf; rw [if_pos h0]
    have e2 : -((n + 1).tmod 1000000000000001) = amtOf n := by rw [e, ← Int.neg_tmod, Int.tmod_eq_emod_of_nonneg (by omega)]
    go_enter Tryd.func22, Tryd.ntmps22
    go_wp2
    go_ret
    exact ⟨ret_int (by first | exact e2 | exact e.symm | rfl), rfl⟩
  · have e : amtOf n = n % 1000000000000001 := by unfold amtOf; rw [if_neg h0]
    go_enter Tryd.func22, Tryd.ntmps22
    go_wp2
    go_ret
    exact ⟨ret_int (by first | exact e2 | exact e.symm | rfl), rfl⟩
/-- within bounds a call answers the quotient, and no error. -/
theorem fine_of {A : Nat → Addr} {i : Bool} {a b c x : Int} {up : Bool} (hi : i = true) (hc : 0 < c) (hx : divq a b c up = x) (h0 : 0 ≤ x) (h1 : x ≤ 1000000000000000) : capV i a b c up = x ∧ errOf A (capC i a b c up) = .nilIface := by
  subst hi; subst hx
  obtain ⟨e1, e2⟩ := cap_fine hc h0 h1
  exact ⟨e1, by rw [e2]; rfl⟩
end Go.Proofs.YtklmkdkjbpmnhaaDoor
