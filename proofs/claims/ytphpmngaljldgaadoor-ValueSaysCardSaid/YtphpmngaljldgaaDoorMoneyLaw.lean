/-
  What the statements of money share: the chapter's example; an amount of any number.
-/
import Derived.Test.YtphpmngaljldgaaDoorMoney
import Derived.Test.YtphpmngaljldgaaDoorNumber
namespace Go.Proofs.YtphpmngaljldgaaDoor
open Go.RowKit

theorem below_drew_eq {w w1 w2 : World} {B k : Nat} (h : Below B w w1) (e : w2 = w1.drewN k) : Below B w w2 := by rw [e]; exact below_drewN h

/-- an amount of any number. -/
def amtOf (n : Int) : Int := (if n < 0 then -(n + 1) else n) % 1000000000000001
theorem amtOf_bd (n : Int) : 0 ≤ amtOf n ∧ amtOf n ≤ 1000000000000000 := by unfold amtOf; omega
/-- within bounds a call answers the quotient, and no error. -/
theorem fine_of {A : Nat → Addr} {i : Bool} {a b c x : Int} {up : Bool} (hi : i = true) (hc : 0 < c) (hx : divq a b c up = x) (h0 : 0 ≤ x) (h1 : x ≤ 1000000000000000) : capV i a b c up = x ∧ errOf A (capC i a b c up) = .nilIface := by
  subst hi; subst hx
  obtain ⟨e1, e2⟩ := cap_fine hc h0 h1
  exact ⟨e1, by rw [e2]; rfl⟩
end Go.Proofs.YtphpmngaljldgaaDoor
