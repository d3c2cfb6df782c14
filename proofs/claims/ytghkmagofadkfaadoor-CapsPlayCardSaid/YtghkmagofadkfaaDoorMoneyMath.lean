/-
  What the calls of package money answer, as numbers.
-/
import Derived.Test.YtghkmagofadkfaaDoorFix
import Derived.Test.YtghkmagofadkfaaDoorSums
import Derived.Test.YtghkmagofadkfaaDoorErr
namespace Go.Proofs.YtghkmagofadkfaaDoor
open Go.RowKit

/-- from 0 to a bound? -/
def win (n m : Int) : Bool := decide (0 ≤ n ∧ n ≤ m)
theorem win_yes {n m : Int} (h : win n m = true) : 0 ≤ n ∧ n ≤ m := of_decide_eq_true h
theorem win_mk {n m : Int} (h0 : 0 ≤ n) (h1 : n ≤ m) : win n m = true := decide_eq_true ⟨h0, h1⟩
theorem win_no {n m : Int} (h : win n m = false) : ¬ (0 ≤ n ∧ n ≤ m) := of_decide_eq_false h
/-- an amount, or why not: a number, and whether it is one. -/
def amtV (n : Int) (ok : Bool) : Int := if ok = true ∧ n ≤ 1000000000000000 then n else 0
def amtC (n : Int) (ok : Bool) : Int := if ok = true ∧ n ≤ 1000000000000000 then 0 else 104
/-- a quotient as an amount, where its numbers are within their bounds. -/
def capV (i : Bool) (a b c : Int) (up : Bool) : Int := if i = true then amtV (divAns a b c up) (divOk a b c up) else 0
def capC (i : Bool) (a b c : Int) (up : Bool) : Int := if i = true then amtC (divAns a b c up) (divOk a b c up) else 103
theorem amtC_ok (n : Int) (ok : Bool) : codeOk (amtC n ok) := by
  unfold amtC codeOk; split <;> omega
theorem capC_ok (i : Bool) (a b c : Int) (up : Bool) : codeOk (capC i a b c up) := by
  unfold capC; split
  · exact amtC_ok _ _
  · exact .inr (by omega)
def inAll (l : List Int) : Bool := l.all fun n => win n 1000000000000000
def totV (l : List Int) : Int := if inAll l = true then amtV (cap64 (total l)) (in64 (total l)) else 0
def totC (l : List Int) : Int := if inAll l = true then amtC (cap64 (total l)) (in64 (total l)) else 103
theorem totC_ok (l : List Int) : codeOk (totC l) := by
  unfold totC; split
  · exact amtC_ok _ _
  · exact .inr (by omega)
theorem inAll_snoc (l : List Int) (x : Int) : inAll (l ++ [x]) = (inAll l && win x 1000000000000000) := by simp [inAll]
theorem inAll_at {l : List Int} (k : Nat) (hk : k < l.length) (h : win (l.getD k 0) 1000000000000000 = false) : inAll l = false := by
  unfold inAll
  rw [List.all_eq_false]
  refine ⟨l.getD k 0, ?_, by rw [h]; decide⟩
  rw [List.getD_eq_getElem?_getD, List.getElem?_eq_getElem hk]; exact List.getElem_mem hk

/-- Where the numbers are within bounds that leave room, the quotient is the amount. -/
theorem cap_fine {a b c : Int} {up : Bool} (hc : 0 < c) (h0 : 0 ≤ divq a b c up) (h1 : divq a b c up ≤ 1000000000000000) : capV true a b c up = divq a b c up ∧ capC true a b c up = 0 := by
  have h : divOk a b c up = true := by unfold divOk; rw [decide_eq_true hc, in64_mk (by omega)]; rfl
  have h2 : divAns a b c up = divq a b c up := if_pos h
  unfold capV capC amtV amtC
  rw [if_pos rfl, if_pos rfl, h, h2, if_pos ⟨rfl, h1⟩, if_pos ⟨rfl, h1⟩]
  exact ⟨rfl, rfl⟩
theorem cap_over {a b c : Int} {up : Bool} (h1 : 1000000000000000 < divq a b c up) : capV true a b c up = 0 ∧ capC true a b c up = 104 := by
  unfold capV capC amtV amtC
  rw [if_pos rfl, if_pos rfl]
  by_cases h : divOk a b c up = true
  · have h2 : divAns a b c up = divq a b c up := if_pos h
    rw [if_neg (by rintro ⟨_, h3⟩; omega), if_neg (by rintro ⟨_, h3⟩; omega)]; exact ⟨rfl, rfl⟩
  · rw [if_neg (by rintro ⟨h3, _⟩; exact h h3), if_neg (by rintro ⟨h3, _⟩; exact h h3)]; exact ⟨rfl, rfl⟩
theorem divq_down (a b c : Int) : divq a b c false = a * b / c := rfl
theorem divq_up (a b c : Int) : divq a b c true = -(-(a * b) / c) := rfl
end Go.Proofs.YtghkmagofadkfaaDoor
