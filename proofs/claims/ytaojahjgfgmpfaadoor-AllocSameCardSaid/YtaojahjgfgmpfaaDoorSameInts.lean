/-
  pledgeref.SameInts: are two lists of numbers the same?
-/
import Derived.Test.YtaojahjgfgmpfaaDoorSameBytes
namespace Go.Proofs.YtaojahjgfgmpfaaDoor
open Go.RowKit

theorem take_snocI (l : List Int) (k : Nat) (h : k < l.length) : l.take (k + 1) = l.take k ++ [l.getD k 0] := by
  rw [List.take_succ_eq_append_getElem h, List.getD_eq_getElem?_getD, List.getElem?_eq_getElem h]; rfl
def SameIRel (xs ys : List Int) (w : World) (i : Value) (wr : World) : Prop :=
  ∃ k : Nat, i = .int .i64 (k : Int) ∧ k ≤ xs.length ∧ xs.take k = ys.take k ∧ ∃ m, wr = w.drewN m
end Go.Proofs.YtaojahjgfgmpfaaDoor
