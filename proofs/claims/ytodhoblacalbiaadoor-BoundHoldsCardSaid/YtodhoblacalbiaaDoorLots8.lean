/-
  slices.SortStableFunc; cheapestFirst.
-/
import Derived.Test.YtodhoblacalbiaaDoorLots7
namespace Go.Proofs.YtodhoblacalbiaaDoor
open Go.RowKit
set_option linter.unusedVariables false

def SortAt (L : List Lt) (gb : Nat) (w0 : World) (e : Ending) (w' : World) : Prop := e = .returned (.tuple #[]) ∧ NumAt inTy w' gb (nats (ordL L)) ∧ Below w0.heap.size w0 w'
def ChRel (n gb p : Nat) (lv : Value) (w0 : World) (i : Value) (w : World) : Prop :=
  ∃ k : Nat, k ≤ n ∧ i = .int .i64 (k : Int) ∧ NumAt inTy w gb (fillL (nats (List.range n)) k) ∧ Below w0.heap.size w0 w
theorem natr_at (n k : Nat) (h : k < n) : (nats (List.range n)).getD k 0 = (k : Int) := by
  rw [nats_at, List.getD_eq_getElem?_getD, List.getElem?_range h]
  rfl
abbrev lsTy : TypeId := 22
def ChAt (L : List Lt) (w : World) (e : Ending) (w' : World) : Prop := ∃ g, e = .returned (.slice (some ⟨g, 0, none⟩) L.length L.length) ∧ w.heap.size ≤ g ∧ NumAt inTy w' g (nats (ordL L)) ∧ Below w.heap.size w w'
end Go.Proofs.YtodhoblacalbiaaDoor
