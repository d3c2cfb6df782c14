/-
  rest; cheapest.
-/
import Derived.Test.YtaojahjgfgmpfaaDoorBoundMath2
import Derived.Test.YtaojahjgfgmpfaaDoorLots2
namespace Go.Proofs.YtaojahjgfgmpfaaDoor
open Go.RowKit
set_option linter.unusedVariables false

def RestAt (L : List Lt) (k : Nat) (w : World) (e : Ending) (w' : World) : Prop := ∃ v, e = .returned (.tuple #[v, .bool true]) ∧ Row ltV 4 w' v (L.drop k) ∧ Below w.heap.size w w'
end Go.Proofs.YtaojahjgfgmpfaaDoor
