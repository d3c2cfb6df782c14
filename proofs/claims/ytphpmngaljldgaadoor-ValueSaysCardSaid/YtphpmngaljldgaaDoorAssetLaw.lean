/-
  The chapter's example; what lies below stays.
-/
import Derived.Test.YtphpmngaljldgaaDoorAsset1
import Derived.Test.YtphpmngaljldgaaDoorNumber
namespace Go.Proofs.YtphpmngaljldgaaDoor
open Go.RowKit
set_option linter.unusedVariables false

theorem bcell {W w1 : World} (hb : Below W.heap.size W w1) : (∀ b o, b < W.heap.size → w1.cell? ⟨b, o, none⟩ = W.cell? ⟨b, o, none⟩) ∧ (∀ b o, b < W.heap.size → w1.frozen? ⟨b, o, none⟩ = W.frozen? ⟨b, o, none⟩) :=
  ⟨fun b o h => hb.cell (p := ⟨b, o, none⟩) h, fun b o h => hb.frozen (p := ⟨b, o, none⟩) h⟩
/-- an asset in block g. -/
structure AsAt (w : World) (g : Nat) (a : As) : Prop where
  row : w.heap[g]? = some (asO a)
theorem AsAt.below {w w' : World} {g : Nat} {a : As} (h : AsAt w g a) (hb : Below w.heap.size w w') : AsAt w' g a := ⟨by rw [hb.block _ (Array.getElem?_eq_some_iff.1 h.row).1]; exact h.row⟩
theorem AsAt.cells {w : World} {g : Nat} {a : As} (h : AsAt w g a) : w.cell? ⟨g, 0, none⟩ = some (.int .i64 a.i) ∧ w.cell? ⟨g, 1, none⟩ = some (.int .i64 a.s) ∧ w.cell? ⟨g, 2, none⟩ = some (.int .i64 a.c) ∧ w.cell? ⟨g, 3, none⟩ = some (.int .i64 a.m) ∧ w.cell? ⟨g, 4, none⟩ = some (.int .i64 a.e) := by
  refine ⟨?_, ?_, ?_, ?_, ?_⟩ <;> (rw [cell_of_row _ _ _ _ _ _ h.row]; rfl)
theorem asAt_new (w : World) (a : As) : AsAt (w.alloc (asO a)) w.heap.size a := ⟨heap_alloc_new w _⟩
end Go.Proofs.YtphpmngaljldgaaDoor
