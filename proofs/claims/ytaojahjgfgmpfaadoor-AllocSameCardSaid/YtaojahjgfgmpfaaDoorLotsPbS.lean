/-
  A problem's cells, carried through a drawn region.
-/
import Derived.Test.YtaojahjgfgmpfaaDoorLots1
import Derived.Deep.RegionHeld3
namespace Go.Proofs.YtaojahjgfgmpfaaDoor
open Go.RowKit
set_option linter.unusedVariables false

abbrev PbS (w0 : World) (g : Nat) (lv cv : Value) (n : Int) (W : World) : Prop := W.cell? ⟨g, 0, none⟩ = some lv ∧ W.cell? ⟨g, 1, none⟩ = some cv ∧ W.cell? ⟨g, 2, none⟩ = some (.int .i64 n) ∧ Below w0.heap.size w0 W
theorem pbS_drew {w0 W : World} {g : Nat} {lv cv : Value} {n : Int} (h : PbS w0 g lv cv n W) : PbS w0 g lv cv n W.drew := ⟨h.1, h.2.1, h.2.2.1, h.2.2.2.drew⟩
theorem pbS_next {w0 W W' : World} {g : Nat} {lv cv : Value} {n : Int} (h : PbS w0 g lv cv n W) (hb : Below W.heap.size W W') : PbS w0 g lv cv n W' := by
  have hlt : g < W.heap.size := World.block_lt_of_cell? W _ h.1
  have e : ∀ p : Nat, W'.cell? ⟨g, p, none⟩ = W.cell? ⟨g, p, none⟩ := fun p => World.cell?_of_block (hb.block g hlt)
  exact ⟨(e 0).trans h.1, (e 1).trans h.2.1, (e 2).trans h.2.2.1, h.2.2.2.trans (hb.mono h.2.2.2.size)⟩
end Go.Proofs.YtaojahjgfgmpfaaDoor
