/-
  The terms as the document has them.
-/
import Derived.Test.YtphpmngaljldgaaDoorValue4
namespace Go.Proofs.YtphpmngaljldgaaDoor
open Go.RowKit
set_option linter.unusedVariables false

theorem tm_size : (Tryd.prog.info? tmTyR).map (·.size) = some 6 := by kernel_rfl
theorem tm_end1 {fn : Func} {p : Tmp} {R : Ending → World → Prop} {a : Act} {w : World} {g : Nat} {y : Tm} (h : fn.results = #[.cell p tmTyR]) (hd : a.defers = []) (hp : a.tmps.getD p undef = .pointer (some ⟨g, 0, none⟩)) (hg : TmAt w g tmTyR y)
    (hR : R (.returned (tmA y)) w) : bodyPost Tryd.prog fn R .ret a w :=
  bodyPost_ret (results_cell_row h _ _ _ _ _ _ _ hp hg.row Tryd.underlying36 rfl tm_size) hd hR
theorem other_any (y : Tm) (w : World) : Calls Tryd.prog 10 #[tmA y] w fun e w' => e = .returned (tmA y) ∧ Below w.heap.size w w' := by
  have h1 := hidden (tmAt_new (w.alloc (tmO tmTy y)) tmTyR y)
  have h2 := hidden (((Below.refl w.heap.size w).alloc (Nat.le_refl _) (tmO tmTy y)).alloc (by simp) (tmO tmTyR y))
  obtain ⟨t, o, n, p, x, z⟩ := y
  go_enter Tryd.func10, Tryd.ntmps10
  go_wp2_with fail
  refine tm_end1 (y := ⟨t, o, n, p, x, z⟩) (g := w.heap.size + 1) rfl rfl rfl ?_ ⟨rfl, ?_⟩
  · simpa only [World.size_alloc] using h1.out
  · exact h2.out
end Go.Proofs.YtphpmngaljldgaaDoor
