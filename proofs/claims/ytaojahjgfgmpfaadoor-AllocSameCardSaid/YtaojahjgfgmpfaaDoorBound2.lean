/-
  cheapest.
-/
import Derived.Test.YtaojahjgfgmpfaaDoorBound1
import Derived.Test.YtaojahjgfgmpfaaDoorSums
import Derived.Test.YtaojahjgfgmpfaaDoorMem
namespace Go.Proofs.YtaojahjgfgmpfaaDoor
open Go.RowKit
set_option linter.unusedVariables false

theorem lt_size : (Tryd.prog.info? ltTy).map (·.size) = some 4 := by kernel_rfl
theorem lt_end {a : Act} {w : World} {fn : Func} {R : Ending → World → Prop} {p u : Tmp} {g : Nat} {x : Lt} {vb : Value}
    (h : fn.results = #[.cell p ltTy, .tmp u]) (hd : a.defers = []) (hp : a.tmps.getD p undef = .pointer (some ⟨g, 0, none⟩)) (hb : a.tmps.getD u undef = vb) (hg : w.heap[g]? = some (ltO x))
    (hR : R (.returned (.tuple #[ltA x, vb])) w) : bodyPost Tryd.prog fn R .ret a w := by
  subst hb
  exact bodyPost_ret (results_cell2 h _ _ _ _ _ _ _ hp hg Tryd.underlying48 rfl lt_size) hd hR
/-- a lot's cells in its block, and that it can be written. -/
theorem lt_row {w : World} {g : Nat} {y : Lt} (h : w.heap[g]? = some (ltO y)) : LotAt w g 0 y ∧ (w.frozen? ⟨g, 0, none⟩ = false ∧ w.frozen? ⟨g, 1, none⟩ = false ∧ w.frozen? ⟨g, 2, none⟩ = false ∧ w.frozen? ⟨g, 3, none⟩ = false) := by
  refine ⟨⟨?_, ?_, ?_, ?_⟩, ?_, ?_, ?_, ?_⟩
  · rw [cell_of_row _ _ _ _ _ _ h]; rfl
  · rw [cell_of_row _ _ _ _ _ _ h]; rfl
  · rw [cell_of_row _ _ _ _ _ _ h]; rfl
  · rw [cell_of_row _ _ _ _ _ _ h]; rfl
  · simp [World.frozen?, h]
  · simp [World.frozen?, h]
  · simp [World.frozen?, h]
  · simp [World.frozen?, h]
abbrev ltPut (w : World) (g : Nat) (x : Lt) : World := (((w.setCell ⟨g, 0, none⟩ (.int .i64 x.u)).setCell ⟨g, 1, none⟩ (.int .i64 x.v)).setCell ⟨g, 2, none⟩ (.int .i64 x.c)).setCell ⟨g, 3, none⟩ (.int .i64 x.g)
theorem lt_put {w : World} {g : Nat} {y : Lt} (h : w.heap[g]? = some (ltO y)) (x : Lt) : (ltPut w g x).heap[g]? = some (ltO x) := by
  show ((((w.setCell ⟨g, 0, none⟩ (.int .i64 x.u)).setCell ⟨g, 1, none⟩ (.int .i64 x.v)).setCell ⟨g, 2, none⟩ (.int .i64 x.c)).setCell ⟨g, 3, none⟩ (.int .i64 x.g)).heap[g]? = _
  rw [heap_setCell_row (heap_setCell_row (heap_setCell_row (heap_setCell_row h _) _) _) _]
  rfl
theorem lt_put_trd (w : World) (g : Nat) (x : Lt) : Trd (· = g) w (ltPut w g x) := (((Trd.setCell (S := (· = g)) w ⟨g, 0, none⟩ _ rfl).trans (Trd.setCell _ ⟨g, 1, none⟩ _ rfl)).trans (Trd.setCell _ ⟨g, 2, none⟩ _ rfl)).trans (Trd.setCell _ ⟨g, 3, none⟩ _ rfl)
theorem lt_put_other {w : World} {g k : Nat} {o : Obj} (h : w.heap[k]? = some o) (hk : k ≠ g) (x : Lt) : (ltPut w g x).heap[k]? = some o := ((lt_put_trd w g x).block k (Array.getElem?_eq_some_iff.1 h).1 hk).trans h
theorem lt_put_below {w W : World} {B g : Nat} (h : Below B w W) (hg : B ≤ g) (x : Lt) : Below B w (ltPut W g x) := (((h.setCell hg _).setCell hg _).setCell hg _).setCell hg _
/-- both lots of cheapest: its answer's, its best's. -/
structure CheapAt (w0 : World) (B : Nat) (x : Lt) (w : World) : Prop where
  zero : w.heap[B]? = some (ltO ltZ)
  best : w.heap[B + 1]? = some (ltO x)
  below : Below B w0 w
theorem CheapAt.next {w0 w w' : World} {B : Nat} {x : Lt} (h : CheapAt w0 B x w) (hb : Below w.heap.size w w') (hB : B ≤ w.heap.size) : CheapAt w0 B x w' :=
  ⟨(hb.block _ (Array.getElem?_eq_some_iff.1 h.zero).1).trans h.zero, (hb.block _ (Array.getElem?_eq_some_iff.1 h.best).1).trans h.best, h.below.trans (hb.mono hB)⟩
theorem CheapAt.size {w0 w : World} {B : Nat} {x : Lt} (h : CheapAt w0 B x w) : B + 1 < w.heap.size := (Array.getElem?_eq_some_iff.1 h.best).1
theorem CheapAt.put {w0 w : World} {B : Nat} {x : Lt} (h : CheapAt w0 B x w) (y : Lt) : CheapAt w0 B y (ltPut w (B + 1) y) :=
  ⟨lt_put_other h.zero (by omega) y, lt_put h.best y, lt_put_below h.below (by omega) y⟩
def CheapRel (l : List Lt) (w0 : World) (i : Value) (w : World) : Prop := ∃ k : Nat, k ≤ l.length ∧ i = .int .i64 (k : Int) ∧ CheapAt w0 w0.heap.size (chT l k) w
end Go.Proofs.YtaojahjgfgmpfaaDoor
