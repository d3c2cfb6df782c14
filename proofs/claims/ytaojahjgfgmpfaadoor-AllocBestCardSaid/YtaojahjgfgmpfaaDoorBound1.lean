/-
  rest; cheapest.
  cheapest.
  Least, Can.
-/
import Derived.Test.YtaojahjgfgmpfaaDoorBoundMath
import Derived.Test.YtaojahjgfgmpfaaDoorLots1
import Derived.Test.YtaojahjgfgmpfaaDoorFix
import Derived.Test.YtaojahjgfgmpfaaDoorBase
namespace Go.Proofs.YtaojahjgfgmpfaaDoor
open Go.RowKit
set_option linter.unusedVariables false

def RestAt (L : List Lt) (k : Nat) (w : World) (e : Ending) (w' : World) : Prop := ∃ v, e = .returned (.tuple #[v, .bool true]) ∧ Row ltV 4 w' v (L.drop k) ∧ Below w.heap.size w w'
end Go.Proofs.YtaojahjgfgmpfaaDoor
namespace Go.Proofs.YtaojahjgfgmpfaaDoor
open Go.RowKit
set_option linter.unusedVariables false

theorem lt_size : (Tryd.prog.info? ltTy).map (·.size) = some 4 := by kernel_rfl
theorem lt_end {a : Act} {w : World} {fn : Func} {R : Ending → World → Prop} {p u : Tmp} {g : Nat} {x : Lt} {vb : Value}
    (h : fn.results = #[.cell p ltTy, .tmp u]) (hd : a.defers = []) (hp : a.tmps.getD p undef = .pointer (some ⟨g, 0, none⟩)) (hb : a.tmps.getD u undef = vb) (hg : w.heap[g]? = some (ltO x))
    (hR : R (.returned (.tuple #[ltA x, vb])) w) : bodyPost Tryd.prog fn R .ret a w := by
  subst hb
  exact bodyPost_ret (results_cell2 h _ _ _ _ _ _ _ hp hg Tryd.underlying48 rfl lt_size) hd hR
/-- a lot's cells in its block, and that it can be written. -/
theorem lt_row {w : World} {g : Nat} {y : Lt} (h : w.heap[g]? = some (ltO y)) : LotAt w g 0 y ∧ (w.frozen? ⟨g, 0, none⟩ = false ∧ w.frozen? ⟨g, 1, none⟩ = false ∧ w.frozen? ⟨g, 2, none⟩ = false ∧ w.frozen? ⟨g, 3, none⟩ = false) := by
  refine ⟨⟨?_, ?_, ?_, ?_⟩, ?_, ?_, ?_, ?_⟩
  · rw [cell_of_row _ _ _ _ _ _ h]; rfl
  · rw [cell_of_row _ _ _ _ _ _ h]; rfl
  · rw [cell_of_row _ _ _ _ _ _ h]; rfl
  · rw [cell_of_row _ _ _ _ _ _ h]; rfl
  · simp [World.frozen?, h]
  · simp [World.frozen?, h]
  · simp [World.frozen?, h]
  · simp [World.frozen?, h]
abbrev ltPut (w : World) (g : Nat) (x : Lt) : World := (((w.setCell ⟨g, 0, none⟩ (.int .i64 x.u)).setCell ⟨g, 1, none⟩ (.int .i64 x.v)).setCell ⟨g, 2, none⟩ (.int .i64 x.c)).setCell ⟨g, 3, none⟩ (.int .i64 x.g)
theorem lt_put {w : World} {g : Nat} {y : Lt} (h : w.heap[g]? = some (ltO y)) (x : Lt) : (ltPut w g x).heap[g]? = some (ltO x) := by
  show ((((w.setCell ⟨g, 0, none⟩ (.int .i64 x.u)).setCell ⟨g, 1, none⟩ (.int .i64 x.v)).setCell ⟨g, 2, none⟩ (.int .i64 x.c)).setCell ⟨g, 3, none⟩ (.int .i64 x.g)).heap[g]? = _
  rw [heap_setCell_row (heap_setCell_row (heap_setCell_row (heap_setCell_row h _) _) _) _]
  rfl
theorem lt_put_trd (w : World) (g : Nat) (x : Lt) : Trd (· = g) w (ltPut w g x) := (((Trd.setCell (S := (· = g)) w ⟨g, 0, none⟩ _ rfl).trans (Trd.setCell _ ⟨g, 1, none⟩ _ rfl)).trans (Trd.setCell _ ⟨g, 2, none⟩ _ rfl)).trans (Trd.setCell _ ⟨g, 3, none⟩ _ rfl)
theorem lt_put_other {w : World} {g k : Nat} {o : Obj} (h : w.heap[k]? = some o) (hk : k ≠ g) (x : Lt) : (ltPut w g x).heap[k]? = some o := ((lt_put_trd w g x).block k (Array.getElem?_eq_some_iff.1 h).1 hk).trans h
theorem lt_put_below {w W : World} {B g : Nat} (h : Below B w W) (hg : B ≤ g) (x : Lt) : Below B w (ltPut W g x) := (((h.setCell hg _).setCell hg _).setCell hg _).setCell hg _
/-- both lots of cheapest: its answer's, its best's. -/
structure CheapAt (w0 : World) (B : Nat) (x : Lt) (w : World) : Prop where
  zero : w.heap[B]? = some (ltO ltZ)
  best : w.heap[B + 1]? = some (ltO x)
  below : Below B w0 w
theorem CheapAt.next {w0 w w' : World} {B : Nat} {x : Lt} (h : CheapAt w0 B x w) (hb : Below w.heap.size w w') (hB : B ≤ w.heap.size) : CheapAt w0 B x w' :=
  ⟨(hb.block _ (Array.getElem?_eq_some_iff.1 h.zero).1).trans h.zero, (hb.block _ (Array.getElem?_eq_some_iff.1 h.best).1).trans h.best, h.below.trans (hb.mono hB)⟩
theorem CheapAt.size {w0 w : World} {B : Nat} {x : Lt} (h : CheapAt w0 B x w) : B + 1 < w.heap.size := (Array.getElem?_eq_some_iff.1 h.best).1
theorem CheapAt.put {w0 w : World} {B : Nat} {x : Lt} (h : CheapAt w0 B x w) (y : Lt) : CheapAt w0 B y (ltPut w (B + 1) y) :=
  ⟨lt_put_other h.zero (by omega) y, lt_put h.best y, lt_put_below h.below (by omega) y⟩
def CheapRel (l : List Lt) (w0 : World) (i : Value) (w : World) : Prop := ∃ k : Nat, k ≤ l.length ∧ i = .int .i64 (k : Int) ∧ CheapAt w0 w0.heap.size (chT l k) w
end Go.Proofs.YtaojahjgfgmpfaaDoor
namespace Go.Proofs.YtaojahjgfgmpfaaDoor
open Go.RowKit
set_option linter.unusedVariables false

/-- what is told of the least; whether. -/
def lsV (L : List Lt) (k : Nat) (left : Int) : Int := if left ≤ 0 then 0 else divAns left (chL L k).c (chL L k).v true
def lsB (L : List Lt) (k : Nat) (left : Int) : Bool := if left ≤ 0 then true else divOk left (chL L k).c (chL L k).v true
theorem divOk_zero (a b : Int) (up : Bool) : divOk a b 0 up = false := rfl
theorem divAns_zero (a b : Int) (up : Bool) : divAns a b 0 up = 0 := rfl
/-- what all units from one on are worth, without caps. -/
def caF (L : List Lt) (k i : Nat) : Int := (L.getD (k + i) ltZ).u * (L.getD (k + i) ltZ).v
def caV (L : List Lt) (k : Nat) : Int := sumF (caF L k) (L.length - k)
theorem caF_bd {L : List Lt} {C : List Int} {n : Int} (h : OkP L C n) {k i : Nat} (hi : k + i < L.length) : 0 ≤ caF L k i ∧ caF L k i ≤ 1000000000000 := by
  have h1 := h.lot hi
  unfold ltOk at h1
  have := prod_bd (a := (L.getD (k + i) ltZ).u) (A := 1000) (b := (L.getD (k + i) ltZ).v) (B := 1000000000) (by omega) (by omega) (by omega) (by omega)
  unfold caF
  omega
theorem caS_bd {L : List Lt} {C : List Int} {n : Int} (h : OkP L C n) {k j : Nat} (hj : k + j ≤ L.length) : 0 ≤ sumF (caF L k) j ∧ sumF (caF L k) j ≤ 8000000000000 := by
  have := sumF_bd (f := caF L k) (M := 1000000000000) (k := j) (fun i hi => caF_bd h (by omega))
  have hL := h.1.1.2
  omega
def CanRel (L : List Lt) (k m : Nat) (w0 : World) (s i : Value) (w : World) : Prop := ∃ j : Nat, j ≤ m ∧ i = .int .i64 (j : Int) ∧ s = .int .i64 (sumF (caF L k) j) ∧ Below w0.heap.size w0 w
end Go.Proofs.YtaojahjgfgmpfaaDoor
