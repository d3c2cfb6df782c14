/-
  mayTake; worth; Worth, Cost, Fits, Most.
-/
import Derived.Test.YtodhoblacalbiaaDoorLots2
import Derived.Deep.RegionHeld3
namespace Go.Proofs.YtodhoblacalbiaaDoor
open Go.RowKit
set_option linter.unusedVariables false

theorem ltBox {w W : World} {x : Lt} (hb : Below (w.alloc (ltO x)).heap.size (w.alloc (ltO x)) W) : LotAt W w.heap.size 0 x := by
  have h : W.heap[w.heap.size]? = some (ltO x) := (hb.block _ (by simp)).trans (heap_alloc_new w _)
  refine ⟨?_, ?_, ?_, ?_⟩ <;> (rw [cell_of_row _ _ _ _ _ _ h]; rfl)
theorem errOf_103 (A : Nat → Addr) : errOf A 103 = errAt (A 2) := rfl
theorem errOf_105 (A : Nat → Addr) : errOf A 105 = errAt (A 4) := rfl
def tkPart (L : List Lt) (t : List Int) (k : Nat) : Prop := ∀ j, j < k → 0 ≤ t.getD j 0 ∧ t.getD j 0 ≤ (L.getD j ltZ).u
theorem tkPart_next {L : List Lt} {t : List Int} {k : Nat} (h : tkPart L t k) (hk : ouB (t.getD k 0) (L.getD k ltZ).u = false) : tkPart L t (k + 1) := fun j hj => by
  by_cases e : j = k
  · subst e
    unfold ouB at hk
    rw [decide_eq_false_iff_not] at hk
    omega
  · exact h j (by omega)
theorem good_out {L : List Lt} {C : List Int} {n : Int} {t : List Int} {k : Nat} (hl : k < L.length) (hk : ouB (t.getD k 0) (L.getD k ltZ).u = true) : goodB L C n t = false := goodB_no fun h => by
  have := h.2.2 k hl
  unfold ouB at hk
  rw [decide_eq_true_iff] at hk
  omega
abbrev MtS (w : World) (b o g : Nat) (x u : Int) (W : World) : Prop := W.cell? ⟨b, o, none⟩ = some (.int .i64 x) ∧ W.cell? ⟨g, 0, none⟩ = some (.int .i64 u) ∧ Below w.heap.size w W
theorem mtS_drew {w W : World} {b o g : Nat} {x u : Int} (h : MtS w b o g x u W) : MtS w b o g x u W.drew := ⟨h.1, h.2.1, h.2.2.drew⟩
def MtRel (L : List Lt) (t : List Int) (w0 : World) (i : Value) (w : World) : Prop := ∃ k : Nat, k ≤ L.length ∧ i = .int .i64 (k : Int) ∧ tkPart L t k ∧ Below w0.heap.size w0 w
end Go.Proofs.YtodhoblacalbiaaDoor
