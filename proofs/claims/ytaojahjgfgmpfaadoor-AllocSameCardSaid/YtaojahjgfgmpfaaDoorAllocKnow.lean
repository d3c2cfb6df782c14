/-
  What is known of what Best finds.
-/
import Derived.Test.YtaojahjgfgmpfaaDoorAllocC
namespace Go.Proofs.YtaojahjgfgmpfaaDoor
open Go Go.RowKit
set_option linter.unusedVariables false

theorem be_code {L : List Lt} {C : List Int} {n bud : Int} (h : OkP L C n) (h0 : 0 ≤ bud) (h1 : bud ≤ 100000) : beC L C n bud = if wo L C (full L) < n then 121 else 0 := by
  unfold beC
  rw [if_pos h, if_neg (by omega)]
theorem be_same {L : List Lt} {C : List Int} {n x y : Int} (h : OkP L C n) (hx : 0 ≤ x ∧ x ≤ 100000) (hy : 0 ≤ y ∧ y ≤ 100000) (hm : ¬ wo L C (full L) < n) : (beR L C n x).2 = true → (beR L C n y).2 = true → (beR L C n x).1.cost = (beR L C n y).1.cost := by
  have e1 := (be_found (show beC L C n x = 0 by rw [be_code h hx.1 hx.2, if_neg hm])).1
  have e2 := (be_found (show beC L C n y = 0 by rw [be_code h hy.1 hy.2, if_neg hm])).1
  intro s1 s2
  apply Int.le_antisymm
  · rw [e2.cost]; exact e1.sure s1 _ e2.tk e2.fits
  · rw [e1.cost]; exact e2.sure s2 _ e1.tk e1.fits
/-- more is needed: it costs no less. -/
theorem be_grows {L : List Lt} {C : List Int} {n m bud : Int} (h0 : beC L C n bud = 0) (h1 : beC L C m bud = 0) (hnm : n ≤ m) : (beR L C n bud).2 = true → (beR L C n bud).1.cost ≤ (beR L C m bud).1.cost := by
  have e1 := (be_found h0).1
  have e2 := (be_found h1).1
  intro s
  rw [e2.cost]
  exact e1.sure s _ e2.tk (Int.le_trans hnm e2.fits)
/-- what lies in a block, in all later worlds. -/
theorem row_later {w W : World} {g : Nat} {o : Obj} (h : w.heap[g]? = some o) (hW : Below w.heap.size w W) : W.heap[g]? = some o := (hW.block _ (Array.getElem?_eq_some_iff.1 h).1).trans h
end Go.Proofs.YtaojahjgfgmpfaaDoor
