/-
  A master that is new; one asset in it.
-/
import Derived.Test.YtbjiiddlpfjipaaDoorAsset3
import Derived.Deep.WholeRow
namespace Go.Proofs.YtbjiiddlpfjipaaDoor
open Go.RowKit
set_option linter.unusedVariables false

def tabF : Array Value := (tabZ.flatMap asV).toArray
theorem master_zero (w : World) : (zeroValue 28).run Tryd.prog w = .ok (.agg tabF) w :=
  (zero_of_info (n := 165) (show (Tryd.prog.info? 28).map (fun i => (i.zero, i.size)) = some (some (.agg tabF), 165) by kernel_rfl)).1 w
theorem tabAt_new (w : World) : TabAt (w.alloc (.cells tabF 28)) w.heap.size tabZ := ⟨heap_alloc_new w _, tabZ_tab⟩
theorem thereZ (i : Int) : ¬ there tabZ i := by
  unfold there
  by_cases h : i.toNat < 33
  · rw [tabZ, List.getD_eq_getElem?_getD, List.getElem?_replicate, if_pos h]; simp [asZ]
  · rw [tabZ, List.getD_eq_getElem?_getD, List.getElem?_replicate, if_neg h]; simp [asZ]
theorem gotZ (i : Int) : gotB tabZ i = false := decide_eq_false fun h => thereZ i h.2.2
/-- one asset in a new master. -/
theorem oneA {a : As} (h : AsOk a) : addC tabZ a = 0 ∧ nextT tabZ a = putA tabZ a ∧ gotA (putA tabZ a) a.i = a ∧ gotB (putA tabZ a) a.i = true ∧ allA (putA tabZ a) = [a] ∧ addC (putA tabZ a) a = 107 := by
  obtain ⟨h1, h2⟩ := h.1.1
  obtain ⟨q1, _, q3, _⟩ := addC_new h (thereZ a.i)
  have hg : (putA tabZ a).getD a.i.toNat asZ = a := by
    unfold putA
    rw [getA_set _ _ _ _ (by simp [tabZ]; omega), if_pos rfl]
  have ht : there (putA tabZ a) a.i := by unfold there; rw [hg]; omega
  refine ⟨q1, q3, by unfold gotA; rw [if_pos ⟨h1, h2⟩, hg], decide_eq_true ⟨h1, h2, ht⟩, ?_, ?_⟩
  · have := tabZ_tab.insert (k := 0) ⟨h1, h2⟩ (thereZ a.i) (Nat.zero_le _) (fun j hj => absurd hj (Nat.not_lt_zero _)) (fun hj => by rw [allA_zero] at hj; exact absurd hj (Nat.not_lt_zero _))
    rw [← this, allA_zero]
    rfl
  · unfold addC
    rw [if_pos h, if_pos ht]
end Go.Proofs.YtbjiiddlpfjipaaDoor
