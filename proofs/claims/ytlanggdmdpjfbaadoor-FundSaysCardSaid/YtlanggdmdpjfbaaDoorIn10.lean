/-
  pledgeref10.in: from a number to another.
-/
import Derived.Test.YtlanggdmdpjfbaaDoorProg
import Derived.Test.YtlanggdmdpjfbaaDoorRet
import Derived.WalkKit
import Derived.WalkSpells
import Derived.WalkLawsBesides
import Derived.Outline
namespace Go.Proofs.YtlanggdmdpjfbaaDoor
open Go.RowKit
set_option linter.unusedVariables false

def inB (n l h : Int) : Bool := decide (l ≤ n ∧ n ≤ h)
theorem inB_ways (n l h : Int) : (decide (l ≤ n) = true ∧ decide (n ≤ h) = true ∧ inB n l h = true) ∨ (decide (l ≤ n) = false ∧ inB n l h = false) ∨ (decide (l ≤ n) = true ∧ decide (n ≤ h) = false ∧ inB n l h = false) := by
  unfold inB
  simp only [decide_eq_true_iff, decide_eq_false_iff_not]
  omega
theorem ge_le (n l : Int) (b : Bool) (h : decide (l ≤ n) = b) : decide (n ≥ l) = b := h
theorem in_any (n l h : Int) (w : World) : Calls Tryd.prog 23 #[.int .i64 n, .int .i64 l, .int .i64 h] w fun e w' => e = .returned (.bool (inB n l h)) ∧ w = w' := by
  rcases inB_ways n l h with ⟨t1, t2, q⟩ | ⟨t1, q⟩ | ⟨t1, t2, q⟩
  all_goals
    replace q := hidden q
    go_enter Tryd.func23, Tryd.ntmps23
    go_wp2
    go_ret
    exact ⟨ret_bool q.out.symm, rfl⟩

theorem inB_no {n l h : Int} (q : inB n l h = false) : ¬ (l ≤ n ∧ n ≤ h) := of_decide_eq_false q
theorem inB_yes {n l h : Int} (q : inB n l h = true) : l ≤ n ∧ n ≤ h := of_decide_eq_true q
end Go.Proofs.YtlanggdmdpjfbaaDoor
