/-
  pledgesee.Is of an error and its own number.
-/
import Derived.Test.YtghkmagofadkfaaDoorErr
namespace Go.Proofs.YtghkmagofadkfaaDoor
open Go.RowKit
set_option linter.unusedVariables false

theorem is_self (A : Nat → Addr) (k : Int) (W : World) (h : Sents W A) (hk : codeOk k) : Calls Tryd.prog 10 #[errOf A k, .int .i64 k] W fun e w' => e = .returned (.bool true) ∧ Below W.heap.size W w' :=
  (is_any A k k W h hk).mono fun e w' h => by
    obtain ⟨rfl, hb⟩ := h
    exact ⟨by rw [beq_self_eq_true], hb⟩
end Go.Proofs.YtghkmagofadkfaaDoor
