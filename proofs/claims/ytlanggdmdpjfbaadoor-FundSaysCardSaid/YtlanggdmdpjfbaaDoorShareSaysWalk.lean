/-
  ShareSays.
-/
import Derived.Test.YtlanggdmdpjfbaaDoorShareRef
import Derived.Test.YtlanggdmdpjfbaaDoorShare5
import Derived.Test.YtlanggdmdpjfbaaDoorLaidOn
import Derived.BigQuiet
namespace Go.Proofs.YtlanggdmdpjfbaaDoor
open Go Go.RowKit
set_option linter.unusedVariables false

theorem drewE23 {B n : Nat} {w0 w w' : World} (h : Below B w0 w) (e : w' = w.drewN n) : Below B w0 w' := by rw [e]; exact below_drewN h
theorem shC_code (W : Int) (L : List Int) : codeOk (shC W L) := by
  unfold shC codeOk
  split
  · exact .inr ⟨by decide, by decide⟩
  · split
    · exact .inr ⟨by decide, by decide⟩
    · split
      · exact .inr ⟨by decide, by decide⟩
      · split
        · exact .inr ⟨by decide, by decide⟩
        · exact .inl rfl
theorem floC_code (W x S : Int) : codeOk (floC W x S) := by
  unfold floC codeOk
  split
  · exact .inl rfl
  · exact .inr ⟨by decide, by decide⟩
theorem spA_len (W : Int) (L : List Int) : (spA W L).length ≤ L.length := by
  unfold spA
  split
  · rw [show (shL W L).length = L.length from ptL_len _ _ _]; exact Nat.le_refl _
  · exact Nat.zero_le _
end Go.Proofs.YtlanggdmdpjfbaaDoor
