import Derived.Test.YtemjfncfhipjoaaRefCmp
import Derived.Test.YtemjfncfhipjoaaShare
import Derived.Deep.QuietTactic
import Derived.BigQuiet
namespace Go.Proofs.Ytemjfncfhipjoaa
open Go.RowKit

theorem divAns_ok {a b c : Int} {up : Bool} (h : divOk a b c up = true) : divAns a b c up = divq a b c up := if_pos h
theorem divAns_no {a b c : Int} {up : Bool} (h : divOk a b c up = false) : divAns a b c up = 0 := if_neg (by simp [h])

/-- the chapter's examples. -/
theorem law2_first (w : World) : Calls Try.prog 8 #[] w fun e w' => e = .returned (.bool true) ∧ ∃ n, w' = w.drewN n := by
  have h1 : divAns 7 3 2 true = 11 := by decide
  have h2 : divOk 7 3 2 true = true := by decide
  have h3 : divAns (-7) 3 2 false = -11 := by decide
  have h4 : divOk (-7) 3 2 false = true := by decide
  go_enter Try.func8, Try.ntmps8
  go_wp2_with (go_at_call 15; refine (div_any _ _ _ _ _ (by omega) (by omega) (by omega) (by omega) (by omega)).mono ?_; rintro e w' ⟨rfl, k, rfl⟩)
  go_ret
  exact ⟨rfl, _, rfl⟩
end Go.Proofs.Ytemjfncfhipjoaa
