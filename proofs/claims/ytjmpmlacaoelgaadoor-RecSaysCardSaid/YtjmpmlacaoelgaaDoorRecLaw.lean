/-
  The chapter's example.
-/
import Derived.Test.YtjmpmlacaoelgaaDoorRec3
namespace Go.Proofs.YtjmpmlacaoelgaaDoor
open Go.RowKit
set_option linter.unusedVariables false

theorem keyB_first : keyB 1 2 3 = [1, 0, 0, 0, 0, 2, 0, 0, 0, 0, 3] := by decide
theorem law9_first (w : World) : Calls Tryd.prog 7 #[] w fun e w' => e = .returned (.bool true) ∧ Below w.heap.size w w' := by
  have hk := hidden (key_yes 1 2 3 w (by unfold keyOk; omega))
  go_enter Tryd.func7, Tryd.ntmps7
  go_wp2_with fail
  refine hk.out.mono ?_
  rintro e w1 ⟨g, rfl, hg, hB, hb⟩
  have hb1 := hidden hb
  rw [keyB_first] at hB
  have hr1 := hidden ((reads_block (k := .u8) hB rfl (by decide)).below ((Below.refl w1.heap.size w1).alloc (Nat.le_refl _) (.cells #[.int .u8 1, .int .u8 0, .int .u8 0, .int .u8 0, .int .u8 0, .int .u8 2, .int .u8 0, .int .u8 0, .int .u8 0, .int .u8 0, .int .u8 3] 5)) (Nat.le_refl _))
  have hl1 := hidden (reads_new (k := .u8) (w := w1) (e := 5) #[.int .u8 1, .int .u8 0, .int .u8 0, .int .u8 0, .int .u8 0, .int .u8 2, .int .u8 0, .int .u8 0, .int .u8 0, .int .u8 0, .int .u8 3] [1, 0, 0, 0, 0, 2, 0, 0, 0, 0, 3] 11 rfl rfl (by decide))
  clear hk hB hb
  go_wp2_with fail
  refine (sameBytes_any _ _ _ _ _ hr1.out hl1.out (by decide)).mono ?_
  rintro e w2 ⟨rfl, m, rfl⟩
  go_wp2
  go_ret
  exact ⟨rfl, below_drewN (hb1.out.alloc hb1.out.size _)⟩
end Go.Proofs.YtjmpmlacaoelgaaDoor
