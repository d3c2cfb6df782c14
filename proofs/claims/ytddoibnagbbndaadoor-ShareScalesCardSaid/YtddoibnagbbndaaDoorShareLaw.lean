/-
  The chapter's example.
-/
import Derived.Test.YtddoibnagbbndaaDoorShare8
import Derived.Test.YtddoibnagbbndaaDoorSameLongs
namespace Go.Proofs.YtddoibnagbbndaaDoor
open Go Go.RowKit
set_option linter.unusedVariables false

theorem spA_first : shC 10 [1, 1, 1] = 0 ∧ spA 10 [1, 1, 1] = [4, 3, 3] := by decide +kernel
set_option maxHeartbeats 1600000 in
theorem law23_first (A : Nat → Addr) (w : World) (hE : ErrsOn [2, 3, 4, 5] w A) : Calls Tryd.prog 7 #[] w fun e w' => e = .returned (.bool true) ∧ Below w.heap.size w w' := by
  have hb1 := (Below.refl w.heap.size w).alloc (Nat.le_refl _) (.cells #[.int .i64 1, .int .i64 1, .int .i64 1] 2)
  have hR := reads_new (k := .i64) (w := w) (e := 2) #[.int .i64 1, .int .i64 1, .int .i64 1] [1, 1, 1] 3 rfl rfl (by decide)
  have hS := split_any23 A 10 _ [1, 1, 1] _ hR (hE.below hb1 (Nat.le_refl _))
  unfold SpAt23 at hS
  rw [spA_first.1, spA_first.2, errOf_fine] at hS
  replace hS := hidden hS
  replace hb1 := hidden hb1
  clear hR hE
  go_enter Tryd.func7, Tryd.ntmps7
  go_wp2_with fail
  refine hS.out.mono ?_
  rintro e w1 ⟨v, rfl, hv, hb2⟩
  have hb3 := hb1.out.trans (hb2.mono hb1.out.size)
  have hb4 := (Below.refl w1.heap.size w1).alloc (Nat.le_refl _) (.cells #[.int .i64 4, .int .i64 3, .int .i64 3] 2)
  have hR2 := reads_new (k := .i64) (w := w1) (e := 2) #[.int .i64 4, .int .i64 3, .int .i64 3] [4, 3, 3] 3 rfl rfl (by decide)
  have hL := hidden (sameLongs_any v _ [4, 3, 3] [4, 3, 3] _ (hv.below hb4 (Nat.le_refl _)) hR2 (by decide))
  have hb5 := hidden (hb3.trans (hb4.mono hb3.size))
  clear hS hv hb2 hR2 hb4 hb3
  go_wp2_with fail
  refine hL.out.mono ?_
  rintro e w2 ⟨rfl, m, rfl⟩
  clear hL
  go_wp2
  go_ret
  exact ⟨ret_bool (by simp), below_drewN hb5.out⟩
end Go.Proofs.YtddoibnagbbndaaDoor
