/-
  What the statements of day share: the chapter's example.
-/
import Derived.Test.YtlfaffffkinigaaDoorDayAt
import Derived.Test.YtlfaffffkinigaaDoorNumber
namespace Go.Proofs.YtlfaffffkinigaaDoor
open Go.RowKit
set_option linter.unusedVariables false

theorem dat_59 {y m d c : Int} (h : DatD 59 y m d c) : y = 2000 ∧ m = 2 ∧ d = 29 ∧ c = 0 :=
  dat_one h (.inl ⟨by decide, by decide, rfl, by decide, by decide, by decide⟩)
theorem law4_first (A : Nat → Addr) (w : World) (hE : ErrsOn [2] w A) : Calls Tryd.prog 9 #[] w fun e w' => e = .returned (.bool true) ∧ Below w.heap.size w w' := by
  have h := hidden (dayAt_any A 59 w hE (by decide) (by decide))
  clear hE
  go_enter Tryd.func9, Tryd.ntmps9
  go_wp2_with fail
  refine h.out.mono ?_
  rintro e w1 ⟨y, m, d, c, hd, rfl, hb⟩
  obtain ⟨rfl, rfl, rfl, rfl⟩ := dat_59 hd
  rw [errOf_fine]
  have hb2 := hidden (hb.trans ((below_date w1 2000 2 29).mono hb.size))
  clear hb hd
  go_wp2
  go_ret
  exact ⟨rfl, hb2.out⟩
end Go.Proofs.YtlfaffffkinigaaDoor
