/-
  The document's own amount, over, above, Floor.
-/
import Derived.Test.YtddoibnagbbndaaDoorShare7
import Derived.Test.YtddoibnagbbndaaDoorRefFix
namespace Go.Proofs.YtddoibnagbbndaaDoor
open Go Go.RowKit
set_option linter.unusedVariables false

theorem refAmt_any23 (n : Int) (w : World) : Calls Tryd.prog 19 #[.int .i64 n] w fun e w' => e = .returned (.bool (decide (am23 n))) ∧ w = w' := by
  rcases am23_ways n with ⟨t1, q⟩ | ⟨t1, t2, q⟩ | ⟨t1, t2, q⟩
  all_goals
    replace q := hidden q
    go_enter Tryd.func19, Tryd.ntmps19
    go_wp2
    go_ret
    exact ⟨ret_bool q.out.symm, rfl⟩
set_option maxHeartbeats 3200000 in
theorem refFloor_any23 (W x S : Int) (w : World) (hW : -9223372036854775808 ≤ W) (hW2 : W ≤ 9223372036854775807) (hx : -9223372036854775808 ≤ x) (hx2 : x ≤ 9223372036854775807) (hS : S ≤ 9223372036854775807) :
    Calls Tryd.prog 11 #[.int .i64 W, .int .i64 x, .int .i64 S] w fun e w' => e = .returned (.tuple #[.int .i64 (floV W x S), .int .i64 (floC W x S)]) ∧ w = w' := by
  have hQ := hidden (fun n => refAmt_any23 n w)
  rcases fl_ways W x S with ⟨t1, q⟩ | ⟨t1, t2, q⟩ | ⟨t1, t2, t3, q⟩ | ⟨t1, t2, t3, t4, q⟩ | ⟨t1, t2, t3, t4, t5, q⟩ | ⟨t1, t2, t3, t4, t5, q⟩
  iterate 5
    · have hr1 := hidden (show (0 : Int) = floV W x S by unfold floV; rw [if_neg q])
      have hr2 := hidden (show (103 : Int) = floC W x S by unfold floC; rw [if_neg q])
      clear q
      go_enter Tryd.func11, Tryd.ntmps11
      go_wp2_with (go_at_call 19; refine (hQ.out _).mono ?_; rintro e w' ⟨rfl, rfl⟩)
      go_ret2
      exact ⟨ret_ii hr1.out hr2.out, rfl⟩
  · have hr1 := hidden (show W * x / S = floV W x S by unfold floV; rw [if_pos q])
    have hr2 := hidden (show (0 : Int) = floC W x S by unfold floC; rw [if_pos q])
    obtain ⟨q1, q2, q3, q4, q5⟩ := q
    have hD := hidden (refDiv_any W x S false w hW hW2 hx hx2 hS)
    rw [(part_ok q1 q2.1 q4 (by have := q3.1; omega)).2] at hD
    clear q1 q2 q3 q4 q5
    go_enter Tryd.func11, Tryd.ntmps11
    go_wp2_with (first | (go_at_call 19; refine (hQ.out _).mono ?_; rintro e w' ⟨rfl, rfl⟩) | (go_at_call 14; refine hD.out.mono ?_; rintro e w' ⟨rfl, rfl⟩))
    go_ret2
    exact ⟨ret_ii hr1.out hr2.out, rfl⟩
/-- over: the rest. -/
theorem refOver_any23 (W x f S r : Int) (w : World) (hW : 0 ≤ W) (hW2 : W ≤ 1000000000000000) (hx : 0 ≤ x) (hx2 : x ≤ 1000000000000000) (hf : 0 ≤ f) (hf2 : f ≤ 1000000000000000) (hS : 0 ≤ S) (hS2 : S ≤ 1000000000000000) (h : W * x - f * S = r) (hr : 0 ≤ r) (hr2 : r ≤ 1000000000000000) :
    Calls Tryd.prog 33 #[.int .i64 W, .int .i64 x, .int .i64 f, .int .i64 S] w fun e w' => e = .returned (.int .i64 r) ∧ w = w' := by
  have u1 : IntKind.u64.wrap W = W := by rw [IntKind.wrap_u64]; omega
  have u2 : IntKind.u64.wrap x = x := by rw [IntKind.wrap_u64]; omega
  have u3 : IntKind.u64.wrap f = f := by rw [IntKind.wrap_u64]; omega
  have u4 : IntKind.u64.wrap S = S := by rw [IntKind.wrap_u64]; omega
  have h1 : IntKind.u64.wrap (IntKind.u64.wrap (W * x) - IntKind.u64.wrap (f * S)) = r := by
    generalize W * x = y at *
    generalize f * S = z at *
    rw [IntKind.wrap_u64, IntKind.wrap_u64, IntKind.wrap_u64]
    omega
  have h2 : IntKind.i64.wrap r = r := by rw [IntKind.wrap_i64]; omega
  have h3 := hidden (show wrap64 r = r from by unfold wrap64; omega)
  clear h
  go_enter Tryd.func33, Tryd.ntmps33
  go_wp2
  go_ret
  exact ⟨rfl, rfl⟩
end Go.Proofs.YtddoibnagbbndaaDoor
