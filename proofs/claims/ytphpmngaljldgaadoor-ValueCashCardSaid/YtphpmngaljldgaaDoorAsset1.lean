/-
  Valid, Cash, Live, and the document's own; within, in.
-/
import Derived.Test.YtphpmngaljldgaaDoorAssetMath
import Derived.Test.YtphpmngaljldgaaDoorDay
import Derived.Test.YtphpmngaljldgaaDoorIn10
import Derived.Deep.RegionHeld3
namespace Go.Proofs.YtphpmngaljldgaaDoor
open Go.RowKit
set_option linter.unusedVariables false

theorem vC_no {a : As} (h : ¬ AsOk a) : vC a = 103 := if_neg h
/-- the ways through Valid. -/
theorem valid_ways (a : As) :
    (inB a.i 1 32 = false ∧ vC a = 103) ∨
    (inB a.i 1 32 = true ∧ inB a.s 0 32 = false ∧ vC a = 103) ∨
    (inB a.i 1 32 = true ∧ inB a.s 0 32 = true ∧ inB a.c 1 6 = false ∧ vC a = 103) ∨
    (inB a.i 1 32 = true ∧ inB a.s 0 32 = true ∧ inB a.c 1 6 = true ∧ inB a.m 1 6 = false ∧ vC a = 103) ∨
    (inB a.i 1 32 = true ∧ inB a.s 0 32 = true ∧ inB a.c 1 6 = true ∧ inB a.m 1 6 = true ∧ inB a.e 0 40000 = false ∧ vC a = 103) ∨
    (inB a.i 1 32 = true ∧ inB a.s 0 32 = true ∧ inB a.c 1 6 = true ∧ inB a.m 1 6 = true ∧ inB a.e 0 40000 = true ∧ (a.c == 1) = false ∧ vC a = 0) ∨
    (inB a.i 1 32 = true ∧ inB a.s 0 32 = true ∧ inB a.c 1 6 = true ∧ inB a.m 1 6 = true ∧ inB a.e 0 40000 = true ∧ (a.c == 1) = true ∧ (a.s != 0) = true ∧ vC a = 103) ∨
    (inB a.i 1 32 = true ∧ inB a.s 0 32 = true ∧ inB a.c 1 6 = true ∧ inB a.m 1 6 = true ∧ inB a.e 0 40000 = true ∧ (a.c == 1) = true ∧ (a.s != 0) = false ∧ (a.e != 0) = true ∧ vC a = 103) ∨
    (inB a.i 1 32 = true ∧ inB a.s 0 32 = true ∧ inB a.c 1 6 = true ∧ inB a.m 1 6 = true ∧ inB a.e 0 40000 = true ∧ (a.c == 1) = true ∧ (a.s != 0) = false ∧ (a.e != 0) = false ∧ vC a = 0) := by
  cases h1 : inB a.i 1 32
  · exact .inl ⟨rfl, vC_no fun h => inB_no h1 h.1.1⟩
  cases h2 : inB a.s 0 32
  · exact .inr (.inl ⟨rfl, rfl, vC_no fun h => inB_no h2 h.1.2.1⟩)
  cases h3 : inB a.c 1 6
  · exact .inr (.inr (.inl ⟨rfl, rfl, rfl, vC_no fun h => inB_no h3 h.1.2.2.1⟩))
  cases h4 : inB a.m 1 6
  · exact .inr (.inr (.inr (.inl ⟨rfl, rfl, rfl, rfl, vC_no fun h => inB_no h4 h.1.2.2.2.1⟩)))
  cases h5 : inB a.e 0 40000
  · exact .inr (.inr (.inr (.inr (.inl ⟨rfl, rfl, rfl, rfl, rfl, vC_no fun h => inB_no h5 h.1.2.2.2.2⟩))))
  have hin : AsIn a := ⟨inB_yes h1, inB_yes h2, inB_yes h3, inB_yes h4, inB_yes h5⟩
  cases h6 : a.c == 1
  · exact .inr (.inr (.inr (.inr (.inr (.inl ⟨rfl, rfl, rfl, rfl, rfl, rfl, if_pos ⟨hin, fun h => absurd h (by simpa using h6)⟩⟩)))))
  have hc : a.c = 1 := by simpa using h6
  cases h7 : a.s != 0
  · have hs : a.s = 0 := by simpa using h7
    cases h8 : a.e != 0
    · have he : a.e = 0 := by simpa using h8
      exact .inr (.inr (.inr (.inr (.inr (.inr (.inr (.inr ⟨rfl, rfl, rfl, rfl, rfl, rfl, rfl, rfl, if_pos ⟨hin, fun _ => ⟨hs, he⟩⟩⟩)))))))
    · have he : ¬ a.e = 0 := by simpa using h8
      exact .inr (.inr (.inr (.inr (.inr (.inr (.inr (.inl ⟨rfl, rfl, rfl, rfl, rfl, rfl, rfl, rfl, vC_no fun h => he (h.2 hc).2⟩)))))))
  · have hs : ¬ a.s = 0 := by simpa using h7
    exact .inr (.inr (.inr (.inr (.inr (.inr (.inl ⟨rfl, rfl, rfl, rfl, rfl, rfl, rfl, vC_no fun h => hs (h.2 hc).1⟩))))))

abbrev asO (a : As) : Obj := .cells #[.int .i64 a.i, .int .i64 a.s, .int .i64 a.c, .int .i64 a.m, .int .i64 a.e] 23
theorem below_as (w : World) (a : As) : Below w.heap.size w (w.alloc (asO a)) := (Below.refl _ w).alloc (Nat.le_refl _) _
theorem cash_any (a : As) (w : World) : Calls Tryd.prog 30 #[asA a] w fun e w' => e = .returned (.bool (a.c == 1)) ∧ Below w.heap.size w w' := by
  have hb := hidden (below_as w a)
  obtain ⟨i, s, c, m, e⟩ := a
  go_enter Tryd.func30, Tryd.ntmps30
  go_wp2
  go_ret
  exact ⟨rfl, hb.out⟩
theorem live_any (a : As) (t : Int) (w : World) (h1 : -9223372036854775808 ≤ a.e) (h2 : a.e ≤ 9223372036854775807) (h3 : -9223372036854775808 ≤ t) (h4 : t ≤ 9223372036854775807) :
    Calls Tryd.prog 24 #[asA a, .int .i64 t] w fun e w' => e = .returned (.bool (lfB a.e t)) ∧ Below w.heap.size w w' := by
  have hb := hidden (below_as w a)
  obtain ⟨i, s, c, m, e⟩ := a
  have hl := hidden (fun w => left_any e t w h1 h2 h3 h4)
  clear h1 h2 h3 h4
  go_enter Tryd.func24, Tryd.ntmps24
  go_wp2_with (go_at_call 36; refine (hl.out _).mono ?_; rintro e w' ⟨rfl, rfl⟩)
  go_ret
  exact ⟨rfl, hb.out⟩
theorem lfB_ways (e t : Int) : ((e == 0) = true ∧ lfB e t = true) ∨ ((e == 0) = false ∧ decide (t < e) = true ∧ lfB e t = true) ∨ ((e == 0) = false ∧ decide (t < e) = false ∧ lfB e t = false) := by
  unfold lfB
  simp only [decide_eq_true_iff, decide_eq_false_iff_not, beq_iff_eq, beq_eq_false_iff_ne]
  omega
theorem refLive_any (a : As) (t : Int) (w : World) : Calls Tryd.prog 26 #[asA a, .int .i64 t] w fun e w' => e = .returned (.bool (lfB a.e t)) ∧ Below w.heap.size w w' := by
  have hb := hidden (below_as w a)
  obtain ⟨i, s, c, m, e⟩ := a
  rcases lfB_ways e t with ⟨t1, q⟩ | ⟨t1, t2, q⟩ | ⟨t1, t2, q⟩
  all_goals
    replace q := hidden q
    go_enter Tryd.func26, Tryd.ntmps26
    go_wp2
    go_ret
    exact ⟨ret_bool q.out.symm, hb.out⟩
end Go.Proofs.YtphpmngaljldgaaDoor
