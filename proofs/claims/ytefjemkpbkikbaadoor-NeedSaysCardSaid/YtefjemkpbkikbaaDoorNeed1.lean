/-
  outside, Valid, Short, Spare, Bound; the document's Short; valid.
-/
import Derived.Test.YtefjemkpbkikbaaDoorNeedMath
import Derived.Test.YtefjemkpbkikbaaDoorErr
import Derived.Test.YtefjemkpbkikbaaDoorLongs
import Derived.Outline
namespace Go.Proofs.YtefjemkpbkikbaaDoor
open Go.RowKit
set_option linter.unusedVariables false

abbrev ndTy : TypeId := 25
abbrev ndO (s : Nd) : Obj := .cells #[.int .i64 s.n, .int .i64 s.h] ndTy
theorem below_nd (w : World) (s : Nd) : Below w.heap.size w (w.alloc (ndO s)) := (Below.refl _ w).alloc (Nat.le_refl _) _
def outB (n : Int) : Bool := decide (n < 0 ∨ 1000000000000000 < n)
theorem outB_ways (n : Int) : (decide (n < 0) = true ∧ outB n = true) ∨ (decide (n < 0) = false ∧ decide (1000000000000000 < n) = true ∧ outB n = true) ∨ (decide (n < 0) = false ∧ decide (1000000000000000 < n) = false ∧ outB n = false) := by
  unfold outB
  simp only [decide_eq_true_iff, decide_eq_false_iff_not]
  omega
theorem ndOut_any (n : Int) (w : World) : Calls Tryd.prog 17 #[.int .i64 n] w fun e w' => e = .returned (.bool (outB n)) ∧ w = w' := by
  have hw := outB_ways n
  generalize outB n = b at *
  rcases hw with ⟨t1, q⟩ | ⟨t1, t2, q⟩ | ⟨t1, t2, q⟩
  all_goals
    subst q
    go_enter Tryd.func17, Tryd.ntmps17
    go_wp2
    go_ret
    exact ⟨rfl, rfl⟩
theorem ndOut_ways (s : Nd) : (outB s.n = true ∧ ndC s = 103) ∨ (outB s.n = false ∧ outB s.h = true ∧ ndC s = 103) ∨ (outB s.n = false ∧ outB s.h = false ∧ ndC s = 0) := by
  unfold ndC
  simp only [outB, decide_eq_true_iff, decide_eq_false_iff_not]
  by_cases h : ndOk s
  · rw [if_pos h]; unfold ndOk at h; omega
  · rw [if_neg h]; unfold ndOk at h; omega
set_option maxHeartbeats 1600000 in
theorem ndValid_any (A : Nat → Addr) (s : Nd) (w : World) (hE : ErrsOn [2] w A) :
    Calls Tryd.prog 8 #[ndA s] w fun e w' => e = .returned (errOf A (ndC s)) ∧ Below w.heap.size w w' := by
  have hb := hidden (below_nd w s)
  have hR : (w.alloc (ndO s)).cell? ⟨0, 0, none⟩ = some (errAt (A 2)) := (hE.below hb.out (Nat.le_refl _)) 2 (by simp)
  have hw := ndOut_ways s
  clear hE
  generalize ndC s = c at *
  obtain ⟨n, h⟩ := s
  simp only at hw
  have h1 := hidden (fun W => ndOut_any n W)
  have h2 := hidden (fun W => ndOut_any h W)
  generalize outB n = b1 at *
  generalize outB h = b2 at *
  rcases hw with ⟨t1, q⟩ | ⟨t1, t2, q⟩ | ⟨t1, t2, q⟩
  all_goals
    subst t1
    try subst t2
    subst q
    go_enter Tryd.func8, Tryd.ntmps8
    go_wp2_with (first
      | (go_at_call 17; (with_reducible refine (h1.out _).mono ?_); rintro e w' ⟨rfl, rfl⟩)
      | (go_at_call 17; (with_reducible refine (h2.out _).mono ?_); rintro e w' ⟨rfl, rfl⟩))
    go_ret
    exact ⟨rfl, hb.out⟩
set_option maxHeartbeats 1600000 in
theorem short_any (A : Nat → Addr) (s : Nd) (w : World) (hE : ErrsOn [2] w A) :
    Calls Tryd.prog 11 #[ndA s] w fun e w' => e = .returned (.int .i64 (shV s)) ∧ Below w.heap.size w w' := by
  have hb := hidden (below_nd w s)
  have hv := hidden (ndValid_any A s (w.alloc (ndO s)) (hE.below hb.out (Nat.le_refl _)))
  clear hE
  by_cases hok : ndOk s
  · rw [show ndC s = 0 from if_pos hok, errOf_fine] at hv
    have e1 := shV_ok hok
    have hq : (s.h < s.n ∧ shV s = s.n - s.h) ∨ (¬ s.h < s.n ∧ shV s = 0) := by omega
    have hx : -9223372036854775808 ≤ s.n - s.h ∧ s.n - s.h ≤ 9223372036854775807 := by unfold ndOk at hok; omega
    have hc := fun w' (h : Below (w.alloc (ndO s)).heap.size (w.alloc (ndO s)) w') => h.block w.heap.size (by simp)
    clear e1 hok
    generalize shV s = r at *
    obtain ⟨n, h⟩ := s
    simp only at hq hx
    replace hc := hidden hc
    go_enter Tryd.func11, Tryd.ntmps11
    go_wp2_with fail
    refine hv.out.mono ?_
    rintro e w1 ⟨rfl, hb1⟩
    have hrow := (hc.out _ hb1).trans (heap_alloc_new w _)
    have c0 : w1.cell? ⟨w.heap.size, 0, none⟩ = some (.int .i64 n) := by rw [cell_of_row _ _ _ _ _ _ hrow]; rfl
    have c1 : w1.cell? ⟨w.heap.size, 1, none⟩ = some (.int .i64 h) := by rw [cell_of_row _ _ _ _ _ _ hrow]; rfl
    have hb2 := hidden (hb.out.trans (hb1.mono hb.out.size))
    clear hb1 hrow hv hc
    have hwr : IntKind.i64.wrap (n - h) = n - h := by rw [IntKind.wrap_i64]; omega
    rcases hq with ⟨t, rfl⟩ | ⟨t, rfl⟩
    all_goals
      go_wp2
      all_goals
        go_ret
        exact ⟨ret_int (by omega), hb2.out⟩
  · rw [show ndC s = 103 from if_neg hok, show errOf A 103 = errAt (A 2) from rfl] at hv
    rw [shV_no hok]
    clear hok
    obtain ⟨n, h⟩ := s
    go_enter Tryd.func11, Tryd.ntmps11
    go_wp2_with fail
    refine hv.out.mono ?_
    rintro e w1 ⟨rfl, hb1⟩
    have hb2 := hidden (hb.out.trans (hb1.mono hb.out.size))
    clear hb1 hv
    go_wp2
    go_ret
    exact ⟨rfl, hb2.out⟩
theorem spare_any (A : Nat → Addr) (s : Nd) (w : World) (hE : ErrsOn [2] w A) :
    Calls Tryd.prog 13 #[ndA s] w fun e w' => e = .returned (.int .i64 (spV s)) ∧ Below w.heap.size w w' := by
  have hb := hidden (below_nd w s)
  have hv := hidden (short_any A ⟨s.h, s.n⟩ (w.alloc (ndO s)) (hE.below hb.out (Nat.le_refl _)))
  clear hE
  unfold spV
  generalize shV ⟨s.h, s.n⟩ = r at *
  obtain ⟨n, h⟩ := s
  go_enter Tryd.func13, Tryd.ntmps13
  go_wp2_with fail
  refine hv.out.mono ?_
  rintro e w1 ⟨rfl, hb1⟩
  have hb2 := hidden (hb.out.trans (hb1.mono hb.out.size))
  clear hb1 hv
  go_wp2
  go_ret
  exact ⟨rfl, hb2.out⟩
theorem bound_any (A : Nat → Addr) (s : Nd) (w : World) (hE : ErrsOn [2] w A) :
    Calls Tryd.prog 12 #[ndA s] w fun e w' => e = .returned (.bool (shV s != 0)) ∧ Below w.heap.size w w' := by
  have hb := hidden (below_nd w s)
  have hv := hidden (short_any A s (w.alloc (ndO s)) (hE.below hb.out (Nat.le_refl _)))
  clear hE
  generalize shV s = r at *
  obtain ⟨n, h⟩ := s
  go_enter Tryd.func12, Tryd.ntmps12
  go_wp2_with fail
  refine hv.out.mono ?_
  rintro e w1 ⟨rfl, hb1⟩
  have hb2 := hidden (hb.out.trans (hb1.mono hb.out.size))
  clear hb1 hv
  go_wp2
  go_ret
  exact ⟨by simp, hb2.out⟩
theorem refShort_any (n h : Int) (w : World) (hx : -9223372036854775808 ≤ n - h ∧ n - h ≤ 9223372036854775807) :
    Calls Tryd.prog 10 #[.int .i64 n, .int .i64 h] w fun e w' => e = .returned (.int .i64 (max (n - h) 0)) ∧ w = w' := by
  have hwr : IntKind.i64.wrap (n - h) = n - h := by rw [IntKind.wrap_i64]; omega
  have hq : (h < n ∧ max (n - h) 0 = n - h) ∨ (¬ h < n ∧ max (n - h) 0 = 0) := by omega
  generalize max (n - h) 0 = r at *
  rcases hq with ⟨t, rfl⟩ | ⟨t, rfl⟩
  all_goals
    go_enter Tryd.func10, Tryd.ntmps10
    go_wp2
    all_goals
      go_ret
      exact ⟨ret_int (by omega), rfl⟩
theorem ndOk_ways (s : Nd) : (decide (0 ≤ s.n) = false ∧ decide (ndOk s) = false) ∨ (decide (0 ≤ s.n) = true ∧ decide (s.n ≤ 1000000000000000) = false ∧ decide (ndOk s) = false) ∨
    (decide (0 ≤ s.n) = true ∧ decide (s.n ≤ 1000000000000000) = true ∧ decide (0 ≤ s.h) = false ∧ decide (ndOk s) = false) ∨ (decide (0 ≤ s.n) = true ∧ decide (s.n ≤ 1000000000000000) = true ∧ decide (0 ≤ s.h) = true ∧ decide (s.h ≤ 1000000000000000) = false ∧ decide (ndOk s) = false) ∨
    (decide (0 ≤ s.n) = true ∧ decide (s.n ≤ 1000000000000000) = true ∧ decide (0 ≤ s.h) = true ∧ decide (s.h ≤ 1000000000000000) = true ∧ decide (ndOk s) = true) := by
  simp only [decide_eq_true_iff, decide_eq_false_iff_not]
  unfold ndOk
  omega
theorem lawValid_any (s : Nd) (w : World) :
    Calls Tryd.prog 7 #[ndA s] w fun e w' => e = .returned (.bool (decide (ndOk s))) ∧ Below w.heap.size w w' := by
  have hb := hidden (below_nd w s)
  have hw := ndOk_ways s
  generalize decide (ndOk s) = r at *
  obtain ⟨n, h⟩ := s
  simp only at hw
  rcases hw with ⟨t1, q⟩ | ⟨t1, t2, q⟩ | ⟨t1, t2, t3, q⟩ | ⟨t1, t2, t3, t4, q⟩ | ⟨t1, t2, t3, t4, q⟩
  all_goals
    subst q
    go_enter Tryd.func7, Tryd.ntmps7
    go_wp2
    go_ret
    exact ⟨rfl, hb.out⟩
abbrev NdC (w : World) (n h : Int) (W : World) : Prop := W.cell? ⟨w.heap.size, 0, none⟩ = some (.int .i64 n) ∧ W.cell? ⟨w.heap.size, 1, none⟩ = some (.int .i64 h)
theorem law17_first (A : Nat → Addr) (w : World) (hE : ErrsOn [2] w A) : Calls Tryd.prog 6 #[] w fun e w' => e = .returned (.bool true) ∧ Below w.heap.size w w' := by
  have hv := hidden (short_any A ⟨5, 3⟩ w hE)
  rw [show shV ⟨5, 3⟩ = 2 by decide] at hv
  clear hE
  go_enter Tryd.func6, Tryd.ntmps6
  go_wp2_with fail
  refine hv.out.mono ?_
  rintro e w1 ⟨rfl, hb1⟩
  replace hb1 := hidden hb1
  clear hv
  go_wp2
  go_ret
  exact ⟨rfl, hb1.out⟩
end Go.Proofs.YtefjemkpbkikbaaDoor
