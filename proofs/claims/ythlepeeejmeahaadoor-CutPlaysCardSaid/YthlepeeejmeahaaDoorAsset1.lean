/-
  Valid, Cash, Live, and the document's own; within, in.
-/
import Derived.Test.YthlepeeejmeahaaDoorAssetMath
import Derived.Test.YthlepeeejmeahaaDoorDay
import Derived.Test.YthlepeeejmeahaaDoorIn10
import Derived.Deep.RegionHeld3
namespace Go.Proofs.YthlepeeejmeahaaDoor
open Go.RowKit
set_option linter.unusedVariables false

theorem asWithin_any (n l h : Int) (w : World) : Calls Tryd.prog 34 #[.int .i64 n, .int .i64 l, .int .i64 h] w fun e w' => e = .returned (.bool (inB n l h)) ∧ w = w' := by
  rcases inB_ways n l h with ⟨t1, t2, q⟩ | ⟨t1, q⟩ | ⟨t1, t2, q⟩
  all_goals
    replace q := hidden q
    go_enter Tryd.func34, Tryd.ntmps34
    go_wp2
    go_ret
    exact ⟨ret_bool q.out.symm, rfl⟩
theorem vC_no {a : As} (h : ¬ AsOk a) : vC a = 103 := if_neg h
/-- the ways through Valid. -/
theorem valid_ways (a : As) :
    (inB a.i 1 32 = false ∧ vC a = 103) ∨
    (inB a.i 1 32 = true ∧ inB a.s 0 32 = false ∧ vC a = 103) ∨
    (inB a.i 1 32 = true ∧ inB a.s 0 32 = true ∧ inB a.c 1 6 = false ∧ vC a = 103) ∨
    (inB a.i 1 32 = true ∧ inB a.s 0 32 = true ∧ inB a.c 1 6 = true ∧ inB a.m 1 6 = false ∧ vC a = 103) ∨
    (inB a.i 1 32 = true ∧ inB a.s 0 32 = true ∧ inB a.c 1 6 = true ∧ inB a.m 1 6 = true ∧ inB a.e 0 40000 = false ∧ vC a = 103) ∨
    (inB a.i 1 32 = true ∧ inB a.s 0 32 = true ∧ inB a.c 1 6 = true ∧ inB a.m 1 6 = true ∧ inB a.e 0 40000 = true ∧ (a.c == 1) = false ∧ vC a = 0) ∨
    (inB a.i 1 32 = true ∧ inB a.s 0 32 = true ∧ inB a.c 1 6 = true ∧ inB a.m 1 6 = true ∧ inB a.e 0 40000 = true ∧ (a.c == 1) = true ∧ (a.s != 0) = true ∧ vC a = 103) ∨
    (inB a.i 1 32 = true ∧ inB a.s 0 32 = true ∧ inB a.c 1 6 = true ∧ inB a.m 1 6 = true ∧ inB a.e 0 40000 = true ∧ (a.c == 1) = true ∧ (a.s != 0) = false ∧ (a.e != 0) = true ∧ vC a = 103) ∨
    (inB a.i 1 32 = true ∧ inB a.s 0 32 = true ∧ inB a.c 1 6 = true ∧ inB a.m 1 6 = true ∧ inB a.e 0 40000 = true ∧ (a.c == 1) = true ∧ (a.s != 0) = false ∧ (a.e != 0) = false ∧ vC a = 0) := by
  cases h1 : inB a.i 1 32
  · exact .inl ⟨rfl, vC_no fun h => inB_no h1 h.1.1⟩
  cases h2 : inB a.s 0 32
  · exact .inr (.inl ⟨rfl, rfl, vC_no fun h => inB_no h2 h.1.2.1⟩)
  cases h3 : inB a.c 1 6
  · exact .inr (.inr (.inl ⟨rfl, rfl, rfl, vC_no fun h => inB_no h3 h.1.2.2.1⟩))
  cases h4 : inB a.m 1 6
  · exact .inr (.inr (.inr (.inl ⟨rfl, rfl, rfl, rfl, vC_no fun h => inB_no h4 h.1.2.2.2.1⟩)))
  cases h5 : inB a.e 0 40000
  · exact .inr (.inr (.inr (.inr (.inl ⟨rfl, rfl, rfl, rfl, rfl, vC_no fun h => inB_no h5 h.1.2.2.2.2⟩))))
  have hin : AsIn a := ⟨inB_yes h1, inB_yes h2, inB_yes h3, inB_yes h4, inB_yes h5⟩
  cases h6 : a.c == 1
  · exact .inr (.inr (.inr (.inr (.inr (.inl ⟨rfl, rfl, rfl, rfl, rfl, rfl, if_pos ⟨hin, fun h => absurd h (by simpa using h6)⟩⟩)))))
  have hc : a.c = 1 := by simpa using h6
  cases h7 : a.s != 0
  · have hs : a.s = 0 := by simpa using h7
    cases h8 : a.e != 0
    · have he : a.e = 0 := by simpa using h8
      exact .inr (.inr (.inr (.inr (.inr (.inr (.inr (.inr ⟨rfl, rfl, rfl, rfl, rfl, rfl, rfl, rfl, if_pos ⟨hin, fun _ => ⟨hs, he⟩⟩⟩)))))))
    · have he : ¬ a.e = 0 := by simpa using h8
      exact .inr (.inr (.inr (.inr (.inr (.inr (.inr (.inl ⟨rfl, rfl, rfl, rfl, rfl, rfl, rfl, rfl, vC_no fun h => he (h.2 hc).2⟩)))))))
  · have hs : ¬ a.s = 0 := by simpa using h7
    exact .inr (.inr (.inr (.inr (.inr (.inr (.inl ⟨rfl, rfl, rfl, rfl, rfl, rfl, rfl, vC_no fun h => hs (h.2 hc).1⟩))))))

abbrev asO (a : As) : Obj := .cells #[.int .i64 a.i, .int .i64 a.s, .int .i64 a.c, .int .i64 a.m, .int .i64 a.e] 24
theorem below_as (w : World) (a : As) : Below w.heap.size w (w.alloc (asO a)) := (Below.refl _ w).alloc (Nat.le_refl _) _
theorem cash_any (a : As) (w : World) : Calls Tryd.prog 35 #[asA a] w fun e w' => e = .returned (.bool (a.c == 1)) ∧ Below w.heap.size w w' := by
  have hb := hidden (below_as w a)
  obtain ⟨i, s, c, m, e⟩ := a
  go_enter Tryd.func35, Tryd.ntmps35
  go_wp2
  go_ret
  exact ⟨rfl, hb.out⟩
theorem live_any (a : As) (t : Int) (w : World) (h1 : -9223372036854775808 ≤ a.e) (h2 : a.e ≤ 9223372036854775807) (h3 : -9223372036854775808 ≤ t) (h4 : t ≤ 9223372036854775807) :
    Calls Tryd.prog 27 #[asA a, .int .i64 t] w fun e w' => e = .returned (.bool (lfB a.e t)) ∧ Below w.heap.size w w' := by
  have hb := hidden (below_as w a)
  obtain ⟨i, s, c, m, e⟩ := a
  have hl := hidden (fun w => left_any e t w h1 h2 h3 h4)
  clear h1 h2 h3 h4
  go_enter Tryd.func27, Tryd.ntmps27
  go_wp2_with (go_at_call 36; refine (hl.out _).mono ?_; rintro e w' ⟨rfl, rfl⟩)
  go_ret
  exact ⟨rfl, hb.out⟩
theorem lfB_ways (e t : Int) : ((e == 0) = true ∧ lfB e t = true) ∨ ((e == 0) = false ∧ decide (t < e) = true ∧ lfB e t = true) ∨ ((e == 0) = false ∧ decide (t < e) = false ∧ lfB e t = false) := by
  unfold lfB
  simp only [decide_eq_true_iff, decide_eq_false_iff_not, beq_iff_eq, beq_eq_false_iff_ne]
  omega
theorem refLive_any (a : As) (t : Int) (w : World) : Calls Tryd.prog 29 #[asA a, .int .i64 t] w fun e w' => e = .returned (.bool (lfB a.e t)) ∧ Below w.heap.size w w' := by
  have hb := hidden (below_as w a)
  obtain ⟨i, s, c, m, e⟩ := a
  rcases lfB_ways e t with ⟨t1, q⟩ | ⟨t1, t2, q⟩ | ⟨t1, t2, q⟩
  all_goals
    replace q := hidden q
    go_enter Tryd.func29, Tryd.ntmps29
    go_wp2
    go_ret
    exact ⟨ret_bool q.out.symm, hb.out⟩
set_option maxHeartbeats 1600000 in
theorem refValid_any (a : As) (w : World) : Calls Tryd.prog 17 #[asA a] w fun e w' => e = .returned (.int .i64 (vC a)) ∧ Below w.heap.size w w' := by
  have hb := hidden (below_as w a)
  have hw := valid_ways a
  generalize hv : vC a = v at *
  clear hv
  obtain ⟨i, s, c, m, e⟩ := a
  rcases hw with ⟨t1, q⟩ | ⟨t1, t2, q⟩ | ⟨t1, t2, t3, q⟩ | ⟨t1, t2, t3, t4, q⟩ | ⟨t1, t2, t3, t4, t5, q⟩ | ⟨t1, t2, t3, t4, t5, t6, q⟩ | ⟨t1, t2, t3, t4, t5, t6, t7, q⟩ | ⟨t1, t2, t3, t4, t5, t6, t7, t8, q⟩ | ⟨t1, t2, t3, t4, t5, t6, t7, t8, q⟩
  all_goals
    subst q
    go_enter Tryd.func17, Tryd.ntmps17
    go_wp2_with (go_at_call 25; refine (in_any _ _ _ _).mono ?_; rintro e w' ⟨rfl, rfl⟩)
    go_ret
    exact ⟨rfl, hb.out⟩
set_option maxHeartbeats 3200000 in
theorem valid_any (A : Nat → Addr) (a : As) (w : World) (hE : ErrsOn [2] w A) : Calls Tryd.prog 26 #[asA a] w fun e w' => e = .returned (errOf A (vC a)) ∧ Below w.heap.size w w' := by
  have hb := hidden (below_as w a)
  have hb2 := hidden (fun w' (h : Below (w.alloc (asO a)).heap.size (w.alloc (asO a)) w') => (below_as w a).trans (h.mono (below_as w a).size))
  have c2 : w.cell? ⟨0, 0, none⟩ = some (errAt (A 2)) := hE 2 (by simp)
  have c3 : (w.alloc (asO a)).cell? ⟨0, 0, none⟩ = some (errAt (A 2)) := by
    rw [World.cell?_alloc_lt _ _ _ (World.block_lt_of_cell? w _ c2)]; exact c2
  have hk := hidden (fun w' (h : Below (w.alloc (asO a)).heap.size (w.alloc (asO a)) w') => show w'.cell? ⟨0, 0, none⟩ = some (errAt (A 2)) by
    rw [World.cell?_of_block (w := w.alloc (asO a)) (h.block _ (World.block_lt_of_cell? _ _ c3))]; exact c3)
  have hw := valid_ways a
  clear hE c2
  have hc := hidden (fun w => cash_any a w)
  generalize hv : vC a = v at *
  clear hv
  obtain ⟨i, s, c, m, e⟩ := a
  rcases hw with ⟨t1, q⟩ | ⟨t1, t2, q⟩ | ⟨t1, t2, t3, q⟩ | ⟨t1, t2, t3, t4, q⟩ | ⟨t1, t2, t3, t4, t5, q⟩ | ⟨t1, t2, t3, t4, t5, t6, q⟩ | ⟨t1, t2, t3, t4, t5, t6, t7, q⟩ | ⟨t1, t2, t3, t4, t5, t6, t7, t8, q⟩ | ⟨t1, t2, t3, t4, t5, t6, t7, t8, q⟩
  iterate 5
    · subst q
      go_enter Tryd.func26, Tryd.ntmps26
      go_wp2_with (go_at_call 34; refine (asWithin_any _ _ _ _).mono ?_; rintro e w' ⟨rfl, rfl⟩)
      go_ret
      exact ⟨rfl, hb.out⟩
  all_goals
    subst q
    go_enter Tryd.func26, Tryd.ntmps26
    go_wp2_with (go_at_call 34; refine (asWithin_any _ _ _ _).mono ?_; rintro e w' ⟨rfl, rfl⟩)
    refine (hc.out _).mono ?_
    rintro r w1 ⟨rfl, h1⟩
    have c4 := hk.out _ h1
    have hb3 := hidden (hb2.out _ h1)
    have k1 : w1.cell? ⟨w.heap.size, 1, none⟩ = some (.int .i64 s) := by
      rw [World.cell?_of_block (w := w.alloc _) (h1.block _ (by simp)), World.cell?_alloc_at _ _ _ _ rfl]; rfl
    have k4 : w1.cell? ⟨w.heap.size, 4, none⟩ = some (.int .i64 e) := by
      rw [World.cell?_of_block (w := w.alloc _) (h1.block _ (by simp)), World.cell?_alloc_at _ _ _ _ rfl]; rfl
    clear h1 hk hb2 hc
    go_wp2_with (fail)
    go_ret
    exact ⟨rfl, hb3.out⟩
end Go.Proofs.YthlepeeejmeahaaDoor
