/-
  FundClamps.
-/
import Derived.Test.YtlanggdmdpjfbaaDoorFundLaw
import Derived.Test.YtlanggdmdpjfbaaDoorLaidOn
namespace Go.Proofs.YtlanggdmdpjfbaaDoor
open Go Go.RowKit
set_option linter.unusedVariables false

theorem bd_ways (n f c : Int) : (decide (0 ≤ n) = false ∧ ¬ bdOk n f c) ∨ (decide (0 ≤ n) = true ∧ decide (n ≤ 1000000000000000) = false ∧ ¬ bdOk n f c) ∨ (decide (0 ≤ n) = true ∧ decide (n ≤ 1000000000000000) = true ∧ decide (0 ≤ f) = false ∧ ¬ bdOk n f c) ∨
    (decide (0 ≤ n) = true ∧ decide (n ≤ 1000000000000000) = true ∧ decide (0 ≤ f) = true ∧ decide (f ≤ c) = false ∧ ¬ bdOk n f c) ∨
    (decide (0 ≤ n) = true ∧ decide (n ≤ 1000000000000000) = true ∧ decide (0 ≤ f) = true ∧ decide (f ≤ c) = true ∧ decide (c ≤ 1000000000000000) = false ∧ ¬ bdOk n f c) ∨
    (decide (0 ≤ n) = true ∧ decide (n ≤ 1000000000000000) = true ∧ decide (0 ≤ f) = true ∧ decide (f ≤ c) = true ∧ decide (c ≤ 1000000000000000) = true ∧ bdOk n f c) := by
  simp only [decide_eq_true_iff, decide_eq_false_iff_not]
  unfold bdOk am23
  omega
set_option maxRecDepth 100000 in
set_option maxHeartbeats 3200000 in
theorem walk_fundClamps (n f c : Int) (A : Nat → Addr) (w : World) (n0 : -9223372036854775808 ≤ n) (n1 : n ≤ 9223372036854775807) (f0 : -9223372036854775808 ≤ f) (f1 : f ≤ 9223372036854775807) (c0 : -9223372036854775808 ≤ c) (c1 : c ≤ 9223372036854775807) (hS : Sents w A) :
    Calls Tryd.prog 5 #[.int .i64 n, .int .i64 f, .int .i64 c] w fun e w' => e = .returned (.bool true) ∧ Below w.heap.size w w' := by
  have hF := hidden (law24_first A w (hS.on [2, 3, 4, 5] (by decide)))
  have hC := hidden (fun W (hb : Below w.heap.size w W) => clamp_any24 A n f c W ((hS.on [2] (by decide)).below hb (Nat.le_refl _)))
  have hI := hidden (fun W (hb : Below w.heap.size w W) => is_self A 103 W (hS.below hb (Nat.le_refl _)) (.inr ⟨by decide, by decide⟩))
  clear n0 n1 f0 f1 c0 c1 hS
  rcases bd_ways n f c with ⟨t1, q⟩ | ⟨t1, t2, q⟩ | ⟨t1, t2, t3, q⟩ | ⟨t1, t2, t3, t4, q⟩ | ⟨t1, t2, t3, t4, t5, q⟩ | ⟨t1, t2, t3, t4, t5, q⟩
  iterate 5
    · rw [show clC n f c = 103 from if_neg q, show clV n f c = 0 from if_neg q] at hC
      clear q
      go_enter Tryd.func5, Tryd.ntmps5
      go_wp2_with fail
      refine hF.out.mono ?_
      rintro e w1 ⟨rfl, hb⟩
      replace hb := hidden hb
      clear hF
      go_wp2_with fail
      refine (hC.out _ hb.out).mono ?_
      rintro e w2 ⟨rfl, k, rfl⟩
      replace hb := hidden (below_drewN (m := k) hb.out)
      clear hC
      go_wp2_with fail
      refine (hI.out _ hb.out).mono ?_
      rintro e w3 ⟨rfl, hb3⟩
      replace hb := hidden (hb.out.trans (hb3.mono hb.out.size))
      clear hI hb3
      go_wp2
      go_ret
      exact ⟨rfl, hb.out⟩
  · rw [show clC n f c = 0 from if_pos q, errOf_fine] at hC
    have q2 : clV n f c = (if n < f then f else if c < n then c else n) := if_pos q
    rcases cl_parts q.2.2.2 q2 with ⟨p1, p2, p3⟩ | ⟨p1, p2, p3⟩ | ⟨p1, p2, p3⟩
    all_goals
      rw [p3] at hC
      clear p3 q q2 hI
    · have r1 : decide (n < f) = true := decide_eq_true p1
      clear p1 p2
      go_enter Tryd.func5, Tryd.ntmps5
      go_wp2_with fail
      refine hF.out.mono ?_
      rintro e w1 ⟨rfl, hb⟩
      replace hb := hidden hb
      clear hF
      go_wp2_with fail
      refine (hC.out _ hb.out).mono ?_
      rintro e w2 ⟨rfl, k, rfl⟩
      replace hb := hidden (below_drewN (m := k) hb.out)
      clear hC
      go_wp2
      go_ret
      exact ⟨rfl, hb.out⟩
    · have r1 : decide (n < f) = false := decide_eq_false p1
      have r2 : decide (c < n) = true := decide_eq_true p2
      clear p1 p2
      go_enter Tryd.func5, Tryd.ntmps5
      go_wp2_with fail
      refine hF.out.mono ?_
      rintro e w1 ⟨rfl, hb⟩
      replace hb := hidden hb
      clear hF
      go_wp2_with fail
      refine (hC.out _ hb.out).mono ?_
      rintro e w2 ⟨rfl, k, rfl⟩
      replace hb := hidden (below_drewN (m := k) hb.out)
      clear hC
      go_wp2
      go_ret
      exact ⟨rfl, hb.out⟩
    · have r1 : decide (n < f) = false := decide_eq_false p1
      have r2 : decide (c < n) = false := decide_eq_false p2
      have r3 : decide (f ≤ n) = true := decide_eq_true (by omega)
      have r4 : decide (n ≤ c) = true := decide_eq_true (by omega)
      clear p1 p2
      go_enter Tryd.func5, Tryd.ntmps5
      go_wp2_with fail
      refine hF.out.mono ?_
      rintro e w1 ⟨rfl, hb⟩
      replace hb := hidden hb
      clear hF
      go_wp2_with fail
      refine (hC.out _ hb.out).mono ?_
      rintro e w2 ⟨rfl, k, rfl⟩
      replace hb := hidden (below_drewN (m := k) hb.out)
      clear hC
      go_wp2
      go_ret
      exact ⟨rfl, hb.out⟩
end Go.Proofs.YtlanggdmdpjfbaaDoor
