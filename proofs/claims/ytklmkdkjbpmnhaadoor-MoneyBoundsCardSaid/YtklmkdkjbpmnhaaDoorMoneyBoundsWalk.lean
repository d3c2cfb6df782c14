import Derived.Test.YtklmkdkjbpmnhaaDoorMoneyLaw
namespace Go.Proofs.YtklmkdkjbpmnhaaDoor
open Go.RowKit

theorem bounds_over {q p K : Int} (hp : 1000 ≤ p) (hK : 1000000000000001 / p = K) (h : K * 10000 + 10000 < q) : 1000000000000000 < q * p / 10000 := by
  have h1 : 1000000000000001 < (K + 1) * p := by
    have := Int.lt_ediv_add_one_mul_self 1000000000000001 (show 0 < p by omega)
    rwa [hK] at this
  have h2 : (K + 1) * 10000 ≤ q := by omega
  have h3 := Int.mul_le_mul_of_nonneg_right h2 (show 0 ≤ p by omega)
  have h4 : (K + 1) * 10000 * p = (K + 1) * p * 10000 := by grind
  omega

set_option maxHeartbeats 4000000 in
theorem walk_moneyBounds (q p : Int) (A : Nat → Addr) (w : World) (hq : -9223372036854775808 ≤ q) (hq2 : q ≤ 9223372036854775807) (hp : -9223372036854775808 ≤ p) (hp2 : p ≤ 9223372036854775807) (hS : Sents w A) :
    Calls Tryd.prog 7 #[.int .i64 q, .int .i64 p] w fun e w' => e = .returned (.bool true) ∧ Below w.heap.size w w' := by
  have hB := hidden (Below.refl w.heap.size w)
  have hE := hidden (fun w' (hb : Below w.heap.size w w') => (hS.below hb (Nat.le_refl _)).on [2, 3] (by decide))
  have hW := hidden (fun w' (hb : Below w.heap.size w w') => worth_any A q p w' ((hS.below hb (Nat.le_refl _)).on [2, 3] (by decide)) hq hq2 hp hp2)
  have hR := hidden (fun w' (hb : Below w.heap.size w w') => is_any A 103 103 w' (hS.below hb (Nat.le_refl _)) (.inr (by decide)))
  have hO : Hid (∀ w', Below w.heap.size w w' → Calls Tryd.prog 11 #[errAt (A 3), .int .i64 104] w' fun e w2 => e = .returned (.bool true) ∧ Below w'.heap.size w' w2) := hidden (fun w' hb => is_any A 104 104 w' (hS.below hb (Nat.le_refl _)) (.inr (by decide)))
  clear hS
  by_cases hin : 0 ≤ q ∧ q ≤ 1000000000000 ∧ 0 ≤ p ∧ p ≤ 1000000000
  · obtain ⟨q0, q1, p0, p1⟩ := hin
    have e1 : (win q 1000000000000 && win p 1000000000) = true := by rw [win_mk q0 q1, win_mk p0 p1]; rfl
    have hm := mul_le_half q0 p0 q1 p1
    rw [e1] at hW
    clear e1
    by_cases hX : q * p / 10000 ≤ 1000000000000000
    · obtain ⟨e2, e3⟩ := cap_fine (a := q) (b := p) (up := false) (show (0 : Int) < 10000 by decide) (by rw [divq_down]; omega) hX
      rw [e2, e3, divq_down, errOf_fine] at hW
      have g1 : p = 10000 → q * p / 10000 = q := fun h => by subst h; omega
      have g2 : p = 0 → q * p / 10000 = 0 := fun h => by subst h; simp
      have g3 : ∀ K, 1000 ≤ p → 1000000000000001 / p = K → ¬ K * 10000 + 10000 < q := fun K h1 h2 h3 => by have := bounds_over h1 h2 h3; omega
      clear e2 e3 hm
      generalize q * p / 10000 = X at *
      by_cases hp1 : 1000 ≤ p
      · obtain ⟨K, hK⟩ : ∃ K, 1000000000000001 / p = K := ⟨_, rfl⟩
        have g4 := g3 K hp1 hK
        have hK0 : 0 ≤ K := by rw [← hK]; exact Int.ediv_nonneg (by decide) (by omega)
        have hK1 : K ≤ 1000000000001 := by
          have h1 : K * p ≤ 1000000000000001 := by rw [← hK]; exact Int.ediv_mul_le _ (by omega)
          have h2 := Int.mul_le_mul_of_nonneg_left hp1 hK0
          omega
        have hKt : Int.tdiv 1000000000000001 p = K := by rw [Int.tdiv_eq_ediv_of_nonneg (by decide), hK]
        have hpz : (p == 0) = false := by rw [beq_eq_false_iff_ne]; omega
        have g5 : decide (K * 10000 + 10000 < q) = false := decide_eq_false g4
        have hpz2 : (p != 0) = true := by rw [bne_iff_ne]; omega
        clear g2 g3 g4
        by_cases hpe : p = 10000
        · have hpe1 : (p != 10000) = false := by rw [hpe]; rfl
          have hXq := g1 hpe
          have hXq2 : (X == q) = true := by rw [beq_iff_eq]; exact hXq
          clear g1 hpe hXq
          go_enter Tryd.func7, Tryd.ntmps7
          go_wp2_with (first
            | (go_at_call 8; refine (law3_first A _ (hE.out _ hB.out)).mono ?_; rintro e w' ⟨rfl, k, hk⟩; replace hB := hidden (below_drew_eq hB.out hk); clear hk)
            | (go_at_call 9; refine (hW.out _ hB.out).mono ?_; rintro e w' ⟨rfl, k, hk⟩; replace hB := hidden (below_drew_eq hB.out hk); clear hk))
          go_ret
          exact ⟨rfl, hB.out⟩
        · have hpe1 : (p != 10000) = true := by rw [bne_iff_ne]; exact hpe
          clear g1 hpe
          go_enter Tryd.func7, Tryd.ntmps7
          go_wp2_with (first
            | (go_at_call 8; refine (law3_first A _ (hE.out _ hB.out)).mono ?_; rintro e w' ⟨rfl, k, hk⟩; replace hB := hidden (below_drew_eq hB.out hk); clear hk)
            | (go_at_call 9; refine (hW.out _ hB.out).mono ?_; rintro e w' ⟨rfl, k, hk⟩; replace hB := hidden (below_drew_eq hB.out hk); clear hk))
          go_ret
          exact ⟨rfl, hB.out⟩
      · have hpe1 : (p != 10000) = true := by rw [bne_iff_ne]; omega
        clear g1 g3
        by_cases hpe : p = 0
        · have hX0 := g2 hpe
          subst hX0
          subst hpe
          clear g2
          go_enter Tryd.func7, Tryd.ntmps7
          go_wp2_with (first
            | (go_at_call 8; refine (law3_first A _ (hE.out _ hB.out)).mono ?_; rintro e w' ⟨rfl, k, hk⟩; replace hB := hidden (below_drew_eq hB.out hk); clear hk)
            | (go_at_call 9; refine (hW.out _ hB.out).mono ?_; rintro e w' ⟨rfl, k, hk⟩; replace hB := hidden (below_drew_eq hB.out hk); clear hk))
          go_ret
          exact ⟨rfl, hB.out⟩
        · have hpz2 : (p != 0) = true := by rw [bne_iff_ne]; exact hpe
          clear g2 hpe
          go_enter Tryd.func7, Tryd.ntmps7
          go_wp2_with (first
            | (go_at_call 8; refine (law3_first A _ (hE.out _ hB.out)).mono ?_; rintro e w' ⟨rfl, k, hk⟩; replace hB := hidden (below_drew_eq hB.out hk); clear hk)
            | (go_at_call 9; refine (hW.out _ hB.out).mono ?_; rintro e w' ⟨rfl, k, hk⟩; replace hB := hidden (below_drew_eq hB.out hk); clear hk))
          go_ret
          exact ⟨rfl, hB.out⟩
    · obtain ⟨e2, e3⟩ := cap_over (a := q) (b := p) (c := 10000) (up := false) (by rw [divq_down]; omega)
      rw [e2, e3, show errOf A 104 = errAt (A 3) from rfl] at hW
      have hp3 : 1000 < p := by
        have := Int.mul_le_mul_of_nonneg_right q1 p0
        omega
      obtain ⟨K, hK⟩ : ∃ K, 1000000000000001 / p = K := ⟨_, rfl⟩
      have hK0 : 0 ≤ K := by rw [← hK]; exact Int.ediv_nonneg (by decide) (by omega)
      have hK1 : K ≤ 1000000000001 := by
        have h1 : K * p ≤ 1000000000000001 := by rw [← hK]; exact Int.ediv_mul_le _ (by omega)
        have h2 := Int.mul_le_mul_of_nonneg_left (show 1000 ≤ p by omega) hK0
        omega
      have hKt : Int.tdiv 1000000000000001 p = K := by rw [Int.tdiv_eq_ediv_of_nonneg (by decide), hK]
      have hpz : (p == 0) = false := by rw [beq_eq_false_iff_ne]; omega
      clear e2 e3 hm hX
      cases hov : decide (K * 10000 + 10000 < q)
      all_goals
        go_enter Tryd.func7, Tryd.ntmps7
        go_wp2_with (first
          | (go_at_call 8; refine (law3_first A _ (hE.out _ hB.out)).mono ?_; rintro e w' ⟨rfl, k, hk⟩; replace hB := hidden (below_drew_eq hB.out hk); clear hk)
          | (go_at_call 9; refine (hW.out _ hB.out).mono ?_; rintro e w' ⟨rfl, k, hk⟩; replace hB := hidden (below_drew_eq hB.out hk); clear hk)
          | (go_at_call 11; refine (hO.out _ hB.out).mono ?_; rintro e w' ⟨rfl, hbw⟩; replace hB := hidden (hB.out.trans (hbw.mono hB.out.size)); clear hbw))
        go_ret
        exact ⟨rfl, hB.out⟩
  · have e1 : (win q 1000000000000 && win p 1000000000) = false := by unfold win; simp only [Bool.and_eq_false_iff, decide_eq_false_iff_not]; omega
    rw [e1] at hW
    have e2 : capV false q p 10000 false = 0 := rfl
    have e3 : capC false q p 10000 false = 103 := rfl
    rw [e2, e3] at hW
    have main : q < 0 ∨ (0 ≤ q ∧ 1000000000000 < q) ∨ (0 ≤ q ∧ q ≤ 1000000000000 ∧ p < 0) ∨ (0 ≤ q ∧ q ≤ 1000000000000 ∧ 0 ≤ p ∧ 1000000000 < p) := by omega
    clear hin e1 e2 e3
    generalize errOf A 103 = x at *
    have main2 : decide (0 ≤ q) = false ∨ (0 ≤ q ∧ decide (q ≤ 1000000000000) = false) ∨ (0 ≤ q ∧ q ≤ 1000000000000 ∧ decide (0 ≤ p) = false) ∨ (0 ≤ q ∧ q ≤ 1000000000000 ∧ 0 ≤ p ∧ decide (p ≤ 1000000000) = false) := by
      rcases main with h1 | ⟨h1, h2⟩ | ⟨h1, h2, h3⟩ | ⟨h1, h2, h3, h4⟩
      · exact .inl (decide_eq_false (by omega))
      · exact .inr (.inl ⟨h1, decide_eq_false (by omega)⟩)
      · exact .inr (.inr (.inl ⟨h1, h2, decide_eq_false (by omega)⟩))
      · exact .inr (.inr (.inr ⟨h1, h2, h3, decide_eq_false (by omega)⟩))
    clear main
    rcases main2 with h1 | ⟨h1, h2⟩ | ⟨h1, h2, h3⟩ | ⟨h1, h2, h3, h4⟩
    all_goals
      go_enter Tryd.func7, Tryd.ntmps7
      go_wp2_with (first
        | (go_at_call 8; refine (law3_first A _ (hE.out _ hB.out)).mono ?_; rintro e w' ⟨rfl, k, hk⟩; replace hB := hidden (below_drew_eq hB.out hk); clear hk)
        | (go_at_call 9; refine (hW.out _ hB.out).mono ?_; rintro e w' ⟨rfl, k, hk⟩; replace hB := hidden (below_drew_eq hB.out hk); clear hk)
        | (go_at_call 11; refine (hR.out _ hB.out).mono ?_; rintro e w' ⟨rfl, hbw⟩; replace hB := hidden (hB.out.trans (hbw.mono hB.out.size)); clear hbw))
      go_ret
      exact ⟨rfl, hB.out⟩
end Go.Proofs.YtklmkdkjbpmnhaaDoor
