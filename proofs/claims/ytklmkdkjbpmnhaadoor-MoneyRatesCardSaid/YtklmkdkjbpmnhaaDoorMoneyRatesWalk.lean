import Derived.Test.YtklmkdkjbpmnhaaDoorMoneyLaw
import Derived.Test.YtklmkdkjbpmnhaaDoorLaidOn
namespace Go.Proofs.YtklmkdkjbpmnhaaDoor
open Go.RowKit

theorem base_fine (A : Nat → Addr) (v r x : Int) (w : World) (hE : ErrsOn [2, 3] w A) (v0 : 0 ≤ v) (v1 : v ≤ 1000000000000000) (r0 : 0 ≤ r) (r1 : r ≤ 1000000000) (hx : v * r / 1000000 = x) (h0 : 0 ≤ x) (h1 : x ≤ 1000000000000000) :
    Calls Tryd.prog 12 #[.int .i64 v, .int .i64 r] w fun e w' => e = .returned (.tuple #[.int .i64 x, .nilIface]) ∧ ∃ n, w' = w.drewN n := by
  have h := base_any A v r w hE (by omega) (by omega) (by omega) (by omega)
  obtain ⟨e1, e2⟩ := fine_of (A := A) (i := win v 1000000000000000 && win r 1000000000) (up := false) (by rw [win_mk v0 v1, win_mk r0 r1]; rfl) (show (0 : Int) < 1000000 by decide) ((divq_down v r 1000000).trans hx) (by omega) (by omega)
  rw [e1, e2] at h
  exact h

set_option maxHeartbeats 4000000 in
theorem walk_moneyRates (n a b : Int) (A : Nat → Addr) (w : World) (hn : -9223372036854775808 ≤ n) (hn2 : n ≤ 9223372036854775807) (ha : -9223372036854775808 ≤ a) (ha2 : a ≤ 9223372036854775807) (hb : -9223372036854775808 ≤ b) (hb2 : b ≤ 9223372036854775807) (hS : SentsOn [2, 3] w A) :
    Calls Tryd.prog 5 #[.int .i64 n, .int .i64 a, .int .i64 b] w fun e w' => e = .returned (.bool true) ∧ Below w.heap.size w w' := by
  have hE := hS.on
  clear hS
  obtain ⟨v0, v1⟩ := amtOf_bd n
  have hv := hidden (fun w => amtOf_any n w hn hn2)
  have hx := hidden (fun w => number_any a 1000000 w ha ha2 (by decide) (by decide))
  have hy := hidden (fun w => number_any b 1000 w hb hb2 (by decide) (by decide))
  have x0 : 0 ≤ a % 1000000 := by omega
  have x1 : a % 1000000 ≤ 999999 := by omega
  have y0 : 0 ≤ b % 1000 := by omega
  have y1 : b % 1000 ≤ 999 := by omega
  generalize amtOf n = V at *
  generalize a % 1000000 = x at *
  generalize b % 1000 = y at *
  obtain ⟨v, hV⟩ : ∃ v, V / 4000 = v := ⟨_, rfl⟩
  have w0 : 0 ≤ v := by omega
  have w1 : v ≤ 250000000000 := by omega
  have q1 := mul_le_half w0 x0 w1 x1
  have q2 := mul_le_half w0 y0 w1 y1
  obtain ⟨P, hP⟩ : ∃ z, v * x / 1000000 = z := ⟨_, rfl⟩
  obtain ⟨Q, hQ⟩ : ∃ z, v * (x + y) / 1000000 = z := ⟨_, rfl⟩
  obtain ⟨T, hT⟩ : ∃ z, (2 * v) * x / 1000000 = z := ⟨_, rfl⟩
  have g0 : v * x ≤ v * 1000000 := Int.mul_le_mul_of_nonneg_left (by omega) w0
  have g1 : v * 1000000 / 1000000 = v := by omega
  have g2 : P ≤ Q := by rw [Int.mul_add] at hQ; omega
  have g3 : T = 2 * P ∨ T = 2 * P + 1 := by rw [Int.mul_assoc] at hT; omega
  have g4 : 0 ≤ P ∧ P ≤ v := by omega
  have g5 : Q ≤ 1000000000000 := by rw [Int.mul_add] at hQ; omega
  have l1 := hidden (fun k => base_fine A v 1000000 v (w.drewN k) (hE.drewN k) w0 (by omega) (by decide) (by decide) g1 (by omega) (by omega))
  have l2 := hidden (fun k => base_fine A v x P (w.drewN k) (hE.drewN k) w0 (by omega) x0 (by omega) hP (by omega) (by omega))
  have l3 := hidden (fun k => base_fine A v (x + y) Q (w.drewN k) (hE.drewN k) w0 (by omega) (by omega) (by omega) hQ (by omega) (by omega))
  have l4 := hidden (fun k => base_fine A (2 * v) x T (w.drewN k) (hE.drewN k) (by omega) (by omega) x0 (by omega) hT (by omega) (by omega))
  have hF := hidden (law3_first A w hE)
  clear q1 q2 g0 g1 hP hQ hT hE hn hn2 ha ha2 hb hb2
  have main : T = 2 * P ∨ (T = 2 * P + 1 ∧ ¬ T = 2 * P) := by omega
  clear g3
  rcases main with g3 | ⟨g3, g6⟩
  · have g7 : (T == 2 * P) = true := by rw [beq_iff_eq]; exact g3
    clear g3
    go_enter Tryd.func5, Tryd.ntmps5
    go_wp2_with (first
      | (go_at_call 8; refine hF.out.mono ?_; rintro e w' ⟨rfl, k, rfl⟩)
      | (go_at_call 22; refine (hv.out _).mono ?_; rintro e w' ⟨rfl, rfl⟩)
      | (go_at_call 23; with_reducible refine (hx.out _).mono ?_; rintro e w' ⟨rfl, rfl⟩)
      | (go_at_call 23; with_reducible refine (hy.out _).mono ?_; rintro e w' ⟨rfl, rfl⟩)
      | (go_at_call 12; with_reducible refine (l1.out _).mono ?_; rintro e w' ⟨rfl, k, rfl⟩)
      | (go_at_call 12; with_reducible refine (l2.out _).mono ?_; rintro e w' ⟨rfl, k, rfl⟩)
      | (go_at_call 12; with_reducible refine (l3.out _).mono ?_; rintro e w' ⟨rfl, k, rfl⟩)
      | (go_at_call 12; with_reducible refine (l4.out _).mono ?_; rintro e w' ⟨rfl, k, rfl⟩))
    go_ret
    exact ⟨rfl, below_drewN (Below.refl _ _)⟩
  · have g7 : (T == 2 * P) = false := by rw [beq_eq_false_iff_ne]; exact g6
    have g8 : (T == 2 * P + 1) = true := by rw [beq_iff_eq]; exact g3
    clear g3 g6
    go_enter Tryd.func5, Tryd.ntmps5
    go_wp2_with (first
      | (go_at_call 8; refine hF.out.mono ?_; rintro e w' ⟨rfl, k, rfl⟩)
      | (go_at_call 22; refine (hv.out _).mono ?_; rintro e w' ⟨rfl, rfl⟩)
      | (go_at_call 23; with_reducible refine (hx.out _).mono ?_; rintro e w' ⟨rfl, rfl⟩)
      | (go_at_call 23; with_reducible refine (hy.out _).mono ?_; rintro e w' ⟨rfl, rfl⟩)
      | (go_at_call 12; with_reducible refine (l1.out _).mono ?_; rintro e w' ⟨rfl, k, rfl⟩)
      | (go_at_call 12; with_reducible refine (l2.out _).mono ?_; rintro e w' ⟨rfl, k, rfl⟩)
      | (go_at_call 12; with_reducible refine (l3.out _).mono ?_; rintro e w' ⟨rfl, k, rfl⟩)
      | (go_at_call 12; with_reducible refine (l4.out _).mono ?_; rintro e w' ⟨rfl, k, rfl⟩))
    go_ret
    exact ⟨rfl, below_drewN (Below.refl _ _)⟩
end Go.Proofs.YtklmkdkjbpmnhaaDoor
