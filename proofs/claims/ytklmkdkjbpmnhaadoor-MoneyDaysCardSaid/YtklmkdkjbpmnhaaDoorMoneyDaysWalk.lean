import Derived.Test.YtklmkdkjbpmnhaaDoorMoneyLaw
import Derived.Test.YtklmkdkjbpmnhaaDoorLaidOn
namespace Go.Proofs.YtklmkdkjbpmnhaaDoor
open Go.RowKit

theorem interest_fine (A : Nat → Addr) (v r d x : Int) (w : World) (hE : ErrsOn [2, 3] w A) (v0 : 0 ≤ v) (v1 : v ≤ 1000000000000000) (r0 : 0 ≤ r) (r1 : r ≤ 10000) (d0 : 0 ≤ d) (d1 : d ≤ 40000) (hx : v * (r * d) / 3600000 = x) (h0 : 0 ≤ x) (h1 : x ≤ 1000000000000000) :
    Calls Tryd.prog 18 #[.int .i64 v, .int .i64 r, .int .i64 d] w fun e w' => e = .returned (.tuple #[.int .i64 x, .nilIface]) ∧ ∃ n, w' = w.drewN n := by
  have h := interest_any A v r d w hE (by omega) (by omega) (by omega) (by omega) (by omega) (by omega)
  obtain ⟨e1, e2⟩ := fine_of (A := A) (i := win v 1000000000000000 && win r 10000 && win d 40000) (up := false) (by rw [win_mk v0 v1, win_mk r0 r1, win_mk d0 d1]; rfl) (show (0 : Int) < 3600000 by decide) ((divq_down v (r * d) 3600000).trans hx) (by omega) (by omega)
  rw [e1, e2] at h
  exact h

set_option maxHeartbeats 4000000 in
theorem walk_moneyDays (n bp a b : Int) (A : Nat → Addr) (w : World) (hn : -9223372036854775808 ≤ n) (hn2 : n ≤ 9223372036854775807) (hr : -9223372036854775808 ≤ bp) (hr2 : bp ≤ 9223372036854775807) (ha : -9223372036854775808 ≤ a) (ha2 : a ≤ 9223372036854775807) (hb : -9223372036854775808 ≤ b) (hb2 : b ≤ 9223372036854775807) (hS : SentsOn [2, 3] w A) :
    Calls Tryd.prog 6 #[.int .i64 n, .int .i64 bp, .int .i64 a, .int .i64 b] w fun e w' => e = .returned (.bool true) ∧ Below w.heap.size w w' := by
  have hE := hS.on
  clear hS
  obtain ⟨v0, v1⟩ := amtOf_bd n
  have hv := hidden (fun w => amtOf_any n w hn hn2)
  have hz := hidden (fun w => number_any bp 10001 w hr hr2 (by decide) (by decide))
  have hx := hidden (fun w => number_any a 20000 w ha ha2 (by decide) (by decide))
  have hy := hidden (fun w => number_any b 20000 w hb hb2 (by decide) (by decide))
  have r0 : 0 ≤ bp % 10001 := by omega
  have r1 : bp % 10001 ≤ 10000 := by omega
  have x0 : 0 ≤ a % 20000 := by omega
  have x1 : a % 20000 ≤ 19999 := by omega
  have y0 : 0 ≤ b % 20000 := by omega
  have y1 : b % 20000 ≤ 19999 := by omega
  generalize amtOf n = V at *
  generalize bp % 10001 = r at *
  generalize a % 20000 = x at *
  generalize b % 20000 = y at *
  obtain ⟨v, hV⟩ : ∃ v, V / 2000 = v := ⟨_, rfl⟩
  have w0 : 0 ≤ v := by omega
  have w1 : v ≤ 500000000000 := by omega
  have q1 := mul_le_half r0 x0 r1 x1
  have q2 := mul_le_half r0 y0 r1 y1
  have q3 := mul_le_half w0 q1.1 w1 q1.2
  have q4 := mul_le_half w0 q2.1 w1 q2.2
  obtain ⟨P, hP⟩ : ∃ z, v * (r * x) / 3600000 = z := ⟨_, rfl⟩
  obtain ⟨Q, hQ⟩ : ∃ z, v * (r * y) / 3600000 = z := ⟨_, rfl⟩
  obtain ⟨T, hT⟩ : ∃ z, v * (r * (x + y)) / 3600000 = z := ⟨_, rfl⟩
  have g1 : v * (10000 * 360) / 3600000 = v := by omega
  have g2 : v * (r * 0) / 3600000 = 0 := by simp
  have g3 : T = P + Q ∨ T = P + Q + 1 := by rw [Int.mul_add, Int.mul_add] at hT; omega
  have g4 : 0 ≤ P ∧ P ≤ 100000000000000 := by omega
  have g5 : 0 ≤ Q ∧ Q ≤ 100000000000000 := by omega
  have l1 := hidden (fun k => interest_fine A v r x P (w.drewN k) (hE.drewN k) w0 (by omega) r0 r1 x0 (by omega) hP (by omega) (by omega))
  have l2 := hidden (fun k => interest_fine A v r y Q (w.drewN k) (hE.drewN k) w0 (by omega) r0 r1 y0 (by omega) hQ (by omega) (by omega))
  have l3 := hidden (fun k => interest_fine A v r (x + y) T (w.drewN k) (hE.drewN k) w0 (by omega) r0 r1 (by omega) (by omega) hT (by omega) (by omega))
  have l4 := hidden (fun k => interest_fine A v r 0 0 (w.drewN k) (hE.drewN k) w0 (by omega) r0 r1 (by decide) (by decide) g2 (by omega) (by omega))
  have l5 := hidden (fun k => interest_fine A v 10000 360 v (w.drewN k) (hE.drewN k) w0 (by omega) (by decide) (by decide) (by decide) (by decide) g1 (by omega) (by omega))
  have hF := hidden (law3_first A w hE)
  clear q1 q2 q3 q4 g1 g2 hP hQ hT hE hn hn2 ha ha2 hb hb2 hr hr2
  have main : T = P + Q ∨ (T = P + Q + 1 ∧ ¬ T = P + Q) := by omega
  clear g3
  rcases main with g3 | ⟨g3, g6⟩
  · have g7 : (T == P + Q) = true := by rw [beq_iff_eq]; exact g3
    clear g3
    go_enter Tryd.func6, Tryd.ntmps6
    go_wp2_with (first
      | (go_at_call 8; refine hF.out.mono ?_; rintro e w' ⟨rfl, k, rfl⟩)
      | (go_at_call 22; refine (hv.out _).mono ?_; rintro e w' ⟨rfl, rfl⟩)
      | (go_at_call 23; with_reducible refine (hz.out _).mono ?_; rintro e w' ⟨rfl, rfl⟩)
      | (go_at_call 23; with_reducible refine (hx.out _).mono ?_; rintro e w' ⟨rfl, rfl⟩)
      | (go_at_call 23; with_reducible refine (hy.out _).mono ?_; rintro e w' ⟨rfl, rfl⟩)
      | (go_at_call 18; with_reducible refine (l1.out _).mono ?_; rintro e w' ⟨rfl, k, rfl⟩)
      | (go_at_call 18; with_reducible refine (l2.out _).mono ?_; rintro e w' ⟨rfl, k, rfl⟩)
      | (go_at_call 18; with_reducible refine (l3.out _).mono ?_; rintro e w' ⟨rfl, k, rfl⟩)
      | (go_at_call 18; with_reducible refine (l4.out _).mono ?_; rintro e w' ⟨rfl, k, rfl⟩)
      | (go_at_call 18; with_reducible refine (l5.out _).mono ?_; rintro e w' ⟨rfl, k, rfl⟩))
    go_ret
    exact ⟨rfl, below_drewN (Below.refl _ _)⟩
  · have g7 : (T == P + Q) = false := by rw [beq_eq_false_iff_ne]; exact g6
    have g8 : (T == P + Q + 1) = true := by rw [beq_iff_eq]; exact g3
    clear g3 g6
    go_enter Tryd.func6, Tryd.ntmps6
    go_wp2_with (first
      | (go_at_call 8; refine hF.out.mono ?_; rintro e w' ⟨rfl, k, rfl⟩)
      | (go_at_call 22; refine (hv.out _).mono ?_; rintro e w' ⟨rfl, rfl⟩)
      | (go_at_call 23; with_reducible refine (hz.out _).mono ?_; rintro e w' ⟨rfl, rfl⟩)
      | (go_at_call 23; with_reducible refine (hx.out _).mono ?_; rintro e w' ⟨rfl, rfl⟩)
      | (go_at_call 23; with_reducible refine (hy.out _).mono ?_; rintro e w' ⟨rfl, rfl⟩)
      | (go_at_call 18; with_reducible refine (l1.out _).mono ?_; rintro e w' ⟨rfl, k, rfl⟩)
      | (go_at_call 18; with_reducible refine (l2.out _).mono ?_; rintro e w' ⟨rfl, k, rfl⟩)
      | (go_at_call 18; with_reducible refine (l3.out _).mono ?_; rintro e w' ⟨rfl, k, rfl⟩)
      | (go_at_call 18; with_reducible refine (l4.out _).mono ?_; rintro e w' ⟨rfl, k, rfl⟩)
      | (go_at_call 18; with_reducible refine (l5.out _).mono ?_; rintro e w' ⟨rfl, k, rfl⟩))
    go_ret
    exact ⟨rfl, below_drewN (Below.refl _ _)⟩
end Go.Proofs.YtklmkdkjbpmnhaaDoor
