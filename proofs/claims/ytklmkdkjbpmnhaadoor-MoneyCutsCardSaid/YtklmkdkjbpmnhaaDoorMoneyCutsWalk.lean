import Derived.Test.YtklmkdkjbpmnhaaDoorMoneyLaw
import Derived.Test.YtklmkdkjbpmnhaaDoorLaidOn
namespace Go.Proofs.YtklmkdkjbpmnhaaDoor
open Go.RowKit

/-- Less, where v and r are within bounds: a number and no error. -/
theorem less_fine (A : Nat → Addr) (v r : Int) (w : World) (hE : ErrsOn [2, 3] w A) (v0 : 0 ≤ v) (v1 : v ≤ 1000000000000000) (r0 : 0 ≤ r) (r1 : r ≤ 10000) :
    Calls Tryd.prog 14 #[.int .i64 v, .int .i64 r] w fun e w' => e = .returned (.tuple #[.int .i64 (v * (10000 - r) / 10000), .nilIface]) ∧ ∃ n, w' = w.drewN n := by
  have h := less_any A v r w hE (by omega) (by omega) (by omega) (by omega)
  have hm := mul_le_half v0 (show 0 ≤ 10000 - r by omega) v1 (show 10000 - r ≤ 10000 by omega)
  obtain ⟨e1, e2⟩ := fine_of (A := A) (i := win v 1000000000000000 && win r 10000) (up := false) (by rw [win_mk v0 v1, win_mk r0 r1]; rfl) (show (0 : Int) < 10000 by decide) (divq_down v (10000 - r) 10000) (by omega) (by omega)
  rw [e1, e2] at h
  exact h
theorem part_fine (A : Nat → Addr) (v r : Int) (w : World) (hE : ErrsOn [2, 3] w A) (v0 : 0 ≤ v) (v1 : v ≤ 1000000000000000) (r0 : 0 ≤ r) (r1 : r ≤ 10000) :
    Calls Tryd.prog 16 #[.int .i64 v, .int .i64 r, .bool true] w fun e w' => e = .returned (.tuple #[.int .i64 (-(-(v * r) / 10000)), .nilIface]) ∧ ∃ n, w' = w.drewN n := by
  have h := part_any A v r true w hE (by omega) (by omega) (by omega) (by omega)
  have hm := mul_le_half v0 r0 v1 r1
  obtain ⟨e1, e2⟩ := fine_of (A := A) (i := win v 1000000000000000 && win r 10000) (up := true) (by rw [win_mk v0 v1, win_mk r0 r1]; rfl) (show (0 : Int) < 10000 by decide) (divq_up v r 10000) (by omega) (by omega)
  rw [e1, e2] at h
  exact h

set_option maxHeartbeats 4000000 in
theorem walk_moneyCuts (n a b : Int) (A : Nat → Addr) (w : World) (hn : -9223372036854775808 ≤ n) (hn2 : n ≤ 9223372036854775807) (ha : -9223372036854775808 ≤ a) (ha2 : a ≤ 9223372036854775807) (hb : -9223372036854775808 ≤ b) (hb2 : b ≤ 9223372036854775807) (hS : SentsOn [2, 3] w A) :
    Calls Tryd.prog 4 #[.int .i64 n, .int .i64 a, .int .i64 b] w fun e w' => e = .returned (.bool true) ∧ Below w.heap.size w w' := by
  have hE := hS.on
  clear hS
  obtain ⟨v0, v1⟩ := amtOf_bd n
  have hv := hidden (fun w => amtOf_any n w hn hn2)
  have hx := hidden (fun w => number_any a 10001 w ha ha2 (by decide) (by decide))
  have hy := hidden (fun w => number_any b 10001 w hb hb2 (by decide) (by decide))
  have x0 : 0 ≤ a % 10001 := by omega
  have x1 : a % 10001 ≤ 10000 := by omega
  have y0 : 0 ≤ b % 10001 := by omega
  have y1 : b % 10001 ≤ 10000 := by omega
  generalize amtOf n = v at *
  generalize a % 10001 = x at *
  generalize b % 10001 = y at *
  have l1 := hidden (fun k => less_fine A v x (w.drewN k) (hE.drewN k) v0 v1 x0 x1)
  have l2 := hidden (fun k => less_fine A v y (w.drewN k) (hE.drewN k) v0 v1 y0 y1)
  have l3 := hidden (fun k => less_fine A v 0 (w.drewN k) (hE.drewN k) v0 v1 (by decide) (by decide))
  have l4 := hidden (fun k => less_fine A v 10000 (w.drewN k) (hE.drewN k) v0 v1 (by decide) (by decide))
  have p1 := hidden (fun k => part_fine A v x (w.drewN k) (hE.drewN k) v0 v1 x0 x1)
  have q1 := mul_le_half v0 x0 v1 x1
  have q2 := mul_le_half v0 y0 v1 y1
  have q3 : v * x ≤ v * 10000 := Int.mul_le_mul_of_nonneg_left x1 v0
  have s1 : v * (10000 - x) / 10000 + -(-(v * x) / 10000) = v := by rw [Int.mul_sub]; omega
  have s2 : v * (10000 - 0) / 10000 = v := by omega
  have s3 : v * (10000 - 10000) / 10000 = 0 := by simp
  have s4 : 0 ≤ v * (10000 - x) / 10000 ∧ v * (10000 - x) / 10000 ≤ v := by rw [Int.mul_sub]; omega
  have s5 : 0 ≤ -(-(v * x) / 10000) ∧ -(-(v * x) / 10000) ≤ v := by omega
  have s6 : x ≤ y → v * (10000 - y) / 10000 ≤ v * (10000 - x) / 10000 := fun h => by
    have := Int.mul_le_mul_of_nonneg_left h v0
    rw [Int.mul_sub, Int.mul_sub]; omega
  have s7 : y < x → v * (10000 - x) / 10000 ≤ v * (10000 - y) / 10000 := fun h => by
    have := Int.mul_le_mul_of_nonneg_left (show y ≤ x by omega) v0
    rw [Int.mul_sub, Int.mul_sub]; omega
  have hF := hidden (law3_first A w hE)
  rw [s2] at l3
  rw [s3] at l4
  generalize v * (10000 - x) / 10000 = L at *
  generalize v * (10000 - y) / 10000 = M at *
  generalize -(-(v * x) / 10000) = P at *
  clear q1 q2 q3 s2 s3 hE hn hn2 ha ha2 hb hb2
  by_cases hxy : x ≤ y
  · have s8 := s6 hxy
    clear s6 s7
    go_enter Tryd.func4, Tryd.ntmps4
    go_wp2_with (first
      | (go_at_call 8; refine hF.out.mono ?_; rintro e w' ⟨rfl, k, rfl⟩)
      | (go_at_call 22; refine (hv.out _).mono ?_; rintro e w' ⟨rfl, rfl⟩)
      | (go_at_call 23; with_reducible refine (hx.out _).mono ?_; rintro e w' ⟨rfl, rfl⟩)
      | (go_at_call 23; with_reducible refine (hy.out _).mono ?_; rintro e w' ⟨rfl, rfl⟩)
      | (go_at_call 16; refine (p1.out _).mono ?_; rintro e w' ⟨rfl, k, rfl⟩)
      | (go_at_call 14; with_reducible refine (l1.out _).mono ?_; rintro e w' ⟨rfl, k, rfl⟩)
      | (go_at_call 14; with_reducible refine (l2.out _).mono ?_; rintro e w' ⟨rfl, k, rfl⟩)
      | (go_at_call 14; with_reducible refine (l3.out _).mono ?_; rintro e w' ⟨rfl, k, rfl⟩)
      | (go_at_call 14; with_reducible refine (l4.out _).mono ?_; rintro e w' ⟨rfl, k, rfl⟩))
    go_ret
    exact ⟨rfl, below_drewN (Below.refl _ _)⟩
  · have s8 := s7 (by omega)
    clear s6 s7
    go_enter Tryd.func4, Tryd.ntmps4
    go_wp2_with (first
      | (go_at_call 8; refine hF.out.mono ?_; rintro e w' ⟨rfl, k, rfl⟩)
      | (go_at_call 22; refine (hv.out _).mono ?_; rintro e w' ⟨rfl, rfl⟩)
      | (go_at_call 23; with_reducible refine (hx.out _).mono ?_; rintro e w' ⟨rfl, rfl⟩)
      | (go_at_call 23; with_reducible refine (hy.out _).mono ?_; rintro e w' ⟨rfl, rfl⟩)
      | (go_at_call 16; refine (p1.out _).mono ?_; rintro e w' ⟨rfl, k, rfl⟩)
      | (go_at_call 14; with_reducible refine (l1.out _).mono ?_; rintro e w' ⟨rfl, k, rfl⟩)
      | (go_at_call 14; with_reducible refine (l2.out _).mono ?_; rintro e w' ⟨rfl, k, rfl⟩)
      | (go_at_call 14; with_reducible refine (l3.out _).mono ?_; rintro e w' ⟨rfl, k, rfl⟩)
      | (go_at_call 14; with_reducible refine (l4.out _).mono ?_; rintro e w' ⟨rfl, k, rfl⟩))
    go_ret
    exact ⟨rfl, below_drewN (Below.refl _ _)⟩
end Go.Proofs.YtklmkdkjbpmnhaaDoor
