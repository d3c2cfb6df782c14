import Derived.Test.YtphpmngaljldgaaDoorValueLaw
import Derived.Test.YtphpmngaljldgaaDoorNumber
import Derived.Test.YtphpmngaljldgaaDoorLaidOn
import Derived.Deep.DeepCutAuto
namespace Go.Proofs.YtphpmngaljldgaaDoor
open Go.RowKit
set_option linter.unusedVariables false

/-- what so much is at a rate, and what a cut leaves of it. -/
theorem cash_near {q r c : Int} (q0 : 0 ≤ q) (q1 : q ≤ 999999999) (r0 : 0 ≤ r) (r1 : r ≤ 2999999) (c0 : 0 ≤ c) (c1 : c ≤ 10000) :
    (0 ≤ q * r ∧ q * r ≤ 3000000000000000) ∧ (0 ≤ q * r / 1000000 ∧ q * r / 1000000 ≤ 3000000000) ∧ (0 ≤ q * r / 1000000 * (10000 - c) ∧ q * r / 1000000 * (10000 - c) ≤ 30000000000000) := by
  have h1 : 0 ≤ q * r := Int.mul_nonneg q0 r0
  have h2 : q * r ≤ 999999999 * 2999999 := Int.mul_le_mul q1 r1 r0 (by decide)
  have h3 : 0 ≤ q * r / 1000000 ∧ q * r / 1000000 ≤ 3000000000 := by omega
  have h4 : 0 ≤ q * r / 1000000 * (10000 - c) := Int.mul_nonneg h3.1 (by omega)
  have h5 : q * r / 1000000 * (10000 - c) ≤ 3000000000 * 10000 := Int.mul_le_mul h3.2 (by omega) (by omega) (by decide)
  exact ⟨⟨h1, by omega⟩, h3, h4, by omega⟩
set_option maxRecDepth 100000 in
set_option maxHeartbeats 8000000 in
theorem walk_valueCash (n p k d : Int) (A : Nat → Addr) (w : World) (n0 : -9223372036854775808 ≤ n) (n1 : n ≤ 9223372036854775807) (p0 : -9223372036854775808 ≤ p) (p1 : p ≤ 9223372036854775807) (k0 : -9223372036854775808 ≤ k) (k1 : k ≤ 9223372036854775807) (d0 : -9223372036854775808 ≤ d) (d1 : d ≤ 9223372036854775807) (hS : SentsOn [2, 3] w A) :
    Calls Tryd.prog 6 #[.int .i64 n, .int .i64 p, .int .i64 k, .int .i64 d] w fun e w' => e = .returned (.bool true) ∧ Below w.heap.size w w' := by
  have hF := hidden (law15_first A w hS.on)
  have hN1 := hidden (fun W => number_any n 1000000000 W n0 n1 (by decide) (by decide))
  have hN2 := hidden (fun W => number_any k 3000000 W k0 k1 (by decide) (by decide))
  have hN3 := hidden (fun W => number_any d 10001 W d0 d1 (by decide) (by decide))
  have q0 : 0 ≤ n % 1000000000 := by omega
  have q1 : n % 1000000000 ≤ 999999999 := by omega
  have r0 : 0 ≤ k % 3000000 := by omega
  have r1 : k % 3000000 ≤ 2999999 := by omega
  have c0 : 0 ≤ d % 10001 := by omega
  have c1 : d % 10001 ≤ 10000 := by omega
  generalize n % 1000000000 = q at *
  generalize k % 3000000 = r at *
  generalize d % 10001 = c at *
  clear n0 n1 k0 k1 d0 d1
  obtain ⟨⟨m0, m1⟩, ⟨b0, b1⟩, ⟨l0, l1⟩⟩ := cash_near q0 q1 r0 r1 c0 c1
  obtain ⟨B, hB⟩ : ∃ z, q * r / 1000000 = z := ⟨_, rfl⟩
  rw [hB] at b0 b1 l0 l1
  obtain ⟨L, hL⟩ : ∃ z, B * (10000 - c) / 10000 = z := ⟨_, rfl⟩
  have o1 := hidden (fun W (h : Below w.heap.size w W) => of_fine15 A ⟨1, 0, 1, 1, 0⟩ q ⟨0, 0, true, p, 1000000, 0⟩ W (x := q) (b := q) (l := q) (hS.on.below h (Nat.le_refl _)) (by unfold AsBig; simp) (by unfold TmBig; simp only; omega) (by omega) (by show (0 : Int) ≤ 10000 ∧ (10000 : Int) ≤ _; omega) (by simp) (by simp) (by show q * 10000 / 10000 = q; omega) (by show q * 1000000 / 1000000 = q; omega) (by show q * (10000 - 0) / 10000 = q; omega) (by omega) (by omega) (by omega))
  have o2 := hidden (fun W (h : Below w.heap.size w W) => of_fine15 A ⟨1, 0, 1, 4, 0⟩ q ⟨0, 0, true, 0, r, c⟩ W (x := q) (b := B) (l := L) (hS.on.below h (Nat.le_refl _)) (by unfold AsBig; simp) (by unfold TmBig; simp only; omega) (by omega) (by show (0 : Int) ≤ 10000 ∧ (10000 : Int) ≤ _; omega) (by simp only; omega) (by simp only; omega) (by show q * 10000 / 10000 = q; omega) hB hL (by omega) (by omega) (by omega))
  rw [if_pos (by rfl)] at o1 o2
  have w1 : IntKind.i64.wrap (q * r) = q * r := by rw [IntKind.wrap_i64]; omega
  have w2 : IntKind.i64.wrap (B * (10000 - c)) = B * (10000 - c) := by rw [IntKind.wrap_i64]; omega
  have t1 : (q * r).tdiv 1000000 = B := by rw [Int.tdiv_eq_ediv_of_nonneg m0]; exact hB
  have t2 : (B * (10000 - c)).tdiv 10000 = L := by rw [Int.tdiv_eq_ediv_of_nonneg l0]; exact hL
  clear hS
  go_enter Tryd.func6, Tryd.ntmps6
  go_wp2_with fail
  refine hF.out.mono ?_
  rintro e w1 ⟨rfl, hb⟩
  replace hb := hidden hb
  go_wp2_with fail
  (with_reducible refine (hN1.out _).mono ?_)
  rintro e w2 ⟨rfl, rfl⟩
  go_wp2_with fail
  (with_reducible refine (hN2.out _).mono ?_)
  rintro e w2 ⟨rfl, rfl⟩
  go_wp2_with fail
  (with_reducible refine (hN3.out _).mono ?_)
  rintro e w2 ⟨rfl, rfl⟩
  clear hF hN1 hN2 hN3
  go_wp2_with fail
  have ha := hidden (asAt_new w1 ⟨1, 0, 1, 1, 0⟩)
  have hlt := hidden hb.out.size
  replace hb := hidden (hb.out.alloc hb.out.size (asO ⟨1, 0, 1, 1, 0⟩))
  refine (o1.out _ hb.out).mono ?_
  rintro e w2 ⟨rfl, hb2⟩
  have hs := hidden (stAt_new w2 stTy ⟨q, q, q⟩)
  have hb3 := hidden (hb2.alloc hb2.size (stO stTy ⟨q, q, q⟩))
  have hw12 := hidden (show w1.heap.size < w2.heap.size by have := hb2.size; simp at this; omega)
  replace ha := hidden (ha.out.below hb3.out)
  replace hb := hidden (hb.out.trans (hb3.out.mono hb.out.size))
  clear hb2 hb3 o1
  obtain ⟨a0, a1, a2, a3, a4⟩ := ha.out.cells
  have f3 := ha.out.frozen 3
  simp only at a0 a1 a2 a3 a4
  have hne := hidden (show w2.heap.size ≠ w1.heap.size by have := hw12.out; omega)
  go_wp2_with fail
  have ha2 := hidden (ha.out.put3 4)
  have hs2 := hidden (hs.out.set (h := w1.heap.size) (o := 3) (v := .int .i64 4) hne.out)
  have hb2 := hidden (below_set15 (g := w1.heap.size) hb.out hlt.out 3 (.int .i64 4))
  clear ha hs hb a0 a1 a2 a3 a4 f3
  generalize World.setCell _ _ _ = w3 at *
  refine (o2.out _ hb2.out).mono ?_
  rintro e w4 ⟨rfl, hb4⟩
  have hb5 := hidden (hb4.alloc hb4.size (stO stTy ⟨q, B, L⟩))
  have hs3 := hidden (hs2.out.below hb5.out)
  replace hb2 := hidden (hb2.out.trans (hb5.out.mono hb2.out.size))
  clear hb4 hb5 hs2 ha2 o2
  obtain ⟨s0, s1, s2⟩ := hs3.out.cells
  simp only at s0 s1 s2
  go_wp2_with fail
  go_ret
  exact ⟨rfl, hb2.out⟩
end Go.Proofs.YtphpmngaljldgaaDoor
