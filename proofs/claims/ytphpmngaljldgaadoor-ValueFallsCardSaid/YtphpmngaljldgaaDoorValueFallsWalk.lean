import Derived.Test.YtphpmngaljldgaaDoorValueLaw
import Derived.Test.YtphpmngaljldgaaDoorNumber
import Derived.Test.YtphpmngaljldgaaDoorLaidOn
import Derived.Deep.DeepCutAuto
namespace Go.Proofs.YtphpmngaljldgaaDoor
open Go.RowKit
set_option linter.unusedVariables false

theorem mulq_near {a b A B k : Int} (a0 : 0 ≤ a) (a1 : a ≤ A) (b0 : 0 ≤ b) (b1 : b ≤ B) (hk : 0 < k) : 0 ≤ a * b / k ∧ a * b / k ≤ A * B / k :=
  ⟨Int.ediv_nonneg (Int.mul_nonneg a0 b0) (by omega), Int.ediv_le_ediv hk (Int.mul_le_mul a1 b1 b0 (by omega))⟩
theorem mulq_mono {a a' b k : Int} (h : a ≤ a') (b0 : 0 ≤ b) (hk : 0 < k) : a * b / k ≤ a' * b / k := Int.ediv_le_ediv hk (Int.mul_le_mul_of_nonneg_right h b0)
theorem mulq_mono2 {a b b' k : Int} (h : b ≤ b') (a0 : 0 ≤ a) (hk : 0 < k) : a * b / k ≤ a * b' / k := Int.ediv_le_ediv hk (Int.mul_le_mul_of_nonneg_left h a0)
set_option maxRecDepth 100000 in
set_option maxHeartbeats 16000000 in
theorem walk_valueFalls (n j k h a b : Int) (A : Nat → Addr) (w : World) (n0 : -9223372036854775808 ≤ n) (n1 : n ≤ 9223372036854775807) (j0 : -9223372036854775808 ≤ j) (j1 : j ≤ 9223372036854775807) (k0 : -9223372036854775808 ≤ k) (k1 : k ≤ 9223372036854775807) (h0 : -9223372036854775808 ≤ h) (h1 : h ≤ 9223372036854775807) (a0 : -9223372036854775808 ≤ a) (a1 : a ≤ 9223372036854775807) (b0 : -9223372036854775808 ≤ b) (b1 : b ≤ 9223372036854775807) (hS : SentsOn [2, 3] w A) :
    Calls Tryd.prog 4 #[.int .i64 n, .int .i64 j, .int .i64 k, .int .i64 h, .int .i64 a, .int .i64 b] w fun e w' => e = .returned (.bool true) ∧ Below w.heap.size w w' := by
  have hF := hidden (law15_first A w hS.on)
  have hN1 := hidden (fun W => number_any n 1000000 W n0 n1 (by decide) (by decide))
  have hN2 := hidden (fun W => number_any j 1000000 W j0 j1 (by decide) (by decide))
  have hN3 := hidden (fun W => number_any k 1000000 W k0 k1 (by decide) (by decide))
  have hN4 := hidden (fun W => number_any h 3000000 W h0 h1 (by decide) (by decide))
  have hN5 := hidden (fun W => number_any a 10001 W a0 a1 (by decide) (by decide))
  have hN6 := hidden (fun W => number_any b 10001 W b0 b1 (by decide) (by decide))
  have q0 : 0 ≤ n % 1000000 := by omega
  have q1 : n % 1000000 ≤ 999999 := by omega
  have m0 : 0 ≤ j % 1000000 := by omega
  have m1 : j % 1000000 ≤ 999999 := by omega
  have p0 : 0 ≤ k % 1000000 := by omega
  have p1 : k % 1000000 ≤ 999999 := by omega
  have r0 : 0 ≤ h % 3000000 := by omega
  have r1 : h % 3000000 ≤ 2999999 := by omega
  have c0 : 0 ≤ a % 10001 := by omega
  have c1 : a % 10001 ≤ 10000 := by omega
  have d0 : 0 ≤ b % 10001 := by omega
  have d1 : b % 10001 ≤ 10000 := by omega
  clear n0 n1 j0 j1 k0 k1 h0 h1 a0 a1 b0 b1
  generalize n % 1000000 = q at *
  generalize j % 1000000 = m at *
  generalize k % 1000000 = P at *
  generalize h % 3000000 = R at *
  generalize a % 10001 = c at *
  generalize b % 10001 = d at *
  have x1 := mulq_near (k := 10000) q0 q1 p0 p1 (by decide)
  have x2 := mulq_near (k := 10000) (show 0 ≤ q + m by omega) (show q + m ≤ 1999998 by omega) p0 p1 (by decide)
  have x3 := mulq_mono (k := 10000) (show q ≤ q + m by omega) p0 (by decide)
  obtain ⟨X1, hX1⟩ : ∃ z, q * P / 10000 = z := ⟨_, rfl⟩
  obtain ⟨X2, hX2⟩ : ∃ z, (q + m) * P / 10000 = z := ⟨_, rfl⟩
  rw [hX1] at x1 x3
  rw [hX2] at x2 x3
  have y1 := mulq_near (k := 1000000) x1.1 (show X1 ≤ 200000000 by omega) r0 r1 (by decide)
  have y2 := mulq_near (k := 1000000) x2.1 (show X2 ≤ 200000000 by omega) r0 r1 (by decide)
  have y3 := mulq_mono (k := 1000000) x3 r0 (by decide)
  obtain ⟨B1, hB1⟩ : ∃ z, X1 * R / 1000000 = z := ⟨_, rfl⟩
  obtain ⟨B2, hB2⟩ : ∃ z, X2 * R / 1000000 = z := ⟨_, rfl⟩
  rw [hB1] at y1 y3
  rw [hB2] at y2 y3
  have v1 := mulq_near (k := 10000) y1.1 (Int.le_refl B1) (show 0 ≤ 10000 - c by omega) (show 10000 - c ≤ 10000 by omega) (by decide)
  have v2 := mulq_near (k := 10000) y2.1 (Int.le_refl B2) (show 0 ≤ 10000 - c by omega) (show 10000 - c ≤ 10000 by omega) (by decide)
  have v3 := mulq_near (k := 10000) y1.1 (Int.le_refl B1) (show 0 ≤ 10000 - d by omega) (show 10000 - d ≤ 10000 by omega) (by decide)
  have v4 := mulq_mono (k := 10000) y3 (show 0 ≤ 10000 - c by omega) (by decide)
  have v5 := fun hcd : c ≤ d => mulq_mono2 (k := 10000) (show 10000 - d ≤ 10000 - c by omega) y1.1 (by decide)
  obtain ⟨V1, hV1⟩ : ∃ z, B1 * (10000 - c) / 10000 = z := ⟨_, rfl⟩
  obtain ⟨V2, hV2⟩ : ∃ z, B2 * (10000 - c) / 10000 = z := ⟨_, rfl⟩
  obtain ⟨W1, hW1⟩ : ∃ z, B1 * (10000 - d) / 10000 = z := ⟨_, rfl⟩
  rw [hV1] at v1 v4 v5
  rw [hV2] at v2 v4
  rw [hW1] at v3 v5
  have o1 := hidden (fun W (h : Below w.heap.size w W) => of_fine15 A ⟨1, 4, 2, 3, 0⟩ q ⟨5, 0, true, P, R, c⟩ W (x := X1) (b := B1) (l := V1) (hS.on.below h (Nat.le_refl _)) (by unfold AsBig; simp) (by unfold TmBig; simp only; omega) (by omega) (by show 0 ≤ P ∧ P ≤ _; omega) (by simp only; omega) (by simp only; omega) hX1 hB1 hV1 (by omega) (by omega) (by omega))
  rw [if_pos (show cnB ⟨1, 4, 2, 3, 0⟩ ⟨5, 0, true, P, R, c⟩ = true from rfl)] at o1
  have o2 := hidden (fun W (h : Below w.heap.size w W) => of_fine15 A ⟨1, 4, 2, 3, 0⟩ (q + m) ⟨5, 0, true, P, R, c⟩ W (x := X2) (b := B2) (l := V2) (hS.on.below h (Nat.le_refl _)) (by unfold AsBig; simp) (by unfold TmBig; simp only; omega) (by omega) (by show 0 ≤ P ∧ P ≤ _; omega) (by simp only; omega) (by simp only; omega) hX2 hB2 hV2 (by omega) (by omega) (by omega))
  rw [if_pos (show cnB ⟨1, 4, 2, 3, 0⟩ ⟨5, 0, true, P, R, c⟩ = true from rfl)] at o2
  have o3 := hidden (fun W (h : Below w.heap.size w W) => of_fine15 A ⟨1, 4, 2, 3, 0⟩ q ⟨5, 0, true, P, R, d⟩ W (x := X1) (b := B1) (l := W1) (hS.on.below h (Nat.le_refl _)) (by unfold AsBig; simp) (by unfold TmBig; simp only; omega) (by omega) (by show 0 ≤ P ∧ P ≤ _; omega) (by simp only; omega) (by simp only; omega) hX1 hB1 hW1 (by omega) (by omega) (by omega))
  rw [if_pos (show cnB ⟨1, 4, 2, 3, 0⟩ ⟨5, 0, true, P, R, d⟩ = true from rfl)] at o3
  have o4 := hidden (fun W (h : Below w.heap.size w W) => of_fine15 A ⟨1, 4, 2, 3, 0⟩ q ⟨5, 0, false, P, R, c⟩ W (x := X1) (b := B1) (l := V1) (hS.on.below h (Nat.le_refl _)) (by unfold AsBig; simp) (by unfold TmBig; simp only; omega) (by omega) (by show 0 ≤ P ∧ P ≤ _; omega) (by simp only; omega) (by simp only; omega) hX1 hB1 hV1 (by omega) (by omega) (by omega))
  rw [if_neg (show ¬ cnB ⟨1, 4, 2, 3, 0⟩ ⟨5, 0, false, P, R, c⟩ = true by intro h; exact absurd h (by show ¬ (false = true); decide))] at o4
  have o5 := hidden (fun W (h : Below w.heap.size w W) => of_fine15 A ⟨1, 4, 2, 3, 0⟩ q ⟨5, 4, true, P, R, c⟩ W (x := X1) (b := B1) (l := V1) (hS.on.below h (Nat.le_refl _)) (by unfold AsBig; simp) (by unfold TmBig; simp only; omega) (by omega) (by show 0 ≤ P ∧ P ≤ _; omega) (by simp only; omega) (by simp only; omega) hX1 hB1 hV1 (by omega) (by omega) (by omega))
  rw [if_neg (show ¬ cnB ⟨1, 4, 2, 3, 0⟩ ⟨5, 4, true, P, R, c⟩ = true by intro h; exact absurd h (by show ¬ (false = true); decide))] at o5
  have o6 := hidden (fun W (h : Below w.heap.size w W) => of_fine15 A ⟨1, 4, 2, 3, 5⟩ q ⟨5, 0, true, P, R, c⟩ W (x := X1) (b := B1) (l := V1) (hS.on.below h (Nat.le_refl _)) (by unfold AsBig; simp) (by unfold TmBig; simp only; omega) (by omega) (by show 0 ≤ P ∧ P ≤ _; omega) (by simp only; omega) (by simp only; omega) hX1 hB1 hV1 (by omega) (by omega) (by omega))
  rw [if_neg (show ¬ cnB ⟨1, 4, 2, 3, 5⟩ ⟨5, 0, true, P, R, c⟩ = true by intro h; exact absurd h (by show ¬ (false = true); decide))] at o6
  have u1 : decide (V2 < V1) = false := decide_eq_false (by omega)
  have u2 : decide (B2 < B1) = false := decide_eq_false (by omega)
  have u3 : decide (B1 < V1) = false := decide_eq_false (by omega)
  have hcd : decide (c ≤ d) = false ∨ (decide (c ≤ d) = true ∧ decide (V1 < W1) = false) := by
    by_cases h : c ≤ d
    · exact .inr ⟨decide_eq_true h, decide_eq_false (by have := v5 h; omega)⟩
    · exact .inl (decide_eq_false h)
  have wqm : IntKind.i64.wrap (q + m) = q + m := by rw [IntKind.wrap_i64]; omega
  clear v1 v2 v3 v4 v5 y1 y2 y3 x1 x2 x3 hX1 hX2 hB1 hB2 hV1 hV2 hW1 hS
  go_enter Tryd.func4, Tryd.ntmps4
  go_wp2_with fail
  refine hF.out.mono ?_
  rintro e w1 ⟨rfl, hb⟩
  replace hb := hidden hb
  go_wp2_with fail
  (with_reducible refine (hN1.out _).mono ?_)
  rintro e ww ⟨rfl, rfl⟩
  go_wp2_with fail
  (with_reducible refine (hN2.out _).mono ?_)
  rintro e ww ⟨rfl, rfl⟩
  go_wp2_with fail
  (with_reducible refine (hN3.out _).mono ?_)
  rintro e ww ⟨rfl, rfl⟩
  go_wp2_with fail
  (with_reducible refine (hN4.out _).mono ?_)
  rintro e ww ⟨rfl, rfl⟩
  go_wp2_with fail
  (with_reducible refine (hN5.out _).mono ?_)
  rintro e ww ⟨rfl, rfl⟩
  clear hF hN1 hN2 hN3 hN4 hN5
  have hT := hidden (tmAt_new w1 tmTy ⟨5, 0, true, P, R, c⟩)
  replace hb := hidden (hb.out.alloc hb.out.size (tmO tmTy ⟨5, 0, true, P, R, c⟩))
  have hX := asAt_new (w1.alloc (tmO tmTy ⟨5, 0, true, P, R, c⟩)) ⟨1, 4, 2, 3, 0⟩
  simp only [World.size_alloc] at hX
  replace hX := hidden hX
  replace hT := hidden (hT.out.below (below_as _ ⟨1, 4, 2, 3, 0⟩))
  replace hb := hidden (hb.out.alloc hb.out.size (asO ⟨1, 4, 2, 3, 0⟩))
  obtain ⟨t0, t1, t2, t3, t4, t5⟩ := hT.out.cells
  simp only at t0 t1 t2 t3 t4 t5
  go_wp2_with fail
  refine (o1.out _ hb.out).mono ?_
  rintro e w2 ⟨rfl, hbk⟩
  have s18 := hidden (stAt_new w2 stTy ⟨X1, B1, V1⟩)
  replace hbk := hidden (hbk.alloc hbk.size (stO stTy ⟨X1, B1, V1⟩))
  replace hT := hidden (hT.out.below hbk.out)
  replace hX := hidden (hX.out.below hbk.out)
  replace hb := hidden (hb.out.trans (hbk.out.mono hb.out.size))
  clear hbk
  clear t0 t1 t2 t3 t4 t5
  clear o1
  obtain ⟨t0, t1, t2, t3, t4, t5⟩ := hT.out.cells
  simp only at t0 t1 t2 t3 t4 t5
  obtain ⟨x0, x1, x2, x3, x4⟩ := hX.out.cells
  simp only at x0 x1 x2 x3 x4
  go_wp2_with fail
  refine (o2.out _ hb.out).mono ?_
  rintro e w3 ⟨rfl, hbk⟩
  have s20 := hidden (stAt_new w3 stTy ⟨X2, B2, V2⟩)
  replace hbk := hidden (hbk.alloc hbk.size (stO stTy ⟨X2, B2, V2⟩))
  replace hT := hidden (hT.out.below hbk.out)
  replace hX := hidden (hX.out.below hbk.out)
  replace s18 := hidden (s18.out.below hbk.out)
  replace hb := hidden (hb.out.trans (hbk.out.mono hb.out.size))
  clear hbk
  clear t0 t1 t2 t3 t4 t5
  clear x0 x1 x2 x3 x4
  clear o2
  obtain ⟨t0, t1, t2, t3, t4, t5⟩ := hT.out.cells
  simp only at t0 t1 t2 t3 t4 t5
  go_wp2_with fail
  (with_reducible refine (hN6.out _).mono ?_)
  rintro e ww ⟨rfl, rfl⟩
  clear hN6
  clear t0 t1 t2 t3 t4 t5
  have hv := tmAt_new (w3.alloc (stO stTy ⟨X2, B2, V2⟩)) tmTy ⟨5, 0, true, P, R, d⟩
  simp only [World.size_alloc] at hv
  replace hv := hidden hv
  have hbk := hidden ((Below.refl (w3.alloc (stO stTy ⟨X2, B2, V2⟩)).heap.size (w3.alloc (stO stTy ⟨X2, B2, V2⟩))).alloc (Nat.le_refl _) (tmO tmTy ⟨5, 0, true, P, R, d⟩))
  replace hT := hidden (hT.out.below hbk.out)
  replace hX := hidden (hX.out.below hbk.out)
  replace s18 := hidden (s18.out.below hbk.out)
  replace s20 := hidden (s20.out.below hbk.out)
  replace hb := hidden (hb.out.trans (hbk.out.mono hb.out.size))
  clear hbk
  obtain ⟨x0, x1, x2, x3, x4⟩ := hX.out.cells
  simp only at x0 x1 x2 x3 x4
  obtain ⟨v0, v1, v2, v3, v4, v5⟩ := hv.out.cells
  simp only at v0 v1 v2 v3 v4 v5
  go_wp2_with fail
  refine (o3.out _ hb.out).mono ?_
  rintro e w5 ⟨rfl, hbk⟩
  have s23 := hidden (stAt_new w5 stTy ⟨X1, B1, W1⟩)
  replace hbk := hidden (hbk.alloc hbk.size (stO stTy ⟨X1, B1, W1⟩))
  replace hT := hidden (hT.out.below hbk.out)
  replace hX := hidden (hX.out.below hbk.out)
  replace hv := hidden (hv.out.below hbk.out)
  replace s18 := hidden (s18.out.below hbk.out)
  replace s20 := hidden (s20.out.below hbk.out)
  replace hb := hidden (hb.out.trans (hbk.out.mono hb.out.size))
  clear hbk
  clear x0 x1 x2 x3 x4
  clear v0 v1 v2 v3 v4 v5
  clear o3
  obtain ⟨t0, t1, t2, t3, t4, t5⟩ := hT.out.cells
  simp only at t0 t1 t2 t3 t4 t5
  obtain ⟨v0, v1, v2, v3, v4, v5⟩ := hv.out.cells
  simp only at v0 v1 v2 v3 v4 v5
  obtain ⟨k0, k1, k2⟩ := s18.out.cells
  simp only at k0 k1 k2
  obtain ⟨l0, l1, l2⟩ := s20.out.cells
  simp only at l0 l1 l2
  have E1 := hidden ((Below.refl (w5.alloc (stO stTy ⟨X1, B1, W1⟩)).heap.size (w5.alloc (stO stTy ⟨X1, B1, W1⟩))).alloc (Nat.le_refl _) (tmO tmTy ⟨5, 0, false, P, R, c⟩))
  have hT1 := hidden (hT.out.below E1.out)
  have hX1 := hidden (hX.out.below E1.out)
  have h25 := (tmAt_new (w5.alloc (stO stTy ⟨X1, B1, W1⟩)) tmTy ⟨5, 0, false, P, R, c⟩)
  simp only [World.size_alloc] at h25
  replace h25 := hidden h25
  have E2 := hidden ((Below.refl ((w5.alloc (stO stTy ⟨X1, B1, W1⟩)).alloc (tmO tmTy ⟨5, 0, false, P, R, c⟩)).heap.size ((w5.alloc (stO stTy ⟨X1, B1, W1⟩)).alloc (tmO tmTy ⟨5, 0, false, P, R, c⟩))).alloc (Nat.le_refl _) (tmO tmTy ⟨5, 4, true, P, R, c⟩))
  have hT2 := hidden (hT1.out.below E2.out)
  have hX2 := hidden (hX1.out.below E2.out)
  replace h25 := hidden (h25.out.below E2.out)
  have h26 := (tmAt_new ((w5.alloc (stO stTy ⟨X1, B1, W1⟩)).alloc (tmO tmTy ⟨5, 0, false, P, R, c⟩)) tmTy ⟨5, 4, true, P, R, c⟩)
  simp only [World.size_alloc] at h26
  replace h26 := hidden h26
  have E3 := hidden ((Below.refl (((w5.alloc (stO stTy ⟨X1, B1, W1⟩)).alloc (tmO tmTy ⟨5, 0, false, P, R, c⟩)).alloc (tmO tmTy ⟨5, 4, true, P, R, c⟩)).heap.size (((w5.alloc (stO stTy ⟨X1, B1, W1⟩)).alloc (tmO tmTy ⟨5, 0, false, P, R, c⟩)).alloc (tmO tmTy ⟨5, 4, true, P, R, c⟩))).alloc (Nat.le_refl _) (asO ⟨1, 4, 2, 3, 5⟩))
  have hT3 := hidden (hT2.out.below E3.out)
  have hX3 := hidden (hX2.out.below E3.out)
  replace h25 := hidden (h25.out.below E3.out)
  replace h26 := hidden (h26.out.below E3.out)
  have h27 := (asAt_new (((w5.alloc (stO stTy ⟨X1, B1, W1⟩)).alloc (tmO tmTy ⟨5, 0, false, P, R, c⟩)).alloc (tmO tmTy ⟨5, 4, true, P, R, c⟩)) ⟨1, 4, 2, 3, 5⟩)
  simp only [World.size_alloc] at h27
  replace h27 := hidden h27
  have s18' := hidden (((s18.out.below E1.out).below E2.out).below E3.out)
  have hb' := hidden (((hb.out.trans (E1.out.mono hb.out.size)).trans (E2.out.mono (by have := hb.out.size; have := E1.out.size; omega))).trans (E3.out.mono (by have := hb.out.size; have := E1.out.size; have := E2.out.size; omega)))
  clear E1 E2 E3 hX1
  obtain ⟨tt0, tt1, tt2, tt3, tt4, tt5⟩ := hT1.out.cells
  simp only at tt0 tt1 tt2 tt3 tt4 tt5
  obtain ⟨xx0, xx1, xx2, xx3, xx4⟩ := hX2.out.cells
  simp only at xx0 xx1 xx2 xx3 xx4
  obtain ⟨xxx0, xxx1, xxx2, xxx3, xxx4⟩ := hX3.out.cells
  simp only at xxx0 xxx1 xxx2 xxx3 xxx4
  obtain ⟨y0, y1, y2, y3, y4, y5⟩ := h25.out.cells
  simp only at y0 y1 y2 y3 y4 y5
  rcases hcd with hcd | ⟨hcd, hcd2⟩
  all_goals
    go_wp2_with fail
    refine (o4.out _ hb'.out).mono ?_
    rintro e w6 ⟨rfl, hbk⟩
    have s28 := hidden (stAt_new w6 stTy ⟨X1, B1, 0⟩)
    replace hbk := hidden (hbk.alloc hbk.size (stO stTy ⟨X1, B1, 0⟩))
    replace hT3 := hidden (hT3.out.below hbk.out)
    replace hX3 := hidden (hX3.out.below hbk.out)
    replace h26 := hidden (h26.out.below hbk.out)
    replace h27 := hidden (h27.out.below hbk.out)
    replace s18' := hidden (s18'.out.below hbk.out)
    replace hb' := hidden (hb'.out.trans (hbk.out.mono hb'.out.size))
    clear hbk
    clear o4 t0 t1 t2 t3 t4 t5 v0 v1 v2 v3 v4 v5 tt0 tt1 tt2 tt3 tt4 tt5 y0 y1 y2 y3 y4 y5 xx0 xx1 xx2 xx3 xx4 xxx0 xxx1 xxx2 xxx3 xxx4 k0 k1 k2 l0 l1 l2 hT hX hv s18 s20 s23 hT1 hT2 hX2 h25
    obtain ⟨x0, x1, x2, x3, x4⟩ := hX3.out.cells
    simp only at x0 x1 x2 x3 x4
    obtain ⟨y0, y1, y2, y3, y4, y5⟩ := h26.out.cells
    simp only at y0 y1 y2 y3 y4 y5
    go_wp2_with fail
    refine (o5.out _ hb'.out).mono ?_
    rintro e w7 ⟨rfl, hbk⟩
    have s30 := hidden (stAt_new w7 stTy ⟨X1, B1, 0⟩)
    replace hbk := hidden (hbk.alloc hbk.size (stO stTy ⟨X1, B1, 0⟩))
    replace hT3 := hidden (hT3.out.below hbk.out)
    replace h27 := hidden (h27.out.below hbk.out)
    replace s18' := hidden (s18'.out.below hbk.out)
    replace s28 := hidden (s28.out.below hbk.out)
    replace hb' := hidden (hb'.out.trans (hbk.out.mono hb'.out.size))
    clear hbk
    clear x0 x1 x2 x3 x4
    clear y0 y1 y2 y3 y4 y5
    clear o5 hX3 h26
    obtain ⟨x0, x1, x2, x3, x4⟩ := h27.out.cells
    simp only at x0 x1 x2 x3 x4
    obtain ⟨y0, y1, y2, y3, y4, y5⟩ := hT3.out.cells
    simp only at y0 y1 y2 y3 y4 y5
    go_wp2_with fail
    refine (o6.out _ hb'.out).mono ?_
    rintro e w8 ⟨rfl, hbk⟩
    have s32 := hidden (stAt_new w8 stTy ⟨X1, B1, 0⟩)
    replace hbk := hidden (hbk.alloc hbk.size (stO stTy ⟨X1, B1, 0⟩))
    replace s18' := hidden (s18'.out.below hbk.out)
    replace s28 := hidden (s28.out.below hbk.out)
    replace s30 := hidden (s30.out.below hbk.out)
    replace hb' := hidden (hb'.out.trans (hbk.out.mono hb'.out.size))
    clear hbk
    clear x0 x1 x2 x3 x4
    clear y0 y1 y2 y3 y4 y5
    clear o6 h27 hT3
    obtain ⟨x0, x1, x2⟩ := s18'.out.cells
    simp only at x0 x1 x2
    obtain ⟨y0, y1, y2⟩ := s28.out.cells
    simp only at y0 y1 y2
    obtain ⟨z0, z1, z2⟩ := s30.out.cells
    simp only at z0 z1 z2
    go_wp2_with fail
    go_ret
    exact ⟨rfl, hb'.out⟩
end Go.Proofs.YtphpmngaljldgaaDoor
