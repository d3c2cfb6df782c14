/-
  Of.
-/
import Derived.Test.YtphpmngaljldgaaDoorValue1
import Derived.RegionTactic
namespace Go.Proofs.YtphpmngaljldgaaDoor
open Go.RowKit
set_option linter.unusedVariables false

set_option maxRecDepth 100000 in
set_option maxHeartbeats 8000000 in
theorem valueOf_any (A : Nat → Addr) (a : As) (q : Int) (y : Tm) (w : World) (hE : ErrsOn [2, 3] w A) (ha : AsBig a) (hq : -9223372036854775808 ≤ q ∧ q ≤ 9223372036854775807) (hy : TmBig y) :
    Calls Tryd.prog 8 #[asA a, .int .i64 q, tmA y] w fun e w' => e = .returned (.tuple #[vsA (vaS a q y), errOf A (vaC a q y)]) ∧ Below w.heap.size w w' := by
  have hn := hidden (three15_new w tmTy stTy a y vsZ)
  have hP := hidden (fun W => price_any a y.p W)
  have hpb : -9223372036854775808 ≤ prV a y.p ∧ prV a y.p ≤ 9223372036854775807 := by
    unfold prV
    split
    · omega
    · exact hy.2.2.1
  have hW := hidden (show ∀ W, Below w.heap.size w W → Calls Tryd.prog 15 #[.int .i64 q, .int .i64 (prV a y.p)] W fun e w' => e = .returned (.tuple #[.int .i64 (w1V a q y), errOf A (w1C a q y)]) ∧ ∃ n, w' = W.drewN n from
    fun W h => worth_any A q (prV a y.p) W (hE.below h (Nat.le_refl _)) hq.1 hq.2 hpb.1 hpb.2)
  have hwb : -9223372036854775808 ≤ w1V a q y ∧ w1V a q y ≤ 9223372036854775807 := capV_bd _ _ _ _ _
  have hbb : -9223372036854775808 ≤ b1V a q y ∧ b1V a q y ≤ 9223372036854775807 := capV_bd _ _ _ _ _
  have hB := hidden (show ∀ W, Below w.heap.size w W → Calls Tryd.prog 17 #[.int .i64 (w1V a q y), .int .i64 y.r] W fun e w' => e = .returned (.tuple #[.int .i64 (b1V a q y), errOf A (b1C a q y)]) ∧ ∃ n, w' = W.drewN n from
    fun W h => base_any A (w1V a q y) y.r W (hE.below h (Nat.le_refl _)) hwb.1 hwb.2 hy.2.2.2.1.1 hy.2.2.2.1.2)
  have hL := hidden (show ∀ W, Below w.heap.size w W → Calls Tryd.prog 18 #[.int .i64 (b1V a q y), .int .i64 y.c] W fun e w' => e = .returned (.tuple #[.int .i64 (l1V a q y), errOf A (l1C a q y)]) ∧ ∃ n, w' = W.drewN n from
    fun W h => less_any A (b1V a q y) y.c W (hE.below h (Nat.le_refl _)) hbb.1 hbb.2 hy.2.2.2.2.1 hy.2.2.2.2.2)
  have hC := hidden (fun W => counts_any a y W ha hy)
  have hw := value_ways a q y
  clear hE ha hq hy hpb hwb hbb
  generalize vaS a q y = S at *
  generalize vaC a q y = C at *
  generalize l1V a q y = L at *
  generalize l1C a q y = lc at *
  generalize b1V a q y = B at *
  generalize b1C a q y = bc at *
  generalize w1V a q y = W1 at *
  generalize w1C a q y = wc at *
  generalize prV a y.p = pr at *
  generalize cnB a y = cn at *
  obtain ⟨i, s, c, m, e⟩ := a
  obtain ⟨t, o, n, p, x, z⟩ := y
  rcases hw with ⟨k1, rfl, rfl⟩ | ⟨rfl, k1, rfl, rfl⟩ | ⟨rfl, rfl, rfl, rfl, rfl⟩ | ⟨rfl, rfl, rfl, k1, rfl, rfl⟩ | ⟨rfl, rfl, rfl, rfl, rfl, rfl⟩
  · rw [errOf_no k1] at hW ⊢
    generalize A (C - 101).toNat = X at *
    clear hB hC hL
    go_enter Tryd.func8, Tryd.ntmps8
    go_wp2_with fail
    refine (hP.out _).mono ?_
    rintro r w1 ⟨rfl, hb⟩
    have hb1 := hidden (hn.out.2.trans (hb.mono hn.out.2.size))
    have hT := hidden (hn.out.1.below hb)
    clear hb hP hn
    go_wp2_with fail
    refine (hW.out _ hb1.out).mono ?_
    rintro r w2 ⟨rfl, k, rfl⟩
    replace hT := hidden (hT.out.drewN k)
    replace hb1 := hidden (below_drewN (m := k) hb1.out)
    try clear a0 a1 a2 a3 a4
    try clear d0 d1 d2 d3 d4 d5
    clear hW
    generalize World.drewN _ k = w3 at *
    obtain ⟨c0, c1, c2⟩ := hT.out.s.cells
    have f0 := hT.out.s.frozen 0
    have f1 := hT.out.s.frozen 1
    have f2 := hT.out.s.frozen 2
    simp only at c0 c1 c2
    go_wp2_with fail
    exact st_end rfl rfl rfl rfl (hT.out.s.put vsZ) ⟨rfl, below_put15 hb1.out (by omega) _ _ _⟩
  · rw [errOf_fine] at hW
    rw [errOf_no k1] at hB ⊢
    generalize A (C - 101).toNat = X at *
    clear hC hL
    go_enter Tryd.func8, Tryd.ntmps8
    go_wp2_with fail
    refine (hP.out _).mono ?_
    rintro r w1 ⟨rfl, hb⟩
    have hb1 := hidden (hn.out.2.trans (hb.mono hn.out.2.size))
    have hT := hidden (hn.out.1.below hb)
    clear hb hP hn
    go_wp2_with fail
    refine (hW.out _ hb1.out).mono ?_
    rintro r w2 ⟨rfl, k, rfl⟩
    replace hT := hidden (hT.out.drewN k)
    replace hb1 := hidden (below_drewN (m := k) hb1.out)
    try clear a0 a1 a2 a3 a4
    try clear d0 d1 d2 d3 d4 d5
    clear hW
    generalize World.drewN _ k = w3 at *
    obtain ⟨d0, d1, d2, d3, d4, d5⟩ := hT.out.y.cells
    simp only at d0 d1 d2 d3 d4 d5
    go_wp2_with fail
    refine (hB.out _ hb1.out).mono ?_
    rintro r w2 ⟨rfl, k, rfl⟩
    replace hT := hidden (hT.out.drewN k)
    replace hb1 := hidden (below_drewN (m := k) hb1.out)
    try clear a0 a1 a2 a3 a4
    try clear d0 d1 d2 d3 d4 d5
    clear hB
    generalize World.drewN _ k = w4 at *
    obtain ⟨c0, c1, c2⟩ := hT.out.s.cells
    have f0 := hT.out.s.frozen 0
    have f1 := hT.out.s.frozen 1
    have f2 := hT.out.s.frozen 2
    simp only at c0 c1 c2
    go_wp2_with fail
    exact st_end rfl rfl rfl rfl (hT.out.s.put vsZ) ⟨rfl, below_put15 hb1.out (by omega) _ _ _⟩
  · rw [errOf_fine] at hW
    rw [errOf_fine] at hB
    rw [errOf_fine]
    clear hL
    go_enter Tryd.func8, Tryd.ntmps8
    go_wp2_with fail
    refine (hP.out _).mono ?_
    rintro r w1 ⟨rfl, hb⟩
    have hb1 := hidden (hn.out.2.trans (hb.mono hn.out.2.size))
    have hT := hidden (hn.out.1.below hb)
    clear hb hP hn
    go_wp2_with fail
    refine (hW.out _ hb1.out).mono ?_
    rintro r w2 ⟨rfl, k, rfl⟩
    replace hT := hidden (hT.out.drewN k)
    replace hb1 := hidden (below_drewN (m := k) hb1.out)
    try clear a0 a1 a2 a3 a4
    try clear d0 d1 d2 d3 d4 d5
    clear hW
    generalize World.drewN _ k = w3 at *
    obtain ⟨d0, d1, d2, d3, d4, d5⟩ := hT.out.y.cells
    simp only at d0 d1 d2 d3 d4 d5
    go_wp2_with fail
    refine (hB.out _ hb1.out).mono ?_
    rintro r w2 ⟨rfl, k, rfl⟩
    replace hT := hidden (hT.out.drewN k)
    replace hb1 := hidden (below_drewN (m := k) hb1.out)
    try clear a0 a1 a2 a3 a4
    try clear d0 d1 d2 d3 d4 d5
    clear hB
    generalize World.drewN _ k = w4 at *
    obtain ⟨a0, a1, a2, a3, a4⟩ := hT.out.a.cells
    simp only at a0 a1 a2 a3 a4
    obtain ⟨d0, d1, d2, d3, d4, d5⟩ := hT.out.y.cells
    simp only at d0 d1 d2 d3 d4 d5
    go_wp2_with fail
    refine (hC.out _).mono ?_
    rintro r w5 ⟨rfl, hb⟩
    replace hT := hidden (hT.out.below hb)
    replace hb1 := hidden (hb1.out.trans (hb.mono hb1.out.size))
    clear hb hC a0 a1 a2 a3 a4 d0 d1 d2 d3 d4 d5
    obtain ⟨c0, c1, c2⟩ := hT.out.s.cells
    have f0 := hT.out.s.frozen 0
    have f1 := hT.out.s.frozen 1
    have f2 := hT.out.s.frozen 2
    simp only at c0 c1 c2
    go_wp2_with fail
    exact st_end rfl rfl rfl rfl (hT.out.s.put ⟨W1, B, 0⟩) ⟨rfl, below_put15 hb1.out (by omega) _ _ _⟩
  · rw [errOf_fine] at hW
    rw [errOf_fine] at hB
    rw [errOf_no k1] at hL ⊢
    generalize A (C - 101).toNat = X at *
    go_enter Tryd.func8, Tryd.ntmps8
    go_wp2_with fail
    refine (hP.out _).mono ?_
    rintro r w1 ⟨rfl, hb⟩
    have hb1 := hidden (hn.out.2.trans (hb.mono hn.out.2.size))
    have hT := hidden (hn.out.1.below hb)
    clear hb hP hn
    go_wp2_with fail
    refine (hW.out _ hb1.out).mono ?_
    rintro r w2 ⟨rfl, k, rfl⟩
    replace hT := hidden (hT.out.drewN k)
    replace hb1 := hidden (below_drewN (m := k) hb1.out)
    try clear a0 a1 a2 a3 a4
    try clear d0 d1 d2 d3 d4 d5
    clear hW
    generalize World.drewN _ k = w3 at *
    obtain ⟨d0, d1, d2, d3, d4, d5⟩ := hT.out.y.cells
    simp only at d0 d1 d2 d3 d4 d5
    go_wp2_with fail
    refine (hB.out _ hb1.out).mono ?_
    rintro r w2 ⟨rfl, k, rfl⟩
    replace hT := hidden (hT.out.drewN k)
    replace hb1 := hidden (below_drewN (m := k) hb1.out)
    try clear a0 a1 a2 a3 a4
    try clear d0 d1 d2 d3 d4 d5
    clear hB
    generalize World.drewN _ k = w4 at *
    obtain ⟨a0, a1, a2, a3, a4⟩ := hT.out.a.cells
    simp only at a0 a1 a2 a3 a4
    obtain ⟨d0, d1, d2, d3, d4, d5⟩ := hT.out.y.cells
    simp only at d0 d1 d2 d3 d4 d5
    go_wp2_with fail
    refine (hC.out _).mono ?_
    rintro r w5 ⟨rfl, hb⟩
    replace hT := hidden (hT.out.below hb)
    replace hb1 := hidden (hb1.out.trans (hb.mono hb1.out.size))
    clear hb hC a0 a1 a2 a3 a4 d0 d1 d2 d3 d4 d5
    obtain ⟨d0, d1, d2, d3, d4, d5⟩ := hT.out.y.cells
    simp only at d0 d1 d2 d3 d4 d5
    go_wp2_with fail
    refine (hL.out _ hb1.out).mono ?_
    rintro r w2 ⟨rfl, k, rfl⟩
    replace hT := hidden (hT.out.drewN k)
    replace hb1 := hidden (below_drewN (m := k) hb1.out)
    try clear a0 a1 a2 a3 a4
    try clear d0 d1 d2 d3 d4 d5
    clear hL
    generalize World.drewN _ k = w6 at *
    obtain ⟨c0, c1, c2⟩ := hT.out.s.cells
    have f0 := hT.out.s.frozen 0
    have f1 := hT.out.s.frozen 1
    have f2 := hT.out.s.frozen 2
    simp only at c0 c1 c2
    go_wp2_with fail
    exact st_end rfl rfl rfl rfl (hT.out.s.put vsZ) ⟨rfl, below_put15 hb1.out (by omega) _ _ _⟩
  · rw [errOf_fine] at hW
    rw [errOf_fine] at hB
    rw [errOf_fine] at hL
    rw [errOf_fine]
    go_enter Tryd.func8, Tryd.ntmps8
    go_wp2_with fail
    refine (hP.out _).mono ?_
    rintro r w1 ⟨rfl, hb⟩
    have hb1 := hidden (hn.out.2.trans (hb.mono hn.out.2.size))
    have hT := hidden (hn.out.1.below hb)
    clear hb hP hn
    go_wp2_with fail
    refine (hW.out _ hb1.out).mono ?_
    rintro r w2 ⟨rfl, k, rfl⟩
    replace hT := hidden (hT.out.drewN k)
    replace hb1 := hidden (below_drewN (m := k) hb1.out)
    try clear a0 a1 a2 a3 a4
    try clear d0 d1 d2 d3 d4 d5
    clear hW
    generalize World.drewN _ k = w3 at *
    obtain ⟨d0, d1, d2, d3, d4, d5⟩ := hT.out.y.cells
    simp only at d0 d1 d2 d3 d4 d5
    go_wp2_with fail
    refine (hB.out _ hb1.out).mono ?_
    rintro r w2 ⟨rfl, k, rfl⟩
    replace hT := hidden (hT.out.drewN k)
    replace hb1 := hidden (below_drewN (m := k) hb1.out)
    try clear a0 a1 a2 a3 a4
    try clear d0 d1 d2 d3 d4 d5
    clear hB
    generalize World.drewN _ k = w4 at *
    obtain ⟨a0, a1, a2, a3, a4⟩ := hT.out.a.cells
    simp only at a0 a1 a2 a3 a4
    obtain ⟨d0, d1, d2, d3, d4, d5⟩ := hT.out.y.cells
    simp only at d0 d1 d2 d3 d4 d5
    go_wp2_with fail
    refine (hC.out _).mono ?_
    rintro r w5 ⟨rfl, hb⟩
    replace hT := hidden (hT.out.below hb)
    replace hb1 := hidden (hb1.out.trans (hb.mono hb1.out.size))
    clear hb hC a0 a1 a2 a3 a4 d0 d1 d2 d3 d4 d5
    obtain ⟨d0, d1, d2, d3, d4, d5⟩ := hT.out.y.cells
    simp only at d0 d1 d2 d3 d4 d5
    go_wp2_with fail
    refine (hL.out _ hb1.out).mono ?_
    rintro r w2 ⟨rfl, k, rfl⟩
    replace hT := hidden (hT.out.drewN k)
    replace hb1 := hidden (below_drewN (m := k) hb1.out)
    try clear a0 a1 a2 a3 a4
    try clear d0 d1 d2 d3 d4 d5
    clear hL
    generalize World.drewN _ k = w6 at *
    obtain ⟨c0, c1, c2⟩ := hT.out.s.cells
    have f0 := hT.out.s.frozen 0
    have f1 := hT.out.s.frozen 1
    have f2 := hT.out.s.frozen 2
    simp only at c0 c1 c2
    go_wp2_with fail
    exact st_end rfl rfl rfl rfl (hT.out.s.put ⟨W1, B, L⟩) ⟨rfl, below_put15 hb1.out (by omega) _ _ _⟩
end Go.Proofs.YtphpmngaljldgaaDoor
