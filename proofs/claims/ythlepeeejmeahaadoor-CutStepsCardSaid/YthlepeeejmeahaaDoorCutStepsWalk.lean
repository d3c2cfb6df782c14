import Derived.Test.YthlepeeejmeahaaDoorCutLaw
import Derived.Test.YthlepeeejmeahaaDoorLaidOn
import Derived.Deep.DeepCutAuto
namespace Go.Proofs.YthlepeeejmeahaaDoor
open Go.RowKit
set_option linter.unusedVariables false

theorem allK_two (T : StepT → Option Int) (P Q : Nat) (h : ∀ k, k < 36 → ((T (stepAt k)).isSome = true ↔ (k = P ∨ k = Q))) : ∀ k, k ≤ 36 → (allK T k).length = (if P < k then 1 else 0) + (if Q < k ∧ P ≠ Q then 1 else 0)
  | 0, _ => rfl
  | k + 1, hk => by
    have ih := allK_two T P Q h k (by omega)
    have h1 := h k (by omega)
    rw [allK_next, List.length_append, ih]
    by_cases hs : (T (stepAt k)).isSome = true
    · rw [if_pos hs]
      have h2 := h1.1 hs
      simp only [List.length_cons, List.length_nil]
      repeat' split
      all_goals omega
    · rw [if_neg hs]
      have h2 : ¬ (k = P ∨ k = Q) := fun q => hs (h1.2 q)
      simp only [List.length_nil]
      repeat' split
      all_goals omega
def tabTwo (o s : StepT) (x y : Int) : StepT → Option Int := updK (updK (updK noT o 33) s x) s y
theorem tabTwo_some (o s : StepT) (x y : Int) (t : StepT) : (tabTwo o s x y t).isSome = true ↔ (t = s ∨ t = o) := by
  unfold tabTwo updK noT
  by_cases h1 : t = s
  · simp [h1]
  · by_cases h2 : t = o
    · simp [h2]
      by_cases h3 : o = s <;> simp [h3]
    · simp [h1, h2]
theorem tabTwo_len {o s : StepT} (x y : Int) (ho : stOk o) (hs : stOk s) : (allS (tabTwo o s x y)).length = if o = s then 1 else 2 := by
  obtain ⟨q1, q2⟩ := stepAt_place ho
  obtain ⟨q3, q4⟩ := stepAt_place hs
  unfold allS
  rw [allK_two (tabTwo o s x y) (placeOf s) (placeOf o) (fun k hk => by
    rw [tabTwo_some]
    constructor
    · rintro (e | e)
      · left; rw [← q3] at e; exact stepAt_inj e
      · right; rw [← q1] at e; exact stepAt_inj e
    · rintro (rfl | rfl)
      · exact .inl q3
      · exact .inr q1) 36 (Nat.le_refl _)]
  rw [if_pos q4]
  by_cases e : o = s
  · subst e; simp
  · rw [if_neg e, if_pos ⟨q2, fun e2 => e (by rw [← q1, ← q3, e2])⟩]
theorem tabTwo_s (o s : StepT) (x y : Int) : getT (tabTwo o s x y) s = y := by
  unfold getT tabTwo
  rw [updK_same]; rfl
theorem tabTwo_o {o s : StepT} (x y : Int) (h : o ≠ s) : getT (tabTwo o s x y) o = 33 := by
  unfold getT tabTwo
  rw [updK_other _ _ h, updK_other _ _ h, updK_same]; rfl
theorem cashOne (T : StepT → Option Int) (h : CutT T) (t : Int) : cutV T 0 ⟨1, 0, 1, 1, 0⟩ t = getT T (1, 0) := by
  have hb := h.get (1, 0)
  have e : cutV T 0 ⟨1, 0, 1, 1, 0⟩ t = min (getT T (1, 0) + 0) 10000 := by
    unfold cutV
    rw [if_pos (by unfold AsOk AsIn; simp)]
    rw [if_pos (by unfold lfB; simp)]
    rfl
  rw [e]
  omega
set_option maxRecDepth 100000 in
set_option maxHeartbeats 8000000 in
theorem walk_cutSteps (c d o a b : Int) (A : Nat → Addr) (w : World) (c0 : -9223372036854775808 ≤ c) (c1 : c ≤ 9223372036854775807) (d0 : -9223372036854775808 ≤ d) (d1 : d ≤ 9223372036854775807) (o0 : -9223372036854775808 ≤ o) (o1 : o ≤ 9223372036854775807)
    (a0 : -9223372036854775808 ≤ a) (a1 : a ≤ 9223372036854775807) (b0 : -9223372036854775808 ≤ b) (b1 : b ≤ 9223372036854775807) (hS : SentsOn [2] w A) (hT : EndsOn w) :
    Calls Tryd.prog 6 #[.int .i64 c, .int .i64 d, .int .i64 o, .int .i64 a, .int .i64 b] w fun r w' => r = .returned (.bool true) ∧ Below w.heap.size w w' := by
  have hE := hidden hS.on
  have hF := hidden (law12_first A w hE.out hT)
  have hNc := hidden (fun W => number_any c 6 W c0 c1 (by decide) (by decide))
  have hNd := hidden (fun W => number_any d 6 W d0 d1 (by decide) (by decide))
  have hNo := hidden (fun W => number_any o 36 W o0 o1 (by decide) (by decide))
  have hNa := hidden (fun W => number_any a 10001 W a0 a1 (by decide) (by decide))
  have hNb := hidden (fun W => number_any b 10001 W b0 b1 (by decide) (by decide))
  obtain ⟨C, hC, hC1, hC2⟩ : ∃ C, c % 6 = C ∧ 0 ≤ C ∧ C < 6 := ⟨c % 6, rfl, by omega, by omega⟩
  obtain ⟨D, hD, hD1, hD2⟩ : ∃ C, d % 6 = C ∧ 0 ≤ C ∧ C < 6 := ⟨d % 6, rfl, by omega, by omega⟩
  obtain ⟨O, hO, hO1, hO2⟩ : ∃ C, o % 36 = C ∧ 0 ≤ C ∧ C < 36 := ⟨o % 36, rfl, by omega, by omega⟩
  obtain ⟨X, hX, hX1, hX2⟩ : ∃ C, a % 10001 = C ∧ 0 ≤ C ∧ C < 10001 := ⟨a % 10001, rfl, by omega, by omega⟩
  obtain ⟨Y, hY, hY1, hY2⟩ : ∃ C, b % 10001 = C ∧ 0 ≤ C ∧ C < 10001 := ⟨b % 10001, rfl, by omega, by omega⟩
  rw [hC] at hNc
  rw [hD] at hNd
  rw [hO] at hNo
  rw [hX] at hNa
  rw [hY] at hNb
  clear hC hD hO hX hY c0 c1 d0 d1 o0 o1 a0 a1 b0 b1 hS
  have hT' := hidden hT
  clear hT
  go_enter Tryd.func6, Tryd.ntmps6
  go_wp2_with fail
  refine hF.out.mono ?_
  rintro r w1 ⟨rfl, hb⟩
  replace hb := hidden hb
  clear hF
  go_wp2_with fail
  refine (hNc.out _).mono ?_
  rintro r w2 ⟨rfl, rfl⟩
  go_wp2_with fail
  refine (hNd.out _).mono ?_
  rintro r w2 ⟨rfl, rfl⟩
  go_wp2_with fail
  refine (hNo.out _).mono ?_
  rintro r w2 ⟨rfl, rfl⟩
  go_wp2_with fail
  refine (hNa.out _).mono ?_
  rintro r w2 ⟨rfl, rfl⟩
  go_wp2_with fail
  refine (hNb.out _).mono ?_
  rintro r w2 ⟨rfl, rfl⟩
  clear hNc hNd hNo hNa hNb
  have hP : 1 ≤ O / 6 + 1 ∧ O / 6 + 1 ≤ 6 := by omega
  have hQ : 0 ≤ O % 6 ∧ O % 6 < 6 := by omega
  have hCC : 1 ≤ C + 1 ∧ C + 1 ≤ 6 := by omega
  have hn := hidden (lnew12 hb.out)
  clear hb
  go_upto_region 12 with (fail)
  generalize O / 6 + 1 = PP at *
  generalize O % 6 = Q at *
  generalize C + 1 = CC at *
  have so : stOk (PP, Q) := ⟨hP, hQ⟩
  have ss : stOk (CC, D) := ⟨hCC, hD1, hD2⟩
  have bX : bpOk X := ⟨hX1, by omega⟩
  have bY : bpOk Y := ⟨hY1, by omega⟩
  clear hP hQ hCC hD1 hD2 hX1 hX2 hY1 hY2 hO1 hO2 hC1 hC2
  obtain ⟨hL0, hb0⟩ := hn.out
  have hb1 := (hb0.alloc hb0.size (stpO (CC, D)))
  have hL1 := hL0.below (below_st _ (CC, D)) (Nat.le_refl _)
  have hb2 := hidden (hb1.alloc hb1.size (stpO (PP, Q)))
  have hL2 := hidden (hL1.below (below_st _ (PP, Q)) (Nat.le_refl _))
  have r1 : (((w1.alloc (.cells #[.map none, .int .i64 0] 28)).alloc (stpO (CC, D))).alloc (stpO (PP, Q))).heap[w1.heap.size + 1]? = some (stpO (CC, D)) := by
    rw [heap_alloc_old _ _ (by simp)]
    have := heap_alloc_new (w1.alloc (.cells #[.map none, .int .i64 0] 28)) (stpO (CC, D))
    simpa using this
  have r2 : (((w1.alloc (.cells #[.map none, .int .i64 0] 28)).alloc (stpO (CC, D))).alloc (stpO (PP, Q))).heap[w1.heap.size + 1 + 1]? = some (stpO (PP, Q)) := by
    have := heap_alloc_new ((w1.alloc (.cells #[.map none, .int .i64 0] 28)).alloc (stpO (CC, D))) (stpO (PP, Q))
    simpa using this
  have n1 := hidden (show w1.heap.size + 1 ≠ w1.heap.size by omega)
  have n2 := hidden (show w1.heap.size + 1 + 1 ≠ w1.heap.size by omega)
  clear hn hL0 hb0 hb1 hL1
  generalize hW : ((w1.alloc (.cells #[.map none, .int .i64 0] 28)).alloc (stpO (CC, D))).alloc (stpO (PP, Q)) = w2 at *
  clear hW
  generalize w1.heap.size = g at *
  have e1 : setC (PP, Q) 33 = 0 := if_pos ⟨so, by unfold bpOk; omega⟩
  have t1 : setT noT (PP, Q) 33 = updK noT (PP, Q) 33 := if_pos ⟨so, by unfold bpOk; omega⟩
  have e2 : setC (CC, D) X = 0 := if_pos ⟨ss, bX⟩
  have t2 : setT (updK noT (PP, Q) 33) (CC, D) X = updK (updK noT (PP, Q) 33) (CC, D) X := if_pos ⟨ss, bX⟩
  have e3 : setC (CC, D) Y = 0 := if_pos ⟨ss, bY⟩
  have t3 : setT (updK (updK noT (PP, Q) 33) (CC, D) X) (CC, D) Y = tabTwo (PP, Q) (CC, D) X Y := if_pos ⟨ss, bY⟩
  obtain ⟨k0, k1⟩ := stp_cells r2
  replace r1 := hidden r1
  replace r2 := hidden r2
  replace e1 := hidden e1
  replace e2 := hidden e2
  replace e3 := hidden e3
  replace t1 := hidden t1
  replace t2 := hidden t2
  replace t3 := hidden t3
  go_wp2_with fail
  refine (lsetT12 hb2.out hL2.out (by decide) hE.out (PP, Q) 33).mono ?_
  rintro r w3 ⟨rfl, hL3, hb3, hk3⟩
  rw [e1.out, errOf_fine]
  rw [t1.out] at hL3
  replace r1 := hidden (hk3 _ _ n1.out r1.out)
  replace r2 := hidden (hk3 _ _ n2.out r2.out)
  replace hL3 := hidden hL3
  replace hb3 := hidden hb3
  clear hk3 hb2 hL2 k0 k1 e1 t1
  obtain ⟨k0, k1⟩ := stp_cells r1.out
  go_wp2_with fail
  refine (lsetT12 hb3.out hL3.out (by decide) hE.out (CC, D) X).mono ?_
  rintro r w4 ⟨rfl, hL4, hb4, hk4⟩
  rw [e2.out, errOf_fine]
  rw [t2.out] at hL4
  replace r1 := hidden (hk4 _ _ n1.out r1.out)
  replace r2 := hidden (hk4 _ _ n2.out r2.out)
  replace hL4 := hidden hL4
  replace hb4 := hidden hb4
  clear hk4 hb3 hL3 k0 k1 e2 t2
  obtain ⟨k0, k1⟩ := stp_cells r1.out
  go_wp2_with fail
  refine (lsetT12 hb4.out hL4.out (by decide) hE.out (CC, D) Y).mono ?_
  rintro r w5 ⟨rfl, hL5, hb5, hk5⟩
  rw [e3.out, errOf_fine]
  rw [t3.out] at hL5
  replace r1 := hidden (hk5 _ _ n1.out r1.out)
  replace r2 := hidden (hk5 _ _ n2.out r2.out)
  have gs := hidden (tabTwo_s (PP, Q) (CC, D) X Y)
  have go_ := hidden (fun h => @tabTwo_o (PP, Q) (CC, D) X Y h)
  have gl := hidden (tabTwo_len X Y so ss)
  have gc := hidden (cashOne (tabTwo (PP, Q) (CC, D) X Y) hL5.cut 9)
  replace hL5 := hidden hL5
  replace hb5 := hidden hb5
  clear hk5 hb4 hL4 k0 k1 e3 t3 n1 n2 bX bY
  replace so := hidden so.isIn
  replace ss := hidden ss.isIn
  obtain ⟨k0, k1⟩ := stp_cells r1.out
  obtain ⟨k2, k3⟩ := stp_cells r2.out
  by_cases hEq : ((PP, Q) : StepT) = (CC, D)
  · simp only [Prod.mk.injEq] at hEq
    obtain ⟨rfl, rfl⟩ := hEq
    rw [if_pos rfl] at gl
    clear go_
    have gs2 := hidden gs.out
    go_wp2_with fail
    refine (lget12 hb5.out hL5.out (PP, Q) ss.out).mono ?_
    rintro r w6 ⟨rfl, hL6, hb6, hd6⟩
    rw [gs.out]
    replace r1 := hidden (stp_below r1.out hd6)
    replace r2 := hidden (stp_below r2.out hd6)
    replace hL6 := hidden hL6
    replace hb6 := hidden hb6
    clear hL5 hb5 hd6 k0 k1 k2 k3
    obtain ⟨k2, k3⟩ := stp_cells r2.out
    go_wp2_with fail
    refine (lget12 hb6.out hL6.out (PP, Q) so.out).mono ?_
    rintro r w7 ⟨rfl, hL7, hb7, _⟩
    rw [gs2.out]
    replace hL7 := hidden hL7
    replace hb7 := hidden hb7
    clear hL6 hb6 r1 r2 k2 k3 gs
    go_wp2_with fail
    refine (lall12 hb7.out hL7.out).mono ?_
    rintro r w8 ⟨⟨v8, rfl, hown⟩, hL8, hb8, _⟩
    obtain ⟨a8, c8, e8⟩ := row_slice (hown.row stepV_len)
    rw [gl.out] at e8
    subst e8
    replace hL8 := hidden hL8
    replace hb8 := hidden hb8
    clear hL7 hb7 hown gl
    go_wp2_with fail
    refine (lfx12 hb8.out hL8.out).mono ?_
    rintro r w9 ⟨rfl, hL9, hb9, _⟩
    replace hL9 := hidden hL9
    replace hb9 := hidden hb9
    clear hL8 hb8
    go_wp2_with fail
    refine (lof12 hb9.out hL9.out hE.out hT'.out ⟨1, 0, 1, 1, 0⟩ 9 (by decide) (by decide)).mono ?_
    rintro r wa ⟨rfl, hLa, hba, _⟩
    rw [gc.out]
    replace hLa := hidden hLa
    replace hba := hidden hba
    clear hL9 hb9
    go_wp2_with fail
    refine (lget12 hba.out hLa.out (1, 0) (by unfold stIn; simp)).mono ?_
    rintro r wb ⟨rfl, hLb, hbb, _⟩
    replace hbb := hidden hbb
    clear hLa hba hLb gc
    go_wp2
    go_ret
    exact ⟨rfl, hbb.out⟩
  · rw [if_neg hEq] at gl
    replace go_ := hidden (go_.out hEq)
    have hw : (PP == CC) = false ∨ ((PP == CC) = true ∧ (Q == D) = false) := by
      by_cases h1 : PP = CC
      · right
        refine ⟨by simpa using h1, ?_⟩
        have : ¬ Q = D := fun h2 => hEq (by rw [h1, h2])
        simpa using this
      · left; simpa using h1
    clear hEq
    rcases hw with t1 | ⟨t1, t2⟩
    all_goals
      go_wp2_with fail
      refine (lget12 hb5.out hL5.out (CC, D) ss.out).mono ?_
      rintro r w6 ⟨rfl, hL6, hb6, hd6⟩
      rw [gs.out]
      replace r1 := hidden (stp_below r1.out hd6)
      replace r2 := hidden (stp_below r2.out hd6)
      replace hL6 := hidden hL6
      replace hb6 := hidden hb6
      clear hL5 hb5 hd6 k0 k1 k2 k3
      obtain ⟨k2, k3⟩ := stp_cells r2.out
      go_wp2_with fail
      refine (lget12 hb6.out hL6.out (PP, Q) so.out).mono ?_
      rintro r w7 ⟨rfl, hL7, hb7, _⟩
      rw [go_.out]
      replace hL7 := hidden hL7
      replace hb7 := hidden hb7
      clear hL6 hb6 r1 r2 k2 k3 gs
      go_wp2_with fail
      refine (lall12 hb7.out hL7.out).mono ?_
      rintro r w8 ⟨⟨v8, rfl, hown⟩, hL8, hb8, _⟩
      obtain ⟨a8, c8, e8⟩ := row_slice (hown.row stepV_len)
      rw [gl.out] at e8
      subst e8
      replace hL8 := hidden hL8
      replace hb8 := hidden hb8
      clear hL7 hb7 hown gl
      go_wp2_with fail
      refine (lfx12 hb8.out hL8.out).mono ?_
      rintro r w9 ⟨rfl, hL9, hb9, _⟩
      replace hL9 := hidden hL9
      replace hb9 := hidden hb9
      clear hL8 hb8
      go_wp2_with fail
      refine (lof12 hb9.out hL9.out hE.out hT'.out ⟨1, 0, 1, 1, 0⟩ 9 (by decide) (by decide)).mono ?_
      rintro r wa ⟨rfl, hLa, hba, _⟩
      rw [gc.out]
      replace hLa := hidden hLa
      replace hba := hidden hba
      clear hL9 hb9
      go_wp2_with fail
      refine (lget12 hba.out hLa.out (1, 0) (by unfold stIn; simp)).mono ?_
      rintro r wb ⟨rfl, hLb, hbb, _⟩
      replace hbb := hidden hbb
      clear hLa hba hLb gc
      go_wp2
      go_ret
      exact ⟨rfl, hbb.out⟩
end Go.Proofs.YthlepeeejmeahaaDoor
