/-
  CertTakes (chapter 21), walked: what the search finds is right, and one unit less is never cheaper than what is sure.
-/
import Derived.Test.YtmihpgccdknhfaaDoorCertWrongWalk
import Derived.Test.YtmihpgccdknhfaaDoorPbArg
namespace Go.Proofs.YtmihpgccdknhfaaDoor
open Go Go.RowKit
set_option linter.unusedVariables false

/-- what is known of a take that is found, and of one unit less. -/
theorem found_ck {L : List Lt} {C : List Int} {n bud : Int} (hok : OkP L C n) (h : beC L C n bud = 0) : ckC L C n (beR L C n bud).1.best (beW L C n bud) (beR L C n bud).1.cost = 0 := by
  obtain ⟨hf, hw⟩ := be_found h
  exact ck_fine.2 ⟨hok, hf.tk, hw.symm, hf.cost.symm, by rw [hw]; exact hf.fits⟩
theorem found_less {L : List Lt} {C : List Int} {n bud : Int} (hok : OkP L C n) (h : beC L C n bud = 0) {i : Nat} (hs : SwIs L C n (beR L C n bud).1.best (some i)) :
    fiB L C n (less (beR L C n bud).1.best i) = true ∧ ∃ c2, coV L C n (less (beR L C n bud).1.best i) = c2 ∧ goodB L C n (less (beR L C n bud).1.best i) = true ∧ c2 ≤ (beR L C n bud).1.cost ∧ ((beR L C n bud).2 = true → c2 = (beR L C n bud).1.cost) := by
  obtain ⟨hf, hw⟩ := be_found h
  obtain ⟨h1, h2, h3, h4⟩ := hs
  obtain ⟨_, g2, g3⟩ := fi_good h3
  have hg := goodB_yes hok g2
  have e : coV L C n (less (beR L C n bud).1.best i) = co L (less (beR L C n bud).1.best i) := by unfold coV; rw [hg, if_pos rfl]
  have hc := less_cost hok (T := (beR L C n bud).1.best) (i := i) (by have := hf.tk.1; omega) hf.tk.1
  refine ⟨h3, _, e, hg, by rw [hf.cost]; omega, fun s => ?_⟩
  have := hf.sure s _ g2 g3
  rw [hf.cost] at this ⊢
  omega
theorem pbS_low {w0 W : World} {g : Nat} {lv cv : Value} {n : Int} (h : PbS w0 g lv cv n W) : Below w0.heap.size w0 W := h.2.2.2
set_option maxRecDepth 100000 in
set_option maxHeartbeats 12800000 in
theorem walk_certTakes (p : PbX) (bud : Int) (A : Nat → Addr) (w : World) (hp : PbIs w p) (m0 : -9223372036854775808 ≤ bud) (m1 : bud ≤ 9223372036854775807) (hS : Sents w A) :
    Calls Tryd.prog 4 #[pbA p.lv p.cv p.n, .int .i64 bud] w fun r w' => r = .returned (.bool true) ∧ Below w.heap.size w w' := by
  obtain ⟨lv, cv, L, C, n⟩ := p
  obtain ⟨hpr, hnd⟩ := hp
  simp only at hpr hnd
  have hb0 := below_pb w pbTy lv cv n
  have hpb := pbAt_new w pbTy lv cv n
  have hbx := hidden (fun W (hW : Below (w.alloc (pbO pbTy lv cv n)).heap.size (w.alloc (pbO pbTy lv cv n)) W) => hb0.trans (hW.mono hb0.size))
  have hc := hidden (fun W (hW : Below (w.alloc (pbO pbTy lv cv n)).heap.size (w.alloc (pbO pbTy lv cv n)) W) => (hpb.below hW (Nat.le_refl _)).cells)
  have hSW := hidden (fun W (hW : Below (w.alloc (pbO pbTy lv cv n)).heap.size (w.alloc (pbO pbTy lv cv n)) W) => hS.below (hbx.out W hW) (Nat.le_refl _))
  have hE := hidden (fun W (hW : Below (w.alloc (pbO pbTy lv cv n)).heap.size (w.alloc (pbO pbTy lv cv n)) W) => (hSW.out W hW).on [1, 2, 4, 14, 20] (by simp))
  have hR := hidden (fun W (hW : Below (w.alloc (pbO pbTy lv cv n)).heap.size (w.alloc (pbO pbTy lv cv n)) W) => hpr.below (hbx.out W hW) (Nat.le_refl _))
  have hF := hidden (law21_first A _ ((hE.out _ (Below.refl _ _)).sub (by simp)))
  have hVa := hidden (fun W hW => ltValid_any A lv cv L C n W (hR.out W hW) ((hE.out W hW).sub (by simp)))
  have hx := hidden (show 0 ≤ bud % 2000 ∧ bud % 2000 < 2000 by omega)
  have nA := hidden (fun W => number_any bud 2000 W m0 m1 (by decide) (by decide))
  have hBe := hidden (fun W hW => best_any A lv cv L C n (bud % 2000) W (hR.out W hW) ((hE.out W hW).sub (by simp)) (by unfold In64; omega))
  unfold BeAt at hBe
  have hGp := hidden (fun W hW tv T wt c s k hr => gapAny21 A lv cv L C n tv T wt c s k W (hR.out W hW) hr ((hE.out W hW).sub (by simp)))
  unfold GpAt at hGp
  have hCk := hidden (fun W hW tv T wt c s k hr => ckAny21 A lv cv L C n tv T wt c s k W (hR.out W hW) hr ((hE.out W hW).sub (by simp)))
  have hLe := hidden (fun W hW hok => least_yes A lv cv L C n 0 n W (hR.out W hW) ((hE.out W hW).sub (by simp)) hok (Nat.zero_le _) hnd.1 hnd.2)
  rw [show ((0 : Nat) : Int) = 0 from rfl] at hLe
  have hSw := hidden (fun W hW tv T hr => swapAny21 A lv cv L C n tv T W (hR.out W hW) hr ((hE.out W hW).sub (by simp)))
  unfold SwAt at hSw
  have hCo := hidden (fun W hW tv t hr => ltCost_any A lv cv L C n tv t W (hR.out W hW) hr ((hE.out W hW).sub (by simp)))
  have hFi := hidden (fun W hW tv t hr => ltFits_any A lv cv L C n tv t W (hR.out W hW) hr ((hE.out W hW).sub (by simp)))
  obtain ⟨la, lc, rfl⟩ := row_slice hpr.lots
  obtain ⟨ca, cc, rfl⟩ := reads_slice hpr.caps
  clear hpr hS hb0 hpb m0 m1 hnd
  generalize bud % 2000 = x at *
  obtain ⟨d0, d1, d2⟩ := hc.out _ (Below.refl _ _)
  go_enter Tryd.func4, Tryd.ntmps4
  go_wp2_with fail
  generalize w.alloc (pbO pbTy (.slice la L.length lc) (.slice ca C.length cc) n) = wP at *
  (with_reducible refine hF.out.mono ?_)
  rintro r w1 ⟨rfl, hb1⟩
  obtain ⟨c0, c1, c2⟩ := hc.out _ hb1
  have hV2 := hidden (hVa.out _ hb1)
  replace hb1 := hidden hb1
  clear hF d0 d1 d2 hVa
  by_cases hok : OkP L C n
  · rw [pbC_ok hok, errOf_fine] at hV2
    have ex := be_code hok (bud := x) (by have := hx.out; omega) (by have := hx.out; omega)
    have hLe1 := hidden (fun W hW => hLe.out W hW hok)
    clear hLe
    go_wp2_with fail
    (with_reducible refine hV2.out.mono ?_)
    rintro r w2 ⟨rfl, hb2⟩
    replace hb2 := hb1.out.trans (hb2.mono hb1.out.size)
    clear c0 c1 c2 hV2 hb1
    obtain ⟨c0, c1, c2⟩ := hc.out _ hb2
    have hcl := hidden (fun W hW => show PbS wP w.heap.size (.slice la L.length lc) (.slice ca C.length cc) n W from by
      obtain ⟨e0, e1, e2⟩ := hc.out W hW
      exact ⟨e0, e1, e2, hW⟩)
    have hs0 := hidden (hcl.out _ hb2.drew)
    replace hb2 := hidden hb2
    go_upto_region 6 with (fail)
    go_cut [6, 7] (fun v e wx => ∃ g tv, v = .pointer (some ⟨g, 0, none⟩) ∧ e = errOf A (beC L C n x) ∧ wx.heap[g]? = some (reO tv (beW L C n x) (beR L C n x).1.cost (beR L C n x).2 (beR L C n x).1.looked) ∧ Reads .i64 wx tv (beR L C n x).1.best ∧ Below wP.heap.size wP wx)
    case first =>
      clear hGp hCk hLe1 hSw hCo hFi hE hR hSW ex c0 c1 c2
      generalize errOf A (beC L C n x) = ev at *
      generalize beW L C n x = wv at *
      generalize beR L C n x = R at *
      obtain ⟨⟨Rst, T1, K1, k1⟩, S1⟩ := R
      simp only at hBe ⊢
      go_region_held3 (fun W => W.cell? ⟨w.heap.size, 0, none⟩ = some (.slice la L.length lc) ∧ W.cell? ⟨w.heap.size, 1, none⟩ = some (.slice ca C.length cc) ∧ W.cell? ⟨w.heap.size, 2, none⟩ = some (.int .i64 n) ∧ Below wP.heap.size wP W)
        ((first | with_reducible exact hs0.out | with_reducible assumption | with_reducible exact pbS_next (by assumption) (by assumption) | with_reducible exact pbS_next (by assumption) (below_re _ _ _ _ _ _) | with_reducible exact hcl.out _ (re_put_below hz6.out hg6.out _ _ _ _ _) | with_reducible exact hcl.out _ (hz6.out.alloc hz6.out.size _) | exact pbS_next (by assumption) (below_re _ _ _ _ _ _) | exact hcl.out _ (re_put_below hz6.out hg6.out _ _ _ _ _)))
        ((first
          | (go_at_call 19; (with_reducible refine (nA.out _).mono ?_); rintro e w' ⟨rfl, rfl⟩)
          | (go_at_call 18; (with_reducible refine (hBe.out _ (pbS_low (g := w.heap.size) (lv := .slice la L.length lc) (cv := .slice ca C.length cc) (n := n) (by first | exact hs0.out | assumption))).mono ?_); rintro e w6 ⟨v6, rfl, hr6, ho6, hb6⟩; obtain ⟨va6, vc6, rfl⟩ := reads_slice hr6; have hz6 := hidden ((pbS_low (g := w.heap.size) (lv := .slice la L.length lc) (cv := .slice ca C.length cc) (n := n) (by first | exact hs0.out | assumption)).trans (hb6.mono (pbS_low (g := w.heap.size) (lv := .slice la L.length lc) (cv := .slice ca C.length cc) (n := n) (by first | exact hs0.out | assumption)).size)); first | (have hx6 := hidden (row_later (w := w2.alloc (reO (.slice none 0 0) 0 0 false 0)) (heap_alloc_new w2 (reO (.slice none 0 0) 0 0 false 0)) (show Below (w2.alloc (reO (.slice none 0 0) 0 0 false 0)).heap.size (w2.alloc (reO (.slice none 0 0) 0 0 false 0)) w6 from (Below.refl _ _).drew.trans hb6)); have hg6 := hidden hb2.out.size; obtain ⟨⟨z0, z1, z2, z3, z4⟩, hf6⟩ := re_cells hx6.out; have f0 := hf6 0; have f1 := hf6 1; have f2 := hf6 2; have f3 := hf6 3; have f4 := hf6 4; replace hf6 := hidden hf6) | skip)))
      all_goals
        go_wp2_with fail
        go_meet
        first
          | exact ⟨_, _, rfl, rfl, re_put hx6.out _ _ _ _ _, hr6.trd (re_put_trd w6 w2.heap.size _ _ _ _ _) (fun b hb => by
              have h1 := ho6 b hb
              have h2 : w2.heap.size + 1 ≤ b := by simpa [World.size_alloc] using h1
              omega), re_put_below hz6.out hg6.out _ _ _ _ _⟩
          | exact ⟨_, _, rfl, rfl, heap_alloc_new w6 _, hr6.below ((Below.refl _ w6).alloc (Nat.le_refl _) _) (Nat.le_refl _), hz6.out.alloc hz6.out.size _⟩
    case rest =>
      obtain ⟨g, tv, rfl, rfl, hz, hrt, hbc⟩ := hcut
      have hway : (beC L C n x = 121) ∨ (beC L C n x = 0) := by rw [ex]; split <;> simp
      replace hz := hidden hz
      rcases hway with h0 | h0
      · rw [h0, errOf_121]
        have hI := hidden (is_yes21 A 121 (A 20) wc (hSW.out _ hbc) (by unfold codeOk; decide) rfl)
        have hend := hidden (fun W (hW : Below wc.heap.size wc W) => hbx.out _ (hbc.trans (hW.mono hbc.size)))
        clear hBe hGp hCk hLe1 hSw hCo hFi hE hR hSW nA hx ex hz hrt hbc hs0 hcl hb2 hc hbx c0 c1 c2 hok h0
        go_wp2_with fail
        (with_reducible refine hI.out.mono ?_)
        rintro r w3 ⟨rfl, hb3⟩
        replace hend := hidden (hend.out _ hb3)
        clear hI hb3
        go_wp2
        go_ret
        exact ⟨rfl, hend.out⟩
      · have hck := found_ck hok h0
        have hfl := hidden (fun i hs => found_less hok h0 (i := i) hs)
        obtain ⟨g1, g2, g3, g4, g5⟩ := gp_fine hck
        rw [h0, errOf_fine]
        have hGp1 := hidden (fun W hW tv wt c s k hr => hGp.out W hW tv (beR L C n x).1.best wt c s k hr)
        have hG1 := hidden (fun W hW s k tv hr => hGp.out W hW tv (beR L C n x).1.best (beW L C n x) (beR L C n x).1.cost s k hr)
        rw [g1, hck, errOf_fine] at hG1
        have hC1 := hidden (fun W hW s k tv hr => hCk.out W hW tv (beR L C n x).1.best (beW L C n x) (beR L C n x).1.cost s k hr)
        rw [hck, errOf_fine] at hC1
        rw [g2] at hLe1
        have hSw1 := hidden (fun W hW tv hr => hSw.out W hW tv (beR L C n x).1.best hr)
        have hzW := hidden (fun W (hW : Below wc.heap.size wc W) => (re_cells (row_later hz.out hW)).1)
        have hrW := hidden (fun W (hW : Below wc.heap.size wc W) => hrt.below hW (Nat.le_refl _))
        have hpW := hidden (fun W (hW : Below wc.heap.size wc W) => hbc.trans (hW.mono hbc.size))
        clear hBe hGp hCk hSw hE hR hSW nA hx ex hz hbc hs0 hcl hb2 c0 c1 c2 hok h0 hck hGp1
        generalize beW L C n x = wv at *
        generalize beR L C n x = R at *
        obtain ⟨⟨Rst, T1, K1, k1⟩, S1⟩ := R
        simp only at hfl g3 g4 g5 hG1 hC1 hSw1 hzW hrW hrt
        generalize lsV L 0 n = ls at *
        obtain ⟨gv, hgv⟩ : ∃ gv, K1 - ls = gv := ⟨_, rfl⟩
        rw [hgv] at hG1
        have t1 : decide (gv < 0) = false := decide_eq_false (by omega)
        have t2 : decide (K1 < ls) = false := decide_eq_false (by omega)
        clear hgv g3 g4 g5
        obtain ⟨va, vc, rfl⟩ := reads_slice hrt
        obtain ⟨c0, c1, c2⟩ := hc.out _ (hpW.out _ (Below.refl _ _))
        obtain ⟨z0, z1, z2, z3, z4⟩ := hzW.out _ (Below.refl _ _)
        have hX := hidden (hG1.out _ (hpW.out _ (Below.refl _ _)) S1 k1 _ hrt)
        clear hG1 hrt
        go_wp2_with fail
        (with_reducible refine hX.out.mono ?_)
        rintro e w3 ⟨rfl, hb3⟩
        clear hX c0 c1 c2 z0 z1 z2 z3 z4
        obtain ⟨c0, c1, c2⟩ := hc.out _ (hpW.out _ hb3)
        obtain ⟨z0, z1, z2, z3, z4⟩ := hzW.out _ hb3
        have hX := hidden (hLe1.out _ (hpW.out _ hb3))
        replace hb3 := hidden hb3
        clear hLe1
        go_wp2_with fail
        (with_reducible refine hX.out.mono ?_)
        rintro e w4 ⟨rfl, hb4⟩
        replace hb4 := hb3.out.trans (hb4.mono hb3.out.size)
        clear hX c0 c1 c2 z0 z1 z2 z3 z4 hb3
        obtain ⟨c0, c1, c2⟩ := hc.out _ (hpW.out _ hb4)
        obtain ⟨z0, z1, z2, z3, z4⟩ := hzW.out _ hb4
        have hX := hidden (hC1.out _ (hpW.out _ hb4) S1 k1 _ (hrW.out _ hb4))
        replace hb4 := hidden hb4
        clear hC1
        go_wp2_with fail
        (with_reducible refine hX.out.mono ?_)
        rintro e w5 ⟨rfl, hb5⟩
        replace hb5 := hb4.out.trans (hb5.mono hb4.out.size)
        clear hX c0 c1 c2 z0 z1 z2 z3 z4 hb4
        obtain ⟨c0, c1, c2⟩ := hc.out _ (hpW.out _ hb5)
        obtain ⟨z0, z1, z2, z3, z4⟩ := hzW.out _ hb5
        have hX := hidden (hSw1.out _ (hpW.out _ hb5) _ (hrW.out _ hb5))
        replace hb5 := hidden hb5
        clear hSw1
        go_wp2_with fail
        (with_reducible refine hX.out.mono ?_)
        rintro e w6 ⟨o, v, hsw, rfl, hrs, hb6⟩
        replace hb6 := hb5.out.trans (hb6.mono hb5.out.size)
        clear hX c0 c1 c2 z0 z1 z2 z3 z4 hb5
        obtain ⟨c0, c1, c2⟩ := hc.out _ (hpW.out _ hb6)
        obtain ⟨z0, z1, z2, z3, z4⟩ := hzW.out _ hb6
        replace hsw := hidden hsw
        cases o with
        | none =>
          have hend := hidden (hbx.out _ (hpW.out _ hb6))
          obtain ⟨sa, sc, rfl⟩ := reads_slice hrs
          simp only [Option.isSome_none]
          clear hb6 hrs hfl hCo hFi hzW hrW hpW hc hbx hsw
          go_wp2
          go_ret
          exact ⟨rfl, hend.out⟩
        | some i =>
          obtain ⟨q1, c2', q2, q3, q4, q5⟩ := hfl.out i hsw.out
          have hX := hidden (hCo.out _ (hpW.out _ hb6) _ _ hrs)
          have hrsW := hidden (fun W (hW : Below w6.heap.size w6 W) => hrs.below hW (Nat.le_refl _))
          have hFi1 := hidden (fun W hW tv hr => hFi.out W hW tv (less T1 i) hr)
          rw [q1] at hFi1
          have e1 : swL T1 (some i) = less T1 i := rfl
          rw [e1, q2, q3] at hX
          rw [e1] at hrsW hrs
          obtain ⟨sa, sc, rfl⟩ := reads_slice hrs
          have t3 : decide (c2' ≤ K1) = true := decide_eq_true q4
          replace q5 := hidden q5
          simp only [Option.isSome_some]
          replace hb6 := hidden hb6
          clear hrs hfl hCo hFi hrW hsw q1 q2 q3 q4 e1
          go_wp2_with fail
          (with_reducible refine hX.out.mono ?_)
          rintro e w7 ⟨rfl, hb7⟩
          have hrs7 := hrsW.out _ hb7
          replace hb7 := hb6.out.trans (hb7.mono hb6.out.size)
          clear hX c0 c1 c2 z0 z1 z2 z3 z4 hb6 hrsW
          obtain ⟨c0, c1, c2⟩ := hc.out _ (hpW.out _ hb7)
          obtain ⟨z0, z1, z2, z3, z4⟩ := hzW.out _ hb7
          have hX := hidden (hFi1.out _ (hpW.out _ hb7) _ hrs7)
          replace hb7 := hidden hb7
          clear hFi1 hrs7
          go_wp2_with fail
          (with_reducible refine hX.out.mono ?_)
          rintro e w8 ⟨rfl, hb8⟩
          replace hb8 := hb7.out.trans (hb8.mono hb7.out.size)
          clear hX c0 c1 c2 z0 z1 z2 z3 z4 hb7
          obtain ⟨c0, c1, c2⟩ := hc.out _ (hpW.out _ hb8)
          obtain ⟨z0, z1, z2, z3, z4⟩ := hzW.out _ hb8
          have hend := hidden (hbx.out _ (hpW.out _ hb8))
          clear hb8 hzW hpW hc hbx
          cases hS1 : S1
          · subst hS1
            clear q5
            go_wp2
            go_ret
            exact ⟨rfl, hend.out⟩
          · have t4 : (c2' == K1) = true := by rw [q5.out hS1]; simp
            subst hS1
            clear q5
            go_wp2
            go_ret
            exact ⟨rfl, hend.out⟩
  · have hne := errOf_pb A hok
    clear hBe hGp hCk hLe hSw hCo hFi hE hR hSW nA hx
    generalize errOf A (pbC L C n) = ev at *
    rcases hne with rfl | rfl
    all_goals
      go_wp2_with fail
      (with_reducible refine hV2.out.mono ?_)
      rintro r w2 ⟨rfl, hb2⟩
      have hend := hidden (hbx.out _ (hb1.out.trans (hb2.mono hb1.out.size)))
      clear hV2 hb1 hb2 c0 c1 c2 hc hbx
      go_wp2
      go_ret
      exact ⟨rfl, hend.out⟩
end Go.Proofs.YtmihpgccdknhfaaDoor
