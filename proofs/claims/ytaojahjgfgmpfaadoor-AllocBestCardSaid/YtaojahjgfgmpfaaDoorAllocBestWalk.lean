/-
  AllocBest (chapter 20), walked: whatever the problem and the budget, the statement answers true.
-/
import Derived.Test.YtaojahjgfgmpfaaDoorAllocRef
import Derived.Test.YtaojahjgfgmpfaaDoorAllocC
import Derived.Test.YtaojahjgfgmpfaaDoorPbArg
import Derived.Test.YtaojahjgfgmpfaaDoorSee
import Derived.Test.YtaojahjgfgmpfaaDoorLaid
namespace Go.Proofs.YtaojahjgfgmpfaaDoor
open Go Go.RowKit
set_option linter.unusedVariables false

/-- what is known where a take is found. -/
theorem best_facts {L : List Lt} {C : List Int} {n bud b : Int} {f : Bool} (hok : OkP L C n) (h0 : beC L C n bud = 0) (hS : SeenL L C n (pdL L) b f) :
    b ≤ (beR L C n bud).1.cost ∧ ((beR L C n bud).2 = true → (beR L C n bud).1.cost = b) := by
  have hfo := (be_found h0).1
  obtain ⟨hf, hb⟩ := hS.all _ hfo.tk (vaC_bd L _ hfo.tk).2 hfo.fits
  rw [← hfo.cost] at hb
  refine ⟨hb, fun hs => ?_⟩
  obtain ⟨T, hT, hTf, hTc⟩ := hS.some hf
  have := hfo.sure hs T hT hTf
  omega
theorem best_greedy {L : List Lt} {C : List Int} {n bud : Int} (hok : OkP L C n) (h0 : beC L C n bud = 0) (hg : grB L C n = true) : (beR L C n bud).1.cost ≤ coV L C n (grL L C n) := by
  have hfo := (be_found h0).1.less
  have htk := (ginv_R hok).1
  rw [grL_yes hg]
  unfold coV
  rw [goodB_yes hok htk, if_pos rfl]
  rw [hg] at hfo
  exact hfo
/-- what Best answers where there is an error. -/
theorem best_none (A : Nat → Addr) (lv cv : Value) (L : List Lt) (C : List Int) (n bud c : Int) (ae : Addr) (w : World) (h : PbR w lv cv L C) (hE : ErrsOn [2, 4, 20] w A) (hb : In64 bud) (h0 : beC L C n bud = c) (hc : c ≠ 0) (ha : errOf A c = errAt ae) :
    Calls Tryd.prog 14 #[pbA lv cv n, .int .i64 bud] w fun e w' => ∃ v, e = .returned (.tuple #[reA v 0 0 false 0, errAt ae]) ∧ Reads .i64 w' v [] ∧ Below w.heap.size w w' := by
  have hR0 : beR L C n bud = (⟨[], [], 0, 0⟩, false) := if_neg (by rw [h0]; exact hc)
  have hW0 : beW L C n bud = 0 := if_neg (by rw [h0]; exact hc)
  refine (best_any A lv cv L C n bud w h hE hb).mono ?_
  rintro e w' ⟨v, he, hr, _, hbl⟩
  rw [hR0, hW0, h0, ha] at he
  rw [hR0] at hr
  exact ⟨v, he, hr, hbl⟩
theorem is_yes (A : Nat → Addr) (c : Int) (ae : Addr) (w : World) (h : Sents w A) (hc : codeOk c) (ha : errOf A c = errAt ae) : Calls Tryd.prog 15 #[errAt ae, .int .i64 c] w fun e w' => e = .returned (.bool true) ∧ Below w.heap.size w w' := by
  have := is_any A c c w h hc
  rw [ha, show (c == c) = true from by simp] at this
  exact this
theorem is_fine (A : Nat → Addr) (w : World) (h : Sents w A) : Calls Tryd.prog 15 #[.nilIface, .int .i64 0] w fun e w' => e = .returned (.bool true) ∧ Below w.heap.size w w' := by
  have := is_any A 0 0 w h (.inl rfl)
  rw [show ((0 : Int) == 0) = true from rfl, errOf_fine] at this
  exact this
set_option maxRecDepth 100000 in
set_option maxHeartbeats 25600000 in
theorem walk_allocBest (p : PbX) (bud : Int) (A : Nat → Addr) (w : World) (hp : PbIs w p) (m0 : -9223372036854775808 ≤ bud) (m1 : bud ≤ 9223372036854775807) (hS : Sents w A) :
    Calls Tryd.prog 3 #[pbA p.lv p.cv p.n, .int .i64 bud] w fun r w' => r = .returned (.bool true) ∧ Below w.heap.size w w' := by
  obtain ⟨lv, cv, L, C, n⟩ := p
  obtain ⟨hpr, hnd⟩ := hp
  simp only at hpr hnd
  have hb0 := below_pb w pbTy lv cv n
  have hpb := pbAt_new w pbTy lv cv n
  have hbx := hidden (fun W (hW : Below (w.alloc (pbO pbTy lv cv n)).heap.size (w.alloc (pbO pbTy lv cv n)) W) => hb0.trans (hW.mono hb0.size))
  have hc := hidden (fun W (hW : Below (w.alloc (pbO pbTy lv cv n)).heap.size (w.alloc (pbO pbTy lv cv n)) W) => (hpb.below hW (Nat.le_refl _)).cells)
  have hSW := hidden (fun W (hW : Below (w.alloc (pbO pbTy lv cv n)).heap.size (w.alloc (pbO pbTy lv cv n)) W) => hS.below (hbx.out W hW) (Nat.le_refl _))
  have hE := hidden (fun W (hW : Below (w.alloc (pbO pbTy lv cv n)).heap.size (w.alloc (pbO pbTy lv cv n)) W) => (hSW.out W hW).on [2, 4, 20] (by simp))
  have hR := hidden (fun W (hW : Below (w.alloc (pbO pbTy lv cv n)).heap.size (w.alloc (pbO pbTy lv cv n)) W) => hpr.below (hbx.out W hW) (Nat.le_refl _))
  have hF := hidden (law20_first A _ (hE.out _ (Below.refl _ _)))
  have hVa := hidden (fun W hW => r18Valid_any lv cv L C n W (hR.out W hW))
  have hCh := hidden (fun W hW hok => r18Choices_any lv cv L C n W (hR.out W hW) hok)
  have hMo := hidden (fun W hW hl => r18Most_any lv cv L C n W (hR.out W hW) hl)
  have hWo := hidden (fun W hW tv' t' hr' => r18Worth_any lv cv L C n tv' t' W (hR.out W hW) hr')
  have hCo := hidden (fun W hW tv' t' hr' => r18Cost_any lv cv L C n tv' t' W (hR.out W hW) hr')
  have hCp := hidden (fun W hW hok => r18Cheapest_any lv cv L C n W (hR.out W hW) hok)
  have hGr := hidden (fun W hW => r18Greedy_any lv cv L C n W (hR.out W hW))
  have hBe := hidden (fun W hW => best_any A lv cv L C n bud W (hR.out W hW) (hE.out W hW) ⟨m0, m1⟩)
  unfold BeAt at hBe
  unfold CheapAt20 at hCp
  unfold GreedyAt at hGr
  obtain ⟨la, lc, rfl⟩ := row_slice hpr.lots
  obtain ⟨ca, cc, rfl⟩ := reads_slice hpr.caps
  have hOt := hidden (fun W => other20_any la ca L.length lc C.length cc n W)
  clear hpr hS hb0 hpb
  obtain ⟨d0, d1, d2⟩ := hc.out _ (Below.refl _ _)
  go_enter Tryd.func3, Tryd.ntmps3
  go_wp2_with fail
  generalize w.alloc (pbO pbTy (.slice la L.length lc) (.slice ca C.length cc) n) = wP at *
  (with_reducible refine hF.out.mono ?_)
  rintro r w1 ⟨rfl, hb1⟩
  obtain ⟨c0, c1, c2⟩ := hc.out _ hb1
  replace hb1 := hidden hb1
  clear hF d0 d1 d2
  by_cases h20 : (L.length : Int) ≤ 20
  · by_cases hC20 : (C.length : Int) ≤ 20
    · go_wp2_with fail
      (with_reducible refine (hOt.out _).mono ?_)
      rintro r w2 ⟨rfl, hb2⟩
      have hx0 := pbAt_new w2 pbTyR (.slice la L.length lc) (.slice ca C.length cc) n
      have hbX := hb1.out.trans ((below_alloc20 hb2 (pbO pbTyR (.slice la L.length lc) (.slice ca C.length cc) n)).mono hb1.out.size)
      have hlow := hidden (fun W (hW : Below (w2.alloc (pbO pbTyR (.slice la L.length lc) (.slice ca C.length cc) n)).heap.size (w2.alloc (pbO pbTyR (.slice la L.length lc) (.slice ca C.length cc) n)) W) => hbX.trans (hW.mono hbX.size))
      have hnow := hidden (fun W (hW : Below (w2.alloc (pbO pbTyR (.slice la L.length lc) (.slice ca C.length cc) n)).heap.size (w2.alloc (pbO pbTyR (.slice la L.length lc) (.slice ca C.length cc) n)) W) => And.intro (hc.out W (hbX.trans (hW.mono hbX.size))) (hx0.below hW (Nat.le_refl _)).cells)
      clear c0 c1 c2 hOt hx0 hbX hb1 hb2
      obtain ⟨⟨c0, c1, c2⟩, ⟨x0, x1, x2⟩⟩ := hnow.out _ (Below.refl _ _)
      have hV := hidden (hVa.out _ (hlow.out _ (Below.refl _ _)))
      clear hVa
      by_cases hok : OkP L C n
      · rw [pbC_iff.2 hok] at hV
        have hCh1 := hidden (fun W hW => hCh.out W hW hok)
        have hM1 : 1 ≤ pdL L := pdL_one L (fun x hx => (hok.2.1 x hx).1.1)
        obtain ⟨M, hM⟩ : ∃ M, min (pdL L) 3001 = M := ⟨_, rfl⟩
        rw [hM] at hCh1
        clear hCh
        by_cases hbu : bud < 0 ∨ 100000 < bud
        · have h0 : beC L C n bud = 103 := by unfold beC; rw [if_pos hok, if_pos hbu]
          have hB1 := hidden (fun W hW => best_none A _ _ L C n bud 103 (A 2) W (hR.out W hW) (hE.out W hW) ⟨m0, m1⟩ h0 (by decide) rfl)
          have cI1 := hidden (fun W hW => is_yes A 103 (A 2) W (hSW.out W hW) (by unfold codeOk; decide) rfl)
          clear hBe hCh1 hMo hWo hCo hCp hGr hSW hE hR h0 hok hM hM1 m0 m1
          go_wp2_with fail
          generalize w2.alloc (pbO pbTyR (.slice la L.length lc) (.slice ca C.length cc) n) = wX at *
          generalize w2.heap.size = gx at *
          (with_reducible refine hV.out.mono ?_)
          rintro r w3 ⟨rfl, hb3⟩
          clear c0 c1 c2 x0 x1 x2
          obtain ⟨⟨c0, c1, c2⟩, ⟨x0, x1, x2⟩⟩ := hnow.out _ hb3
          replace hb3 := hidden hb3
          clear hV
          by_cases hlo : bud < 0
          · have hd : decide (bud < 0) = true := decide_eq_true hlo
            clear hbu hlo
            go_wp2_with fail
            have hb3D := hidden (fun m => below_drewN (m := m) hb3.out)
            clear hb3
            go_quiet (fail)
            go_wp2_with fail
            (with_reducible refine (hB1.out _ (hlow.out _ (hb3D.out _))).mono ?_)
            rintro e w5 ⟨v1, rfl, hr1, hd1⟩
            obtain ⟨va1, vc1, rfl⟩ := reads_slice hr1
            have hd5 := (hb3D.out _).trans (hd1.mono (hb3D.out _).size)
            have hd5' := hidden (hd5.alloc hd5.size (reO (.slice va1 ([] : List Int).length vc1) 0 0 false 0))
            have hI := hidden (cI1.out _ (hlow.out _ hd5'.out))
            clear hr1 hd1 hB1 cI1 hb3D hd5 c0 c1 c2 x0 x1 x2
            obtain ⟨⟨c0, c1, c2⟩, ⟨x0, x1, x2⟩⟩ := hnow.out _ hd5'.out
            have hz := hidden (fun W (hW : Below (w5.alloc (reO (.slice va1 ([] : List Int).length vc1) 0 0 false 0)).heap.size (w5.alloc (reO (.slice va1 ([] : List Int).length vc1) 0 0 false 0)) W) => And.intro (hbx.out W (hlow.out _ (hd5'.out.trans (hW.mono hd5'.out.size)))) (re_cells (row_later (heap_alloc_new w5 (reO (.slice va1 ([] : List Int).length vc1) 0 0 false 0)) hW)).1)
            clear hd5' hlow hnow hbx hc
            go_wp2_with fail
            generalize w5.alloc (reO (.slice va1 ([] : List Int).length vc1) 0 0 false 0) = w6 at *
            (with_reducible refine hI.out.mono ?_)
            rintro r w7 ⟨rfl, hb7⟩
            obtain ⟨hend, z0, z1, z2, z3, z4⟩ := hz.out _ hb7
            replace hend := hidden hend
            clear hI hb7 hz c0 c1 c2 x0 x1 x2
            go_wp2
            go_ret
            exact ⟨rfl, hend.out⟩
          · have hd : decide (bud < 0) = false := decide_eq_false hlo
            have hd1 : decide (100000 < bud) = true := decide_eq_true (by omega)
            clear hbu hlo
            go_wp2_with fail
            have hb3D := hidden (fun m => below_drewN (m := m) hb3.out)
            clear hb3
            go_quiet (fail)
            go_wp2_with fail
            (with_reducible refine (hB1.out _ (hlow.out _ (hb3D.out _))).mono ?_)
            rintro e w5 ⟨v1, rfl, hr1, hd9⟩
            obtain ⟨va1, vc1, rfl⟩ := reads_slice hr1
            have hd5 := (hb3D.out _).trans (hd9.mono (hb3D.out _).size)
            have hd5' := hidden (hd5.alloc hd5.size (reO (.slice va1 ([] : List Int).length vc1) 0 0 false 0))
            have hI := hidden (cI1.out _ (hlow.out _ hd5'.out))
            clear hr1 hd9 hB1 cI1 hb3D hd5 c0 c1 c2 x0 x1 x2
            obtain ⟨⟨c0, c1, c2⟩, ⟨x0, x1, x2⟩⟩ := hnow.out _ hd5'.out
            have hz := hidden (fun W (hW : Below (w5.alloc (reO (.slice va1 ([] : List Int).length vc1) 0 0 false 0)).heap.size (w5.alloc (reO (.slice va1 ([] : List Int).length vc1) 0 0 false 0)) W) => And.intro (hbx.out W (hlow.out _ (hd5'.out.trans (hW.mono hd5'.out.size)))) (re_cells (row_later (heap_alloc_new w5 (reO (.slice va1 ([] : List Int).length vc1) 0 0 false 0)) hW)).1)
            clear hd5' hlow hnow hbx hc
            go_wp2_with fail
            generalize w5.alloc (reO (.slice va1 ([] : List Int).length vc1) 0 0 false 0) = w6 at *
            (with_reducible refine hI.out.mono ?_)
            rintro r w7 ⟨rfl, hb7⟩
            obtain ⟨hend, z0, z1, z2, z3, z4⟩ := hz.out _ hb7
            replace hend := hidden hend
            clear hI hb7 hz c0 c1 c2 x0 x1 x2
            go_wp2
            go_ret
            exact ⟨rfl, hend.out⟩
        · have g0 : 0 ≤ bud := by omega
          have g1 : bud ≤ 100000 := by omega
          have hd1 : decide (bud < 0) = false := decide_eq_false (by omega)
          have hd2 : decide (100000 < bud) = false := decide_eq_false (by omega)
          have hbc := be_code hok g0 g1
          clear hbu
          by_cases hM3 : pdL L ≤ 3000
          · obtain rfl : M = pdL L := by omega
            have hd3 : decide (3000 < pdL L) = false := decide_eq_false (by omega)
            have hL20 : L.length ≤ 1000 := by omega
            have hmo : moV L C n = wo L C (full L) := by unfold moV woV; rw [goodB_yes hok (tk_full hok), if_pos rfl]
            have hMo1 := hidden (fun W hW => hMo.out W hW hL20)
            rw [hmo] at hMo1
            clear hMo hmo
            by_cases hmn : wo L C (full L) < n
            · rw [if_pos hmn] at hbc
              have hB1 := hidden (fun W hW => best_none A _ _ L C n bud 121 (A 20) W (hR.out W hW) (hE.out W hW) ⟨m0, m1⟩ hbc (by decide) rfl)
              have cI1 := hidden (fun W hW => is_yes A 121 (A 20) W (hSW.out W hW) (by unfold codeOk; decide) rfl)
              have hdm : decide (wo L C (full L) < n) = true := decide_eq_true hmn
              clear hBe hWo hCo hCp hGr hSW hE hR hbc hok hM hM1 m0 m1 g0 g1 hM3 hL20 hmn
              generalize wo L C (full L) = mo at *
              generalize pdL L = M at *
              go_wp2_with fail
              generalize w2.alloc (pbO pbTyR (.slice la L.length lc) (.slice ca C.length cc) n) = wX at *
              generalize w2.heap.size = gx at *
              (with_reducible refine hV.out.mono ?_)
              rintro r w3 ⟨rfl, hb3⟩
              clear c0 c1 c2 x0 x1 x2
              obtain ⟨⟨c0, c1, c2⟩, ⟨x0, x1, x2⟩⟩ := hnow.out _ hb3
              replace hb3 := hidden hb3
              clear hV
              have hCh2 := hidden (hCh1.out _ (hlow.out _ hb3.out))
              clear hCh1
              go_wp2_with fail
              (with_reducible refine hCh2.out.mono ?_)
              rintro r w4 ⟨rfl, hb4⟩
              have hd4 := hb3.out.trans (hb4.mono hb3.out.size)
              clear c0 c1 c2 x0 x1 x2 hb4 hCh2 hb3
              obtain ⟨⟨c0, c1, c2⟩, ⟨x0, x1, x2⟩⟩ := hnow.out _ hd4
              have hs0 := hidden (show PbS wX gx (.slice la L.length lc) (.slice ca C.length cc) n w4 from ⟨x0, x1, x2, hd4⟩)
              have hMo2 := hidden (fun W hW => hMo1.out W (hlow.out _ hW))
              clear hd4 c0 c1 c2 hMo1
              go_wp2_with fail
              go_region_held3 (fun W => W.cell? ⟨gx, 0, none⟩ = some (.slice la L.length lc) ∧ W.cell? ⟨gx, 1, none⟩ = some (.slice ca C.length cc) ∧ W.cell? ⟨gx, 2, none⟩ = some (.int .i64 n) ∧ Below wX.heap.size wX W)
                ((first | with_reducible exact pbS_drew hs0.out | with_reducible assumption | with_reducible exact pbS_next (by assumption) (by assumption)))
                ((go_at_call 13; (with_reducible refine (hMo2.out _ (by first | exact hs0.out.2.2.2.drew | exact And.right (And.right (And.right (by assumption))))).mono ?_); rintro r w' ⟨rfl, hb⟩))
              all_goals
                rename_i wE _ hh
                obtain ⟨x0, x1, x2, hb3⟩ := hh
                obtain ⟨⟨c0, c1, c2⟩, _⟩ := hnow.out _ hb3
                replace hb3 := hidden hb3
                clear hs0 hMo2
                go_wp2_with fail
                (with_reducible refine (hB1.out _ (hlow.out _ hb3.out)).mono ?_)
                rintro e w5 ⟨v1, rfl, hr1, hd1⟩
                obtain ⟨va1, vc1, rfl⟩ := reads_slice hr1
                have hd5 := hb3.out.trans (hd1.mono hb3.out.size)
                have hd5' := hidden (hd5.alloc hd5.size (reO (.slice va1 ([] : List Int).length vc1) 0 0 false 0))
                have hI := hidden (cI1.out _ (hlow.out _ hd5'.out))
                clear hr1 hd1 hB1 cI1 hb3 hd5 c0 c1 c2 x0 x1 x2
                obtain ⟨⟨c0, c1, c2⟩, ⟨x0, x1, x2⟩⟩ := hnow.out _ hd5'.out
                have hz := hidden (fun W (hW : Below (w5.alloc (reO (.slice va1 ([] : List Int).length vc1) 0 0 false 0)).heap.size (w5.alloc (reO (.slice va1 ([] : List Int).length vc1) 0 0 false 0)) W) => And.intro (hbx.out W (hlow.out _ (hd5'.out.trans (hW.mono hd5'.out.size)))) (re_cells (row_later (heap_alloc_new w5 (reO (.slice va1 ([] : List Int).length vc1) 0 0 false 0)) hW)).1)
                clear hd5' hlow hnow hbx hc
                go_wp2_with fail
                generalize w5.alloc (reO (.slice va1 ([] : List Int).length vc1) 0 0 false 0) = w6 at *
                (with_reducible refine hI.out.mono ?_)
                rintro r w7 ⟨rfl, hb7⟩
                obtain ⟨hend, z0, z1, z2, z3, z4⟩ := hz.out _ hb7
                replace hend := hidden hend
                clear hI hb7 hz c0 c1 c2 x0 x1 x2
                go_wp2
                go_ret
                exact ⟨rfl, hend.out⟩
            · rw [if_neg hmn] at hbc
              have hfo := (be_found hbc).1
              have hwv : beW L C n bud = wo L C (beR L C n bud).1.best := (be_found hbc).2
              have hgd := goodB_yes hok hfo.tk
              have hwo1 : woV L C n (beR L C n bud).1.best = beW L C n bud := by unfold woV; rw [hgd, if_pos rfl, hwv]
              have hco1 : coV L C n (beR L C n bud).1.best = (beR L C n bud).1.cost := by unfold coV; rw [hgd, if_pos rfl, hfo.cost]
              have hfi : decide (beW L C n bud < n) = false := decide_eq_false (by rw [hwv]; have := hfo.fits; omega)
              have hk0 : decide ((beR L C n bud).1.looked < 0) = false := decide_eq_false (by have := hfo.look; omega)
              have hk1 : decide (bud < (beR L C n bud).1.looked) = false := decide_eq_false (by have := hfo.look; omega)
              have hmany := hidden hfo.many
              have hfa := hidden (fun b f (hS : SeenL L C n (pdL L) b f) => best_facts hok hbc hS)
              have hga := hidden (fun (hg : grB L C n = true) => best_greedy hok hbc hg)
              have hBe1 := hidden (fun W hW => hBe.out W hW)
              rw [hbc, errOf_fine] at hBe1
              have hWo1 := hidden (fun W hW tv' hr' => hWo.out W hW tv' (beR L C n bud).1.best hr')
              rw [hwo1, hgd] at hWo1
              have hCo1 := hidden (fun W hW tv' hr' => hCo.out W hW tv' (beR L C n bud).1.best hr')
              rw [hco1, hgd] at hCo1
              have hCo2 := hidden (fun W hW tv' hr' => hCo.out W hW tv' (grL L C n) hr')
              have hCp1 := hidden (fun W hW => hCp.out W hW hok)
              have cI1 := hidden (fun W hW => is_fine A W (hSW.out W hW))
              have hdm : decide (wo L C (full L) < n) = false := decide_eq_false hmn
              clear hBe hWo hCo hCp hSW hE hR hbc hok hM hM1 m0 m1 g0 g1 hM3 hL20 hmn hfo hwv hgd hwo1 hco1
              generalize wo L C (full L) = mo at *
              generalize pdL L = M at *
              generalize coV L C n (grL L C n) = cg at *
              generalize goodB L C n (grL L C n) = gb at *
              generalize grL L C n = TG at *
              generalize grB L C n = gB at *
              generalize beW L C n bud = wv at *
              generalize beR L C n bud = R at *
              obtain ⟨⟨Rst, T1, K1, k1⟩, S1⟩ := R
              simp only at hk0 hk1 hmany hfa hga hBe1 hWo1 hCo1
              go_wp2_with fail
              generalize w2.alloc (pbO pbTyR (.slice la L.length lc) (.slice ca C.length cc) n) = wX at *
              generalize w2.heap.size = gx at *
              (with_reducible refine hV.out.mono ?_)
              rintro r w3 ⟨rfl, hb3⟩
              clear c0 c1 c2 x0 x1 x2
              obtain ⟨⟨c0, c1, c2⟩, ⟨x0, x1, x2⟩⟩ := hnow.out _ hb3
              replace hb3 := hidden hb3
              clear hV
              have hCh2 := hidden (hCh1.out _ (hlow.out _ hb3.out))
              go_wp2_with fail
              (with_reducible refine hCh2.out.mono ?_)
              rintro r w4 ⟨rfl, hb4⟩
              have hd4 := hb3.out.trans (hb4.mono hb3.out.size)
              clear c0 c1 c2 x0 x1 x2 hb4 hCh2 hb3
              obtain ⟨⟨c0, c1, c2⟩, ⟨x0, x1, x2⟩⟩ := hnow.out _ hd4
              have hs0 := hidden (show PbS wX gx (.slice la L.length lc) (.slice ca C.length cc) n w4 from ⟨x0, x1, x2, hd4⟩)
              have hMo2 := hidden (fun W hW => hMo1.out W (hlow.out _ hW))
              clear hd4 c0 c1 c2 hMo1
              go_wp2_with fail
              go_region_held3 (fun W => W.cell? ⟨gx, 0, none⟩ = some (.slice la L.length lc) ∧ W.cell? ⟨gx, 1, none⟩ = some (.slice ca C.length cc) ∧ W.cell? ⟨gx, 2, none⟩ = some (.int .i64 n) ∧ Below wX.heap.size wX W)
                ((first | with_reducible exact pbS_drew hs0.out | with_reducible assumption | with_reducible exact pbS_next (by assumption) (by assumption)))
                ((go_at_call 13; (with_reducible refine (hMo2.out _ (by first | exact hs0.out.2.2.2.drew | exact And.right (And.right (And.right (by assumption))))).mono ?_); rintro r w' ⟨rfl, hb⟩))
              all_goals
                rename_i wE _ hh
                obtain ⟨x0, x1, x2, hb3⟩ := hh
                obtain ⟨⟨c0, c1, c2⟩, _⟩ := hnow.out _ hb3
                replace hb3 := hidden hb3
                clear hs0 hMo2
                go_wp2_with fail
                (with_reducible refine (hBe1.out _ (hlow.out _ hb3.out)).mono ?_)
                rintro e w5 ⟨v1, rfl, hr1, ho1, hd1⟩
                obtain ⟨va1, vc1, rfl⟩ := reads_slice hr1
                have hd5 := hb3.out.trans (hd1.mono hb3.out.size)
                have hd5' := hidden (hd5.alloc hd5.size (reO (.slice va1 T1.length vc1) wv K1 S1 k1))
                have hI := hidden (cI1.out _ (hlow.out _ hd5'.out))
                have hr6 := hr1.below ((Below.refl _ w5).alloc (Nat.le_refl _) (reO (.slice va1 T1.length vc1) wv K1 S1 k1)) (Nat.le_refl _)
                have hz1 := heap_alloc_new w5 (reO (.slice va1 T1.length vc1) wv K1 S1 k1)
                have hn6 := hidden (fun W (hW : Below (w5.alloc (reO (.slice va1 T1.length vc1) wv K1 S1 k1)).heap.size (w5.alloc (reO (.slice va1 T1.length vc1) wv K1 S1 k1)) W) => And.intro (hnow.out W (hd5'.out.trans (hW.mono hd5'.out.size))) (re_cells (row_later hz1 hW)).1)
                have hl6 := hidden (fun W (hW : Below (w5.alloc (reO (.slice va1 T1.length vc1) wv K1 S1 k1)).heap.size (w5.alloc (reO (.slice va1 T1.length vc1) wv K1 S1 k1)) W) => hlow.out W (hd5'.out.trans (hW.mono hd5'.out.size)))
                have hrd := hidden (fun W (hW : Below (w5.alloc (reO (.slice va1 T1.length vc1) wv K1 S1 k1)).heap.size (w5.alloc (reO (.slice va1 T1.length vc1) wv K1 S1 k1)) W) => hr6.below hW (Nat.le_refl _))
                clear c0 c1 c2 x0 x1 x2 hr1 ho1 hd1 hd5 hd5' hr6 hz1 hb3 hBe1 cI1 hnow hlow hc
                obtain ⟨⟨⟨c0, c1, c2⟩, ⟨x0, x1, x2⟩⟩, ⟨z0, z1, z2, z3, z4⟩⟩ := hn6.out _ (Below.refl _ _)
                go_wp2_with fail
                generalize w5.alloc (reO (.slice va1 T1.length vc1) wv K1 S1 k1) = w6 at *
                (with_reducible refine hI.out.mono ?_)
                rintro r w7 ⟨rfl, hb7⟩
                clear c0 c1 c2 x0 x1 x2 z0 z1 z2 z3 z4
                obtain ⟨⟨⟨c0, c1, c2⟩, ⟨x0, x1, x2⟩⟩, ⟨z0, z1, z2, z3, z4⟩⟩ := hn6.out _ hb7
                have hX := hidden (hWo1.out _ (hl6.out _ hb7) _ (hrd.out _ hb7))
                replace hb7 := hidden hb7
                clear hI hWo1
                go_wp2_with fail
                (with_reducible refine hX.out.mono ?_)
                rintro r w8 ⟨rfl, hb8⟩
                replace hb8 := hidden (hb7.out.trans (hb8.mono hb7.out.size))
                clear c0 c1 c2 x0 x1 x2 z0 z1 z2 z3 z4 hX hb7
                obtain ⟨⟨⟨c0, c1, c2⟩, ⟨x0, x1, x2⟩⟩, ⟨z0, z1, z2, z3, z4⟩⟩ := hn6.out _ hb8.out
                have hX := hidden (hCo1.out _ (hl6.out _ hb8.out) _ (hrd.out _ hb8.out))
                clear hCo1
                go_wp2_with fail
                (with_reducible refine hX.out.mono ?_)
                rintro r w9 ⟨rfl, hb9⟩
                replace hb9 := hidden (hb8.out.trans (hb9.mono hb8.out.size))
                clear c0 c1 c2 x0 x1 x2 z0 z1 z2 z3 z4 hX hb8
                obtain ⟨⟨⟨c0, c1, c2⟩, ⟨x0, x1, x2⟩⟩, ⟨z0, z1, z2, z3, z4⟩⟩ := hn6.out _ hb9.out
                have hX := hidden (hCp1.out _ (hl6.out _ hb9.out))
                clear hCp1
                go_wp2_with fail
                (with_reducible refine hX.out.mono ?_)
                rintro e w10 ⟨b, f, rfl, hSe, hb10⟩
                obtain ⟨hf1, hf2⟩ := hfa.out _ _ hSe
                have hdb : decide (K1 < b) = false := decide_eq_false (by omega)
                replace hf2 := hidden hf2
                replace hb10 := hidden (hb9.out.trans (hb10.mono hb9.out.size))
                clear c0 c1 c2 x0 x1 x2 z0 z1 z2 z3 z4 hX hb9 hf1 hSe hfa
                obtain ⟨⟨⟨c0, c1, c2⟩, ⟨x0, x1, x2⟩⟩, ⟨z0, z1, z2, z3, z4⟩⟩ := hn6.out _ hb10.out
                have hX := hidden (hGr.out _ (hl6.out _ hb10.out))
                clear hGr
                go_wp2_with fail
                (with_reducible refine hX.out.mono ?_)
                rintro e w11 ⟨gv, rfl, hgr, hb11⟩
                replace hb11 := hidden (hb10.out.trans (hb11.mono hb10.out.size))
                have hX2 := hidden (hCo2.out _ (hl6.out _ hb11.out) _ hgr)
                obtain ⟨ga, gc, rfl⟩ := reads_slice hgr
                clear c0 c1 c2 x0 x1 x2 z0 z1 z2 z3 z4 hX hb10 hgr hCo2
                obtain ⟨⟨⟨c0, c1, c2⟩, ⟨x0, x1, x2⟩⟩, ⟨z0, z1, z2, z3, z4⟩⟩ := hn6.out _ hb11.out
                go_wp2_with fail
                (with_reducible refine hX2.out.mono ?_)
                rintro r w12 ⟨rfl, hb12⟩
                replace hb12 := hidden (hb11.out.trans (hb12.mono hb11.out.size))
                clear c0 c1 c2 x0 x1 x2 z0 z1 z2 z3 z4 hX2 hb11
                obtain ⟨⟨⟨c0, c1, c2⟩, ⟨x0, x1, x2⟩⟩, ⟨z0, z1, z2, z3, z4⟩⟩ := hn6.out _ hb12.out
                cases hS1 : S1
                · have hbM : decide (bud < M) = true := decide_eq_true (hmany.out hS1)
                  have hX := hidden (hCh1.out _ (hl6.out _ hb12.out))
                  have hend := hidden (fun W (hW : Below w12.heap.size w12 W) => hbx.out _ (hl6.out _ (hb12.out.trans (hW.mono hb12.out.size))))
                  cases hgB : gB
                  · subst hS1 hgB
                    clear hga hmany hf2 hrd hl6 hbx hb12 hn6 hCh1
                    go_wp2_with fail
                    (with_reducible refine hX.out.mono ?_)
                    rintro r w13 ⟨rfl, hb13⟩
                    replace hend := hidden (hend.out _ hb13)
                    clear hX hb13 c0 c1 c2 x0 x1 x2 z0 z1 z2 z3 z4
                    go_wp2
                    go_ret
                    exact ⟨rfl, hend.out⟩
                  · have hdg : decide (cg < K1) = false := decide_eq_false (by have := hga.out hgB; omega)
                    subst hS1 hgB
                    clear hga hmany hf2 hrd hl6 hbx hb12 hn6 hCh1
                    go_wp2_with fail
                    (with_reducible refine hX.out.mono ?_)
                    rintro r w13 ⟨rfl, hb13⟩
                    replace hend := hidden (hend.out _ hb13)
                    clear hX hb13 c0 c1 c2 x0 x1 x2 z0 z1 z2 z3 z4
                    go_wp2
                    go_ret
                    exact ⟨rfl, hend.out⟩
                · have hKb : (K1 != b) = false := by rw [hf2.out hS1]; simp
                  have hend := hidden (hbx.out _ (hl6.out _ hb12.out))
                  cases hgB : gB
                  · subst hS1 hgB
                    clear hga hmany hf2 hrd hl6 hbx hb12 hn6 hCh1
                    go_wp2
                    go_ret
                    exact ⟨rfl, hend.out⟩
                  · have hdg : decide (cg < K1) = false := decide_eq_false (by have := hga.out hgB; omega)
                    subst hS1 hgB
                    clear hga hmany hf2 hrd hl6 hbx hb12 hn6 hCh1
                    go_wp2
                    go_ret
                    exact ⟨rfl, hend.out⟩
          · have hd3 : decide (3000 < M) = true := decide_eq_true (by omega)
            clear hBe hMo hWo hCo hCp hGr hSW hE hR hok hM hM1 m0 m1 g0 g1 hM3 hbc
            go_wp2_with fail
            generalize w2.alloc (pbO pbTyR (.slice la L.length lc) (.slice ca C.length cc) n) = wX at *
            generalize w2.heap.size = gx at *
            (with_reducible refine hV.out.mono ?_)
            rintro r w3 ⟨rfl, hb3⟩
            clear c0 c1 c2 x0 x1 x2
            obtain ⟨⟨c0, c1, c2⟩, ⟨x0, x1, x2⟩⟩ := hnow.out _ hb3
            replace hb3 := hidden hb3
            clear hV
            have hCh2 := hidden (hCh1.out _ (hlow.out _ hb3.out))
            clear hCh1
            go_wp2_with fail
            (with_reducible refine hCh2.out.mono ?_)
            rintro r w4 ⟨rfl, hb4⟩
            have hend := hidden (hbx.out _ (hlow.out _ (hb3.out.trans (hb4.mono hb3.out.size))))
            clear c0 c1 c2 x0 x1 x2 hb4 hCh2 hb3 hnow hlow hc hbx
            go_wp2
            go_ret
            exact ⟨rfl, hend.out⟩
      · have hne : ∃ c ae, pbC L C n = c ∧ errOf A c = errAt ae ∧ codeOk c ∧ (c = 103 ∨ c = 105) := by
          rcases pbC_ways L C n with q | q | q
          · exact absurd (pbC_iff.1 q) hok
          · exact ⟨103, A 2, q, rfl, (by unfold codeOk; decide), .inl rfl⟩
          · exact ⟨105, A 4, q, rfl, (by unfold codeOk; decide), .inr rfl⟩
        obtain ⟨c, ae, hpc, hea, hco, hcw⟩ := hne
        have h0 : beC L C n bud = c := by unfold beC; rw [if_neg hok, hpc]
        have hB1 := hidden (fun W hW => best_none A _ _ L C n bud c ae W (hR.out W hW) (hE.out W hW) ⟨m0, m1⟩ h0 (by omega) hea)
        have cI1 := hidden (fun W hW => is_yes A c ae W (hSW.out W hW) hco hea)
        rw [hpc] at hV
        clear hBe hCh hMo hWo hCo hCp hGr hSW hE hR h0 hok m0 m1 hpc hea hco
        rcases hcw with rfl | rfl
        all_goals
          go_wp2_with fail
          generalize w2.alloc (pbO pbTyR (.slice la L.length lc) (.slice ca C.length cc) n) = wX at *
          generalize w2.heap.size = gx at *
          (with_reducible refine hV.out.mono ?_)
          rintro r w3 ⟨rfl, hb3⟩
          clear c0 c1 c2 x0 x1 x2
          obtain ⟨⟨c0, c1, c2⟩, ⟨x0, x1, x2⟩⟩ := hnow.out _ hb3
          replace hb3 := hidden hb3
          clear hV
          go_wp2_with fail
          have hb3D := hidden (fun m => below_drewN (m := m) hb3.out)
          clear hb3
          go_quiet (fail)
          go_wp2_with fail
          (with_reducible refine (hB1.out _ (hlow.out _ (hb3D.out _))).mono ?_)
          rintro e w5 ⟨v1, rfl, hr1, hd1⟩
          obtain ⟨va1, vc1, rfl⟩ := reads_slice hr1
          have hd5 := (hb3D.out _).trans (hd1.mono (hb3D.out _).size)
          have hd5' := hidden (hd5.alloc hd5.size (reO (.slice va1 ([] : List Int).length vc1) 0 0 false 0))
          have hI := hidden (cI1.out _ (hlow.out _ hd5'.out))
          clear hr1 hd1 hB1 cI1 hb3D hd5 c0 c1 c2 x0 x1 x2
          obtain ⟨⟨c0, c1, c2⟩, ⟨x0, x1, x2⟩⟩ := hnow.out _ hd5'.out
          have hz := hidden (fun W (hW : Below (w5.alloc (reO (.slice va1 ([] : List Int).length vc1) 0 0 false 0)).heap.size (w5.alloc (reO (.slice va1 ([] : List Int).length vc1) 0 0 false 0)) W) => And.intro (hbx.out W (hlow.out _ (hd5'.out.trans (hW.mono hd5'.out.size)))) (re_cells (row_later (heap_alloc_new w5 (reO (.slice va1 ([] : List Int).length vc1) 0 0 false 0)) hW)).1)
          clear hd5' hlow hnow hbx hc
          go_wp2_with fail
          generalize w5.alloc (reO (.slice va1 ([] : List Int).length vc1) 0 0 false 0) = w6 at *
          (with_reducible refine hI.out.mono ?_)
          rintro r w7 ⟨rfl, hb7⟩
          obtain ⟨hend, z0, z1, z2, z3, z4⟩ := hz.out _ hb7
          replace hend := hidden hend
          clear hI hb7 hz c0 c1 c2 x0 x1 x2
          go_wp2
          go_ret
          exact ⟨rfl, hend.out⟩
    · have hd : decide (20 < (C.length : Int)) = true := decide_eq_true (by omega)
      have hend := hidden (hbx.out _ hb1.out)
      clear hOt hVa hCh hMo hWo hCo hCp hGr hBe hE hR hSW hc hbx
      go_wp2
      go_ret
      exact ⟨rfl, hend.out⟩
  · have hd : decide (20 < (L.length : Int)) = true := decide_eq_true (by omega)
    have hend := hidden (hbx.out _ hb1.out)
    clear hOt hVa hCh hMo hWo hCo hCp hGr hBe hE hR hSW hc hbx
    go_wp2
    go_ret
    exact ⟨rfl, hend.out⟩
end Go.Proofs.YtaojahjgfgmpfaaDoor
