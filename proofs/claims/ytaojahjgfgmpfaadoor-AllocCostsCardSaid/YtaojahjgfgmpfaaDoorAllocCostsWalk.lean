import Derived.Test.YtaojahjgfgmpfaaDoorAllocKnow
import Derived.Test.YtaojahjgfgmpfaaDoorPbArg
import Derived.Test.YtaojahjgfgmpfaaDoorNumber
import Derived.Test.YtaojahjgfgmpfaaDoorInts
import Derived.Test.YtaojahjgfgmpfaaDoorErr
import Derived.Test.YtaojahjgfgmpfaaDoorLaid
import Derived.Test.YtaojahjgfgmpfaaDoorLotsPbS
namespace Go.Proofs.YtaojahjgfgmpfaaDoor
open Go Go.RowKit
set_option linter.unusedVariables false

/-- how many are taken of a lot. -/
def pkB (L : List Lt) (T : List Int) (i : Nat) : Int := if i < T.length then T.getD i 0 % ((L.getD i ltZ).u + 1) else 0
def pkL (L : List Lt) (T : List Int) (k : Nat) : List Int := (List.range k).map (pkB L T)
theorem pk_len (L : List Lt) (T : List Int) (k : Nat) : (pkL L T k).length = k := by simp [pkL]
theorem pk_snoc (L : List Lt) (T : List Int) (k : Nat) : pkL L T (k + 1) = pkL L T k ++ [pkB L T k] := by simp [pkL, List.range_succ]
theorem pk_at (L : List Lt) (T : List Int) {i k : Nat} (h : i < k) : (pkL L T k).getD i 0 = pkB L T i := by
  unfold pkL
  rw [List.getD_eq_getElem?_getD, List.getElem?_map, List.getElem?_range h]
  rfl
theorem pkB_bd {L : List Lt} {C : List Int} {n : Int} (h : OkP L C n) (T : List Int) {i : Nat} (hi : i < L.length) : 0 ≤ pkB L T i ∧ pkB L T i ≤ (L.getD i ltZ).u := by
  have hl := (h.lot hi).1
  unfold pkB
  split
  · have h1 := Int.emod_nonneg (T.getD i 0) (show (L.getD i ltZ).u + 1 ≠ 0 by omega)
    have h2 := Int.emod_lt_of_pos (T.getD i 0) (show 0 < (L.getD i ltZ).u + 1 by omega)
    omega
  · omega
theorem pk_tk {L : List Lt} {C : List Int} {n : Int} (h : OkP L C n) (T : List Int) : TkOk L (pkL L T L.length) := ⟨pk_len L T _, fun i hi => by rw [pk_at L T hi]; exact pkB_bd h T hi⟩
def CoRel1 (len : Nat) (w0 : World) (i : Value) (w : World) : Prop := ∃ k : Nat, k ≤ len ∧ i = .int .i64 (k : Int) ∧ w0 = w
def CoRel2 (L : List Lt) (t : List Int) (w0 : World) (v i : Value) (w : World) : Prop := ∃ k : Nat, k ≤ L.length ∧ i = .int .i64 (k : Int) ∧ w.ownsRow w0.heap.size 3 1 v k (ivs (pkL L t k)) ∧ Below w0.heap.size w0 w
set_option maxRecDepth 100000 in
set_option maxHeartbeats 25600000 in
theorem walk_allocCosts (p : PbX) (tv : Value) (t : List Int) (m : Int) (A : Nat → Addr) (w : World) (hp : PbIs w p) (hr : Reads .i64 w tv t) (htb : ∀ x ∈ t, -9223372036854775808 ≤ x ∧ x ≤ 9223372036854775807) (m0 : -9223372036854775808 ≤ m) (m1 : m ≤ 9223372036854775807) (hS : Sents w A) :
    Calls Tryd.prog 4 #[pbA p.lv p.cv p.n, tv, .int .i64 m] w fun r w' => r = .returned (.bool true) ∧ Below w.heap.size w w' := by
  obtain ⟨lv, cv, L, C, n⟩ := p
  obtain ⟨hpr, hnd⟩ := hp
  simp only at hpr hnd
  have hb0 := below_pb w pbTy lv cv n
  have hpb := pbAt_new w pbTy lv cv n
  have hbx := hidden (fun W (hW : Below (w.alloc (pbO pbTy lv cv n)).heap.size (w.alloc (pbO pbTy lv cv n)) W) => hb0.trans (hW.mono hb0.size))
  have hc := hidden (fun W (hW : Below (w.alloc (pbO pbTy lv cv n)).heap.size (w.alloc (pbO pbTy lv cv n)) W) => (hpb.below hW (Nat.le_refl _)).cells)
  have hSW := hidden (fun W (hW : Below (w.alloc (pbO pbTy lv cv n)).heap.size (w.alloc (pbO pbTy lv cv n)) W) => hS.below (hbx.out W hW) (Nat.le_refl _))
  have hE := hidden (fun W (hW : Below (w.alloc (pbO pbTy lv cv n)).heap.size (w.alloc (pbO pbTy lv cv n)) W) => (hSW.out W hW).on [2, 4, 20] (by simp))
  have hR := hidden (fun W (hW : Below (w.alloc (pbO pbTy lv cv n)).heap.size (w.alloc (pbO pbTy lv cv n)) W) => hpr.below (hbx.out W hW) (Nat.le_refl _))
  have hT := hidden (fun W (hW : Below (w.alloc (pbO pbTy lv cv n)).heap.size (w.alloc (pbO pbTy lv cv n)) W) => hr.below (hbx.out W hW) (Nat.le_refl _))
  have hF := hidden (law20_first A _ (hE.out _ (Below.refl _ _)))
  have hVa := hidden (fun W hW => ltValid_any A lv cv L C n W (hR.out W hW) ((hE.out W hW).sub (by simp)))
  have hBe := hidden (fun W hW n' => best_any A lv cv L C n' 4000 W (hR.out W hW) (hE.out W hW) (by decide))
  unfold BeAt at hBe
  have hFi := hidden (fun W hW tv' t' hr' => ltFits_any A lv cv L C n tv' t' W (hR.out W hW) hr' ((hE.out W hW).sub (by simp)))
  have hCo := hidden (fun W hW tv' t' hr' => ltCost_any A lv cv L C n tv' t' W (hR.out W hW) hr' ((hE.out W hW).sub (by simp)))
  have hMo := hidden (fun W hW hl => ltMost_any A lv cv L C n W (hR.out W hW) hl ((hE.out W hW).sub (by simp)))
  have cI := hidden (fun W hW => is_any A 121 121 W (hSW.out W hW) (by unfold codeOk; decide))
  rw [show ((121 : Int) == 121) = true from rfl, errOf_121] at cI
  have nM := hidden (fun W => number_any m 1000 W m0 m1 (by decide) (by decide))
  have hM9 : 0 ≤ m % 1000 ∧ m % 1000 < 1000 := by omega
  obtain ⟨la, lc, rfl⟩ := row_slice hpr.lots
  obtain ⟨ca, cc, rfl⟩ := reads_slice hpr.caps
  obtain ⟨ta, tc, rfl⟩ := reads_slice hr
  have hx := hidden (fun k hk W hW => rowLt_at (hR.out W hW).lots k hk)
  have hTb := hidden (fun k (hk : k < t.length) => htb (t.getD k 0) (by rw [List.getD_eq_getElem?_getD, List.getElem?_eq_getElem hk]; exact List.getElem_mem hk))
  clear hpr hS hb0 hpb m0 m1 hr htb
  generalize m % 1000 = z at *
  obtain ⟨d0, d1, d2⟩ := hc.out _ (Below.refl _ _)
  go_enter Tryd.func4, Tryd.ntmps4
  go_wp2_with fail
  generalize w.alloc (pbO pbTy (.slice la L.length lc) (.slice ca C.length cc) n) = wP at *
  (with_reducible refine hF.out.mono ?_)
  rintro r w1 ⟨rfl, hb1⟩
  obtain ⟨c0, c1, c2⟩ := hc.out _ hb1
  have hV2 := hidden (hVa.out _ hb1)
  replace hb1 := hidden hb1
  clear hF d0 d1 d2 hVa
  by_cases hok : OkP L C n
  · rw [pbC_ok hok, errOf_fine] at hV2
    by_cases h20 : (t.length : Int) ≤ 20
    · have hL8 : 1 ≤ (L.length : Int) ∧ (L.length : Int) ≤ 8 := by have := hok.1.1; omega
      go_wp2_with fail
      (with_reducible refine hV2.out.mono ?_)
      rintro r w2 ⟨rfl, hb2⟩
      replace hb2 := hidden (hb1.out.trans (hb2.mono hb1.out.size))
      obtain ⟨c0, c1, c2⟩ := hc.out _ hb2.out
      clear hV2 hb1
      go_wp2_with fail
      go_loopw [8] (fun i wr => CoRel1 L.length w2 i wr) (fun i _ => L.length - (RowKit.intOf i).toNat)
      case atStart => exact ⟨0, by omega, rfl, rfl⟩
      case round =>
        obtain ⟨k, hk, rfl, rfl⟩ := hrel
        by_cases hlt : k < L.length
        · obtain ⟨b, o, rfl, q0, q1, q2, q3⟩ := hx.out k hlt _ hb2.out
          have hlI : (k : Int) < (L.length : Int) := by omega
          generalize L.getD k ltZ = y at *
          obtain ⟨yu, yv, yc, yg⟩ := y
          simp only at q0 q1 q2 q3
          by_cases hu : 12 < yu
          · have hd : decide (12 < yu) = true := decide_eq_true hu
            have hend := hidden (hbx.out _ hb2.out)
            clear hx hTb hFi hCo hMo cI nM hBe hT hSW hE hR hc
            go_wp2
            go_ret
            exact ⟨rfl, hend.out⟩
          · have hd : decide (12 < yu) = false := decide_eq_false hu
            clear hx hTb hFi hCo hMo cI nM hBe hT hSW hE hR
            go_wp2
            go_roundw
            case rel => exact ⟨k + 1, hlt, by go_num, rfl⟩
            case measure => simp [RowKit.intOf]; omega
        · obtain rfl : k = L.length := by omega
          clear hlt hk
          have hB1 := hidden (hBe.out _ hb2.out n)
          rw [be_code hok (by decide) (by decide)] at hB1
          by_cases hmn : wo L C (full L) < n
          · rw [if_pos hmn, errOf_121] at hB1
            have hmo : moV L C n = wo L C (full L) := by unfold moV woV; rw [goodB_yes hok (tk_full hok), if_pos rfl]
            have hMo1 := hidden (fun W hW => hMo.out W hW (by omega))
            rw [hmo] at hMo1
            have hdm : decide (wo L C (full L) < n) = true := decide_eq_true hmn
            generalize wo L C (full L) = mo at *
            clear hx hTb hFi hCo nM hBe hT hSW hE hR hMo hmo hmn hok
            generalize beW L C n 4000 = wv at *
            generalize beR L C n 4000 = R at *
            obtain ⟨⟨Rst, T1, K1, k1⟩, S1⟩ := R
            simp only at hB1
            go_wp2_with fail
            (with_reducible refine hB1.out.mono ?_)
            rintro e w3 ⟨v1, rfl, hr1, ho1, hd1⟩
            obtain ⟨va1, vc1, rfl⟩ := reads_slice hr1
            have hd1' := hb2.out.trans ((below_alloc20 hd1 (reO (.slice va1 T1.length vc1) wv K1 S1 k1)).mono hb2.out.size)
            obtain ⟨c0, c1, c2⟩ := hc.out _ hd1'
            have hs0 := hidden (show PbS wP w.heap.size (.slice la L.length lc) (.slice ca C.length cc) n (w3.alloc (reO (.slice va1 T1.length vc1) wv K1 S1 k1)) from ⟨c0, c1, c2, hd1'⟩)
            clear hr1 ho1 hd1 hd1' hB1 hb2
            go_wp2_with fail
            go_region_held3 (fun W => W.cell? ⟨w.heap.size, 0, none⟩ = some (.slice la L.length lc) ∧ W.cell? ⟨w.heap.size, 1, none⟩ = some (.slice ca C.length cc) ∧ W.cell? ⟨w.heap.size, 2, none⟩ = some (.int .i64 n) ∧ Below wP.heap.size wP W)
              ((first | with_reducible exact pbS_drew hs0.out | with_reducible assumption | with_reducible exact pbS_next (by assumption) (by assumption)))
              ((first
                | (go_at_call 15; (with_reducible refine (cI.out _ (by first | exact hs0.out.2.2.2.drew | exact And.right (And.right (And.right (by assumption))))).mono ?_); rintro r w' ⟨rfl, hb⟩)
                | (go_at_call 21; (with_reducible refine (hMo1.out _ (by first | exact hs0.out.2.2.2.drew | exact And.right (And.right (And.right (by assumption))))).mono ?_); rintro r w' ⟨rfl, hb⟩)))
            all_goals
              rename_i hh
              obtain ⟨c0, c1, c2, hb9⟩ := hh
              have hend := hidden (hbx.out _ hb9)
              clear hs0 cI hMo1 hb9 hc
              go_wp2
              go_ret
              exact ⟨rfl, hend.out⟩
          · rw [if_neg hmn, errOf_fine] at hB1
            have h00 : beC L C n 4000 = 0 := by rw [be_code hok (by decide) (by decide), if_neg hmn]
            have hfo := (be_found h00).1
            have hfit : fiB L C n (beR L C n 4000).1.best = true := by
              unfold fiB woV
              rw [goodB_yes hok hfo.tk, if_pos rfl]
              simp only [Bool.true_and, decide_eq_true_iff]
              exact hfo.fits
            have hsure := hidden hfo.sure
            have hgr := hidden (fun (h1 : beC L C (n + z) 4000 = 0) => be_grows h00 h1 (show n ≤ n + z by omega))
            have hptk := pk_tk hok t
            have hFl : fiB L C n (pkL L t L.length) = decide (n ≤ wo L C (pkL L t L.length)) := by unfold fiB woV; rw [goodB_yes hok hptk, if_pos rfl, Bool.true_and]
            have hCl : coV L C n (pkL L t L.length) = co L (pkL L t L.length) := by unfold coV; rw [goodB_yes hok hptk, if_pos rfl]
            have hGl := goodB_yes hok hptk
            have hcb := coS_bd hok hptk (Nat.le_refl _)
            rw [show sumF (coF L (pkL L t L.length)) L.length = co L (pkL L t L.length) from rfl] at hcb
            have hn0 := hok.2.2.2
            unfold capOk at hn0
            have hle := hidden (fun (h : decide (n ≤ wo L C (pkL L t L.length)) = true) hs => hsure.out hs _ hptk (of_decide_eq_true h))
            have hub := hidden (fun k hk => (hok.lot (k := k) hk).1)
            have hFi1 := hidden (fun W hW tv' hr' => hFi.out W hW tv' (beR L C n 4000).1.best hr')
            rw [hfit] at hFi1
            have hFi2 := hidden (fun W hW tv' hr' => hFi.out W hW tv' (pkL L t L.length) hr')
            rw [hFl] at hFi2
            have hCo2 := hidden (fun W hW tv' hr' => hCo.out W hW tv' (pkL L t L.length) hr')
            rw [hCl, hGl] at hCo2
            clear hFi hCo hMo hfo hfit hsure hptk hFl hCl hGl cI hSW h00 hmn
            generalize co L (pkL L t L.length) = cl at *
            generalize decide (n ≤ wo L C (pkL L t L.length)) = fl at *
            generalize beW L C n 4000 = wv at *
            generalize beR L C n 4000 = R at *
            obtain ⟨⟨Rst, T1, K1, k1⟩, S1⟩ := R
            simp only at hB1 hle hgr hFi1
            go_wp2_with fail
            (with_reducible refine hB1.out.mono ?_)
            rintro e w3 ⟨v1, rfl, hr1, ho1, hd1⟩
            obtain ⟨va1, vc1, rfl⟩ := reads_slice hr1
            have hd1' := hb2.out.trans ((below_alloc20 hd1 (reO (.slice va1 T1.length vc1) wv K1 S1 k1)).mono hb2.out.size)
            have hz1 := heap_alloc_new w3 (reO (.slice va1 T1.length vc1) wv K1 S1 k1)
            have hr1b := hr1.below ((Below.refl _ w3).alloc (Nat.le_refl _) (reO (.slice va1 T1.length vc1) wv K1 S1 k1)) (Nat.le_refl _)
            have hnow := hidden (fun W (hW : Below (w3.alloc (reO (.slice va1 T1.length vc1) wv K1 S1 k1)).heap.size (w3.alloc (reO (.slice va1 T1.length vc1) wv K1 S1 k1)) W) => And.intro (hc.out W (hd1'.trans (hW.mono hd1'.size))) (re_cells (row_later hz1 hW)).1)
            have hlow := hidden (fun W (hW : Below (w3.alloc (reO (.slice va1 T1.length vc1) wv K1 S1 k1)).heap.size (w3.alloc (reO (.slice va1 T1.length vc1) wv K1 S1 k1)) W) => hd1'.trans (hW.mono hd1'.size))
            have hFi3 := hidden (hFi1.out _ hd1' _ hr1b)
            obtain ⟨⟨c0, c1, c2⟩, ⟨z0, z1, z2, z3, z4⟩⟩ := hnow.out _ (Below.refl _ _)
            clear hr1 ho1 hd1 hd1' hB1 hb2 hz1 hr1b hFi1
            go_wp2_with fail
            generalize w3.alloc (reO (.slice va1 T1.length vc1) wv K1 S1 k1) = w4 at *
            (with_reducible refine hFi3.out.mono ?_)
            rintro r w5 ⟨rfl, hb5⟩
            obtain ⟨⟨c0, c1, c2⟩, ⟨z0, z1, z2, z3, z4⟩⟩ := hnow.out _ hb5
            replace hb5 := hidden hb5
            clear hFi3
            cases hS1 : S1
            · subst hS1
              have hend := hidden (hbx.out _ (hlow.out _ hb5.out))
              clear hnow hlow hb5 hx hTb hFi2 hCo2 hBe hT hE hR hgr hle
              go_wp2
              go_ret
              exact ⟨rfl, hend.out⟩
            · subst hS1
              go_wp2_with fail
              go_loopw [11, 12] (fun v i wr => CoRel2 L t w5 v i wr) (fun _ i _ => L.length - (RowKit.intOf i).toNat)
              case atStart => exact ⟨0, by omega, rfl, World.ownsRow_nil _ _ _ _, Below.refl _ _⟩
              case round =>
                clear c0 c1 c2 z0 z1 z2 z3 z4
                obtain ⟨k, hk, rfl, hown, hB⟩ := hrel
                have hW5 := hidden (hb5.out.trans (hB.mono hb5.out.size))
                obtain ⟨⟨c0, c1, c2⟩, ⟨z0, z1, z2, z3, z4⟩⟩ := hnow.out _ hW5.out
                by_cases hlt : k < L.length
                · obtain ⟨b, o, rfl, q0, q1, q2, q3⟩ := hx.out k hlt _ (hlow.out _ hW5.out)
                  have hlI : (k : Int) < (L.length : Int) := by omega
                  obtain ⟨u0, u1⟩ := hub.out k hlt
                  have hsn := hidden (pk_snoc L t k)
                  have hownD := hidden (fun m => own_below hown (below_drewN (m := m) (Below.refl wr.heap.size wr)) (Nat.le_refl _))
                  have hBD := hidden (fun m => below_drewN (m := m) hB)
                  by_cases hkT : k < t.length
                  · obtain ⟨bt, ot, rfl, ct⟩ := (hT.out _ (hlow.out _ hW5.out)).cell k hkT
                    obtain ⟨g0, g1⟩ := hTb.out k hkT
                    have hkTI : (k : Int) < (t.length : Int) := by omega
                    have hpk : pkB L t k = t.getD k 0 % ((L.getD k ltZ).u + 1) := if_pos hkT
                    have nT := hidden (fun W => show Calls Tryd.prog 23 #[.int .i64 (t.getD k 0), .int .i64 ((L.getD k ltZ).u + 1)] W (fun e w' => e = .returned (.int .i64 (pkB L t k)) ∧ w' = W) from by
                      rw [hpk]
                      exact (number_any (t.getD k 0) ((L.getD k ltZ).u + 1) W g0 g1 (by omega) (by omega)).mono fun e w' h => ⟨h.1, h.2.symm⟩)
                    clear hpk hx hTb hFi2 hCo2 hBe hT hE hR hgr hle hnow hlow hub hown hB
                    generalize pkB L t k = s at *
                    generalize t.getD k 0 = tk at *
                    generalize L.getD k ltZ = y at *
                    obtain ⟨yu, yv, yc, yg⟩ := y
                    simp only at q0 q1 q2 q3 u0 u1 nT
                    go_wp2_with fail
                    go_quiet ((go_at_call 23; exact Calls.quiet_of_same (nT.out _)))
                    go_wp2_with (at_builtin; refine wpList_app1w rfl _ _ 32 rfl 3 Tryd.underlying32 infoI64 rfl w5.heap.size _ _ _ rfl (hownD.out _) _ rfl rfl ?_ (hBD.out _).size ?_)
                    case _ => omega
                    intro v6 w6 hown6 hb6
                    go_wp2
                    go_roundw
                    case rel =>
                      refine ⟨k + 1, hlt, by go_num, ?_, (hBD.out _).trans hb6⟩
                      rw [hsn.out, ivs_snoc]
                      exact hown6
                    case measure => simp [RowKit.intOf]; omega
                  · have hkTI : (t.length : Int) ≤ (k : Int) := by omega
                    have hpk : pkB L t k = 0 := if_neg hkT
                    rw [hpk] at hsn
                    have hsz := hB.size
                    replace hB := hidden hB
                    clear hpk hx hTb hFi2 hCo2 hBe hT hE hR hgr hle hnow hlow hub hownD hBD
                    go_wp2_with (at_builtin; refine wpList_app1w rfl _ _ 32 rfl 3 Tryd.underlying32 infoI64 rfl w5.heap.size _ _ _ rfl hown _ rfl rfl ?_ hsz ?_)
                    case _ => omega
                    intro v6 w6 hown6 hb6
                    go_wp2
                    go_roundw
                    case rel =>
                      refine ⟨k + 1, hlt, by go_num, ?_, hB.out.trans hb6⟩
                      rw [hsn.out, ivs_snoc]
                      exact hown6
                    case measure => simp [RowKit.intOf]; omega
                · obtain rfl : k = L.length := by omega
                  have hlr := reads_of_own (k := .i64) (xs := pkL L t L.length) hown
                  obtain ⟨al, cl2, rfl⟩ := own_slice18 hown
                  have hlow6 := hidden (fun W (hW : Below wr.heap.size wr W) => hlow.out _ (hW5.out.trans (hW.mono hW5.out.size)))
                  have hnow6 := hidden (fun W (hW : Below wr.heap.size wr W) => And.intro (hnow.out W (hW5.out.trans (hW.mono hW5.out.size))) (hlr.below hW (Nat.le_refl _)))
                  have hX := hidden (hCo2.out wr (hlow6.out _ (Below.refl _ _)) _ hlr)
                  have hY := hidden (fun W hW => hFi2.out W (hlow6.out _ hW) _ (hnow6.out _ hW).2)
                  have hways : fl = false ∨ (fl = true ∧ decide (cl < K1) = false) := by
                    cases hfl : fl
                    · exact .inl rfl
                    · exact .inr ⟨rfl, decide_eq_false (by have := hle.out hfl (by trivial); omega)⟩
                  clear hx hTb hFi2 hCo2 hT hub hown hB hW5 hnow hlow hb5 hlr hle
                  go_wp2_with fail
                  (with_reducible refine hX.out.mono ?_)
                  rintro r w7 ⟨rfl, hb7⟩
                  have hY7 := hidden (hY.out _ hb7)
                  clear c0 c1 c2 z0 z1 z2 z3 z4
                  obtain ⟨⟨⟨c0, c1, c2⟩, ⟨z0, z1, z2, z3, z4⟩⟩, _⟩ := hnow6.out _ hb7
                  replace hb7 := hidden hb7
                  clear hX hY
                  go_wp2_with fail
                  (with_reducible refine hY7.out.mono ?_)
                  rintro r w8 ⟨rfl, hb8⟩
                  replace hb8 := hidden (hb7.out.trans (hb8.mono hb7.out.size))
                  clear c0 c1 c2 z0 z1 z2 z3 z4
                  obtain ⟨⟨⟨c0, c1, c2⟩, ⟨z0, z1, z2, z3, z4⟩⟩, _⟩ := hnow6.out _ hb8.out
                  have hlt8 : w.heap.size < w8.heap.size := World.block_lt_of_cell? w8 _ c0
                  have hne1 : ¬ w.heap.size = w8.heap.size := by omega
                  have hne2 : ¬ w8.heap.size = w.heap.size := by omega
                  have c2' : (w8.alloc (pbO pbTy (.slice la L.length lc) (.slice ca C.length cc) n)).cell? ⟨w.heap.size, 2, none⟩ = some (.int .i64 n) := Go.Lib.cell?_alloc_some _ c2
                  clear hY7 hb7
                  have hwz : IntKind.i64.wrap (n + z) = n + z := by rw [IntKind.wrap_i64]; omega
                  have hB2 := hidden (fun W hW => hBe.out W hW (n + z))
                  have hcz : (errOf A (beC L C (n + z) 4000) = .nilIface ∧ K1 ≤ (beR L C (n + z) 4000).1.cost) ∨ (∃ e, errOf A (beC L C (n + z) 4000) = errAt e) := by
                    rcases beC_ways L C (n + z) 4000 A with q | q | q | q
                    · exact .inl ⟨by rw [q]; rfl, hgr.out q (by trivial)⟩
                    · exact .inr ⟨_, q⟩
                    · exact .inr ⟨_, q⟩
                    · exact .inr ⟨_, q⟩
                  clear hBe hgr hok hE hR
                  generalize errOf A (beC L C (n + z) 4000) = ev at *
                  generalize beW L C (n + z) 4000 = wv3 at *
                  generalize beR L C (n + z) 4000 = R3 at *
                  obtain ⟨⟨Rst3, T3, K3, k3⟩, S3⟩ := R3
                  simp only at hB2 hcz
                  replace hcz := hidden hcz
                  rcases hways with hfl | ⟨hfl, hdk⟩
                  all_goals
                    subst hfl
                    go_wp2_with fail
                    go_region_with ((go_at_call 23; (with_reducible refine (nM.out _).mono ?_); rintro e w' ⟨rfl, rfl⟩))
                    all_goals
                      have hb9 := hidden (hb8.out.trans ((below_pb w8 pbTy (.slice la L.length lc) (.slice ca C.length cc) (n + z)).drew.mono hb8.out.size))
                      have hB3 := hidden (hB2.out _ (hlow6.out _ hb9.out))
                      obtain ⟨e0, e1, e2⟩ := (pbAt_new w8 pbTy (.slice la L.length lc) (.slice ca C.length cc) (n + z)).cells
                      have f0 : ((w8.alloc (pbO pbTy (.slice la L.length lc) (.slice ca C.length cc) (n + z))).drew).cell? ⟨w8.heap.size, 0, none⟩ = some (.slice la L.length lc) := e0
                      have f1 : ((w8.alloc (pbO pbTy (.slice la L.length lc) (.slice ca C.length cc) (n + z))).drew).cell? ⟨w8.heap.size, 1, none⟩ = some (.slice ca C.length cc) := e1
                      have f2 : ((w8.alloc (pbO pbTy (.slice la L.length lc) (.slice ca C.length cc) (n + z))).drew).cell? ⟨w8.heap.size, 2, none⟩ = some (.int .i64 (n + z)) := e2
                      clear c0 c1 c2 z0 z1 z2 z3 z4 c2' hb8 e0 e1 e2 hB2
                      rcases hcz.out with ⟨rfl, hk3⟩ | ⟨ae, rfl⟩
                      all_goals
                        go_wp2_with fail
                        (with_reducible refine hB3.out.mono ?_)
                        rintro e w10 ⟨v3, rfl, hr3, ho3, hd3⟩
                        obtain ⟨va3, vc3, rfl⟩ := reads_slice hr3
                        have hq3 := hb9.out.trans ((below_alloc20 hd3 (reO (.slice va3 T3.length vc3) wv3 K3 S3 k3)).mono hb9.out.size)
                        obtain ⟨⟨⟨c0, c1, c2⟩, ⟨z0, z1, z2, z3, z4⟩⟩, _⟩ := hnow6.out _ hq3
                        have hend := hidden (hbx.out _ (hlow6.out _ hq3))
                        clear hr3 ho3 hd3 hq3 hB3 hnow6 hlow6 hb9 f0 f1 f2
                      · have hd3 : decide (K1 ≤ K3) = true := decide_eq_true hk3
                        cases S3
                        all_goals
                          go_wp2
                          go_ret
                          exact ⟨rfl, hend.out⟩
                      · go_wp2
                        go_ret
                        exact ⟨rfl, hend.out⟩
    · have hd : decide (20 < (t.length : Int)) = true := decide_eq_true (by omega)
      clear hBe hR hE hok nM hFi hCo hMo cI hSW hx hTb hT
      go_wp2_with fail
      (with_reducible refine hV2.out.mono ?_)
      rintro r w2 ⟨rfl, hb2⟩
      have hend := hidden (hbx.out _ (hb1.out.trans (hb2.mono hb1.out.size)))
      clear hV2 hb2 hb1 hc
      go_wp2
      go_ret
      exact ⟨rfl, hend.out⟩
  · have hne := errOf_pb A hok
    generalize errOf A (pbC L C n) = ev at *
    rcases hne with rfl | rfl
    all_goals
      clear hBe hR hE hok nM hFi hCo hMo cI hSW hx hTb hT
      go_wp2_with fail
      (with_reducible refine hV2.out.mono ?_)
      rintro r w2 ⟨rfl, hb2⟩
      have hend := hidden (hbx.out _ (hb1.out.trans (hb2.mono hb1.out.size)))
      clear hV2 hb2 hb1 hc
      go_wp2
      go_ret
      exact ⟨rfl, hend.out⟩
end Go.Proofs.YtaojahjgfgmpfaaDoor
