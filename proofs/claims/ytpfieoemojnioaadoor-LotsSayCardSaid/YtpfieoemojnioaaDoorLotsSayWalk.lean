import Derived.Test.YtpfieoemojnioaaDoorLotsRef5
import Derived.Test.YtpfieoemojnioaaDoorPbArg
import Derived.Test.YtpfieoemojnioaaDoorSameInts
import Derived.Test.YtpfieoemojnioaaDoorErr
import Derived.Test.YtpfieoemojnioaaDoorLaid
namespace Go.Proofs.YtpfieoemojnioaaDoor
open Go.RowKit
set_option linter.unusedVariables false

theorem pbC_code (L : List Lt) (C : List Int) (n : Int) : codeOk (pbC L C n) := by
  unfold codeOk
  rcases pbC_ways L C n with q | q | q <;> rw [q] <;> decide
abbrev PqS (w0 : World) (g k : Nat) (lv cv : Value) (n : Int) (W : World) : Prop :=
  (W.cell? ⟨g, 0, none⟩ = some lv ∧ W.cell? ⟨g, 1, none⟩ = some cv ∧ W.cell? ⟨g, 2, none⟩ = some (.int .i64 n)) ∧ (W.cell? ⟨k, 0, none⟩ = some lv ∧ W.cell? ⟨k, 1, none⟩ = some cv ∧ W.cell? ⟨k, 2, none⟩ = some (.int .i64 n)) ∧ Below w0.heap.size w0 W
theorem pqS_drew {w0 W : World} {g k : Nat} {lv cv : Value} {n : Int} (h : PqS w0 g k lv cv n W) : PqS w0 g k lv cv n W.drew := ⟨h.1, h.2.1, h.2.2.drew⟩
theorem pqS_next {w0 W W' : World} {g k : Nat} {lv cv : Value} {n : Int} (h : PqS w0 g k lv cv n W) (hb : Below W.heap.size W W') : PqS w0 g k lv cv n W' := by
  have hg : g < W.heap.size := World.block_lt_of_cell? W _ h.1.1
  have hk : k < W.heap.size := World.block_lt_of_cell? W _ h.2.1.1
  have e : ∀ p : Nat, W'.cell? ⟨g, p, none⟩ = W.cell? ⟨g, p, none⟩ := fun p => World.cell?_of_block (hb.block g hg)
  have f : ∀ p : Nat, W'.cell? ⟨k, p, none⟩ = W.cell? ⟨k, p, none⟩ := fun p => World.cell?_of_block (hb.block k hk)
  exact ⟨⟨(e 0).trans h.1.1, (e 1).trans h.1.2.1, (e 2).trans h.1.2.2⟩, ⟨(f 0).trans h.2.1.1, (f 1).trans h.2.1.2.1, (f 2).trans h.2.1.2.2⟩, h.2.2.trans (hb.mono h.2.2.size)⟩
set_option maxRecDepth 100000 in
set_option maxHeartbeats 25600000 in
theorem walk_lotsSay (p : PbX) (tv : Value) (t : List Int) (A : Nat → Addr) (w : World) (hp : PbIs w p) (hr : Reads .i64 w tv t) (htb : ∀ x ∈ t, -9223372036854775808 ≤ x ∧ x ≤ 9223372036854775807) (hS : Sents w A) :
    Calls Tryd.prog 3 #[pbA p.lv p.cv p.n, tv] w fun r w' => r = .returned (.bool true) ∧ Below w.heap.size w w' := by
  obtain ⟨lv, cv, L, C, n⟩ := p
  obtain ⟨hpr, hnd⟩ := hp
  simp only at hpr hnd
  have hb0 := below_pb w pbTy lv cv n
  have hpb := pbAt_new w pbTy lv cv n
  have hbx := hidden (fun W (hW : Below (w.alloc (pbO pbTy lv cv n)).heap.size (w.alloc (pbO pbTy lv cv n)) W) => hb0.trans (hW.mono hb0.size))
  have hc := hidden (fun W (hW : Below (w.alloc (pbO pbTy lv cv n)).heap.size (w.alloc (pbO pbTy lv cv n)) W) => (hpb.below hW (Nat.le_refl _)).cells)
  have hSW := hidden (fun W (hW : Below (w.alloc (pbO pbTy lv cv n)).heap.size (w.alloc (pbO pbTy lv cv n)) W) => hS.below (hbx.out W hW) (Nat.le_refl _))
  have hE := hidden (fun W (hW : Below (w.alloc (pbO pbTy lv cv n)).heap.size (w.alloc (pbO pbTy lv cv n)) W) => (hS.on [2, 4] (by decide)).below (hbx.out W hW) (Nat.le_refl _))
  have hR := hidden (fun W (hW : Below (w.alloc (pbO pbTy lv cv n)).heap.size (w.alloc (pbO pbTy lv cv n)) W) => hpr.below (hbx.out W hW) (Nat.le_refl _))
  have hT := hidden (fun W (hW : Below (w.alloc (pbO pbTy lv cv n)).heap.size (w.alloc (pbO pbTy lv cv n)) W) => hr.below (hbx.out W hW) (Nat.le_refl _))
  have hF := hidden (law18_first A _ (hE.out _ (Below.refl _ _)))
  have hLi := hidden (fun W hW => light_any lv cv L C n W (hR.out W hW))
  obtain ⟨la, lc, rfl⟩ := row_slice hpr.lots
  obtain ⟨ca, cc, rfl⟩ := reads_slice hpr.caps
  obtain ⟨ta, tc, rfl⟩ := reads_slice hr
  have hlen := hpr.len
  have htlen := hidden (reads_cap hr)
  have d0 := (hc.out _ (Below.refl _ _)).1
  have d1 := (hc.out _ (Below.refl _ _)).2.1
  have d2 := (hc.out _ (Below.refl _ _)).2.2
  clear hpr hS hb0 hpb hr
  go_enter Tryd.func3, Tryd.ntmps3
  go_wp2_with fail
  generalize w.alloc (pbO pbTy (.slice la L.length lc) (.slice ca C.length cc) n) = wP at *
  (with_reducible refine hF.out.mono ?_)
  rintro r w1 ⟨rfl, hb1⟩
  obtain ⟨c0, c1, c2⟩ := hc.out _ hb1
  have hL1 := hidden (hLi.out _ hb1)
  replace hb1 := hidden hb1
  clear hF d0 d1 d2 hLi
  cases hli : decide (L.length ≤ 20 ∧ C.length ≤ 20)
  · rw [hli] at hL1
    clear hli hE hR hT hSW
    go_wp2_with fail
    (with_reducible refine hL1.out.mono ?_)
    rintro r w2 ⟨rfl, hb2⟩
    replace hb2 := hidden (hb1.out.trans (hb2.mono hb1.out.size))
    clear hL1 hc
    go_wp2
    go_ret
    exact ⟨rfl, hbx.out _ hb2.out⟩
  · rw [hli] at hL1
    have hl20 := of_decide_eq_true hli
    have hLn : L.length ≤ 1000 := by omega
    clear hli
    by_cases h20 : (20 : Int) < (t.length : Int)
    · clear hE hR hT hSW
      go_wp2_with fail
      (with_reducible refine hL1.out.mono ?_)
      rintro r w2 ⟨rfl, hb2⟩
      replace hb2 := hidden (hb1.out.trans (hb2.mono hb1.out.size))
      clear hL1 hc
      go_wp2
      go_ret
      exact ⟨rfl, hbx.out _ hb2.out⟩
    · go_wp2_with fail
      (with_reducible refine hL1.out.mono ?_)
      rintro r w2 ⟨rfl, hb2⟩
      replace hb2 := hidden (hb1.out.trans (hb2.mono hb1.out.size))
      obtain ⟨c0, c1, c2⟩ := hc.out _ hb2.out
      have hO := hidden (other18_any la ca L.length lc C.length cc n w2)
      clear hL1 hb1
      go_wp2_with fail
      (with_reducible refine hO.out.mono ?_)
      rintro r w3 ⟨rfl, hb3⟩
      replace hb3 := hidden (hb2.out.trans (hb3.mono hb2.out.size))
      have hbq := below_pb w3 pbTyR (.slice la L.length lc) (.slice ca C.length cc) n
      have hpq := pbAt_new w3 pbTyR (.slice la L.length lc) (.slice ca C.length cc) n
      have hB := hidden (fun W (hW : Below (w3.alloc (pbO pbTyR (.slice la L.length lc) (.slice ca C.length cc) n)).heap.size (w3.alloc (pbO pbTyR (.slice la L.length lc) (.slice ca C.length cc) n)) W) => hb3.out.trans ((hbq.trans (hW.mono hbq.size)).mono hb3.out.size))
      have hq := hidden (fun W (hW : Below (w3.alloc (pbO pbTyR (.slice la L.length lc) (.slice ca C.length cc) n)).heap.size (w3.alloc (pbO pbTyR (.slice la L.length lc) (.slice ca C.length cc) n)) W) => (hpq.below hW (Nat.le_refl _)).cells)
      have rV := hidden (r18Valid_any _ _ L C n _ (hR.out _ (hB.out _ (Below.refl _ _))))
      clear hO hb2 hbq hpq
      go_wp2_with fail
      generalize w3.alloc (pbO pbTyR (.slice la L.length lc) (.slice ca C.length cc) n) = wX at *
      generalize w3.heap.size = xb at *
      (with_reducible refine rV.out.mono ?_)
      rintro r w4 ⟨rfl, hb4⟩
      obtain ⟨c0, c1, c2⟩ := hc.out _ (hB.out _ hb4)
      obtain ⟨e0, e1, e2⟩ := hq.out _ hb4
      have cW := hidden (ltWorth2_any A _ _ L C n _ t _ (hR.out _ (hB.out _ hb4)) (hT.out _ (hB.out _ hb4)) (hE.out _ (hB.out _ hb4)))
      replace hb4 := hidden hb4
      have rW := hidden (fun W hW => r18Worth_any _ _ L C n _ t W (hR.out _ (hB.out _ hW)) (hT.out _ (hB.out _ hW)))
      have cC := hidden (fun W hW => ltCost_any A _ _ L C n _ t W (hR.out _ (hB.out _ hW)) (hT.out _ (hB.out _ hW)) (hE.out _ (hB.out _ hW)))
      have rC := hidden (fun W hW => r18Cost_any _ _ L C n _ t W (hR.out _ (hB.out _ hW)) (hT.out _ (hB.out _ hW)))
      have cF := hidden (fun W hW => ltFits_any A _ _ L C n _ t W (hR.out _ (hB.out _ hW)) (hT.out _ (hB.out _ hW)) (hE.out _ (hB.out _ hW)))
      have rF := hidden (fun W hW => r18Fits_any _ _ L C n _ t W (hR.out _ (hB.out _ hW)) (hT.out _ (hB.out _ hW)))
      have cM := hidden (fun W hW => ltMost_any A _ _ L C n W (hR.out _ (hB.out _ hW)) hLn (hE.out _ (hB.out _ hW)))
      have rM := hidden (fun W hW => r18Most_any _ _ L C n W (hR.out _ (hB.out _ hW)) hLn)
      have cV := hidden (fun W hW => ltValid_any A _ _ L C n W (hR.out _ (hB.out _ hW)) (hE.out _ (hB.out _ hW)))
      have cI := hidden (fun W hW => is_any A (pbC L C n) (pbC L C n) W (hSW.out _ (hB.out _ hW)) (pbC_code L C n))
      have cG := hidden (fun W hW => ltGreedy_any A _ _ L C n W (hR.out _ (hB.out _ hW)) (hE.out _ (hB.out _ hW)))
      have rG := hidden (fun W hW => r18Greedy_any _ _ L C n W (hR.out _ (hB.out _ hW)))
      unfold GreedyAt at cG rG
      have hgl := hidden (show (grL L C n).length ≤ 1000000000 from by
        unfold grL
        split
        · rename_i z
          have hok : OkP L C n := by
            unfold grB at z
            simp only [Bool.and_eq_true, decide_eq_true_iff] at z
            exact z.1
          rw [(ginv_R hok).1.1]
          omega
        · exact Nat.zero_le _)
      rw [show (pbC L C n == pbC L C n) = true by simp] at cI
      clear hR hT hE hSW rV
      generalize errOf A (pbC L C n) = ev at *
      generalize pbC L C n = pc at *
      generalize woV L C n t = wv at *
      generalize coV L C n t = cvv at *
      generalize goodB L C n t = gb at *
      generalize fiB L C n t = fb at *
      generalize moV L C n = mv at *
      generalize grB L C n = grb at *
      generalize grL L C n = gl0 at *
      go_wp2_with fail
      (with_reducible refine cW.out.mono ?_)
      rintro r w5 ⟨rfl, hb5⟩
      replace hb5 := hidden (hb4.out.trans (hb5.mono hb4.out.size))
      obtain ⟨c0, c1, c2⟩ := hc.out _ (hB.out _ hb5.out)
      obtain ⟨e0, e1, e2⟩ := hq.out _ hb5.out
      have h5 := hidden (rW.out _ hb5.out)
      clear cW hb4 rW
      go_wp2_with fail
      (with_reducible refine h5.out.mono ?_)
      rintro r w6 ⟨rfl, hb6⟩
      replace hb6 := hidden (hb5.out.trans (hb6.mono hb5.out.size))
      obtain ⟨c0, c1, c2⟩ := hc.out _ (hB.out _ hb6.out)
      obtain ⟨e0, e1, e2⟩ := hq.out _ hb6.out
      replace h5 := hidden (cC.out _ hb6.out)
      clear hb5 cC
      go_wp2_with fail
      (with_reducible refine h5.out.mono ?_)
      rintro r w7 ⟨rfl, hb7⟩
      replace hb7 := hidden (hb6.out.trans (hb7.mono hb6.out.size))
      obtain ⟨c0, c1, c2⟩ := hc.out _ (hB.out _ hb7.out)
      obtain ⟨e0, e1, e2⟩ := hq.out _ hb7.out
      replace h5 := hidden (rC.out _ hb7.out)
      clear hb6 rC
      go_wp2_with fail
      (with_reducible refine h5.out.mono ?_)
      rintro r w8 ⟨rfl, hb8⟩
      replace hb8 := hidden (hb7.out.trans (hb8.mono hb7.out.size))
      have hs0 := hidden (show PqS wX w.heap.size xb (.slice la L.length lc) (.slice ca C.length cc) n w8 from ⟨hc.out _ (hB.out _ hb8.out), hq.out _ hb8.out, hb8.out⟩)
      clear h5 hb7
      go_wp2_with fail
      go_region_held3 (fun W => (W.cell? ⟨w.heap.size, 0, none⟩ = some (.slice la L.length lc) ∧ W.cell? ⟨w.heap.size, 1, none⟩ = some (.slice ca C.length cc) ∧ W.cell? ⟨w.heap.size, 2, none⟩ = some (.int .i64 n)) ∧ (W.cell? ⟨xb, 0, none⟩ = some (.slice la L.length lc) ∧ W.cell? ⟨xb, 1, none⟩ = some (.slice ca C.length cc) ∧ W.cell? ⟨xb, 2, none⟩ = some (.int .i64 n)) ∧ Below wX.heap.size wX W)
        ((first | exact pqS_drew hs0.out | assumption | exact pqS_next (by assumption) (by assumption)))
        ((first
          | (go_at_call 17; (with_reducible refine (cV.out _ (by first | exact hs0.out.2.2.drew | exact And.right (And.right (by assumption)))).mono ?_); rintro r w' ⟨rfl, hb⟩)
          | (go_at_call 16; (with_reducible refine (cI.out _ (by first | exact hs0.out.2.2.drew | exact And.right (And.right (by assumption)))).mono ?_); rintro r w' ⟨rfl, hb⟩)
          | (go_at_call 18; (with_reducible refine (cF.out _ (by first | exact hs0.out.2.2.drew | exact And.right (And.right (by assumption)))).mono ?_); rintro r w' ⟨rfl, hb⟩)
          | (go_at_call 19; (with_reducible refine (rF.out _ (by first | exact hs0.out.2.2.drew | exact And.right (And.right (by assumption)))).mono ?_); rintro r w' ⟨rfl, hb⟩)
          | (go_at_call 20; (with_reducible refine (cM.out _ (by first | exact hs0.out.2.2.drew | exact And.right (And.right (by assumption)))).mono ?_); rintro r w' ⟨rfl, hb⟩)
          | (go_at_call 21; (with_reducible refine (rM.out _ (by first | exact hs0.out.2.2.drew | exact And.right (And.right (by assumption)))).mono ?_); rintro r w' ⟨rfl, hb⟩)))
      all_goals
        rename_i hh
        obtain ⟨⟨c0, c1, c2⟩, ⟨e0, e1, e2⟩, hb9⟩ := hh
        have h5 := hidden (cG.out _ hb9)
        replace hb9 := hidden hb9
        clear hs0 cV cI cF rF cM rM cG hb8
        go_wp2_with fail
        (with_reducible refine h5.out.mono ?_)
        rintro r w10 ⟨gv, rfl, hg, hb10⟩
        replace hb10 := hidden (hb9.out.trans (hb10.mono hb9.out.size))
        obtain ⟨c0, c1, c2⟩ := hc.out _ (hB.out _ hb10.out)
        obtain ⟨e0, e1, e2⟩ := hq.out _ hb10.out
        replace h5 := hidden (rG.out _ hb10.out)
        replace hg := hidden hg
        clear hb9 rG
        go_wp2_with fail
        (with_reducible refine h5.out.mono ?_)
        rintro r w11 ⟨rv, rfl, hrg, hb11⟩
        have hsm := hidden (sameInts_any gv rv gl0 gl0 w11 (hg.out.below hb11 (Nat.le_refl _)) hrg hgl.out)
        rw [decide_eq_true (rfl : gl0 = gl0)] at hsm
        replace hb11 := hidden (hb10.out.trans (hb11.mono hb10.out.size))
        clear h5 hg hrg hb10 hgl c0 c1 c2 e0 e1 e2
        go_wp2_with fail
        (with_reducible refine hsm.out.mono ?_)
        rintro r w12 ⟨rfl, m, rfl⟩
        have hend := hidden (below_drewN (m := m) (hbx.out _ (hB.out _ hb11.out)))
        clear hsm hb11
        go_wp2
        go_ret
        exact ⟨by simp, hend.out⟩
end Go.Proofs.YtpfieoemojnioaaDoor
