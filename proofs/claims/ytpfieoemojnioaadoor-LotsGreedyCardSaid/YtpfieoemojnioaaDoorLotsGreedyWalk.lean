import Derived.Test.YtpfieoemojnioaaDoorPbArg
import Derived.Test.YtpfieoemojnioaaDoorLotsPbS
import Derived.Test.YtpfieoemojnioaaDoorInts
import Derived.Test.YtpfieoemojnioaaDoorLaidOn
namespace Go.Proofs.YtpfieoemojnioaaDoor
open Go.RowKit
set_option linter.unusedVariables false

theorem errOf_pb {L : List Lt} {C : List Int} {n : Int} (A : Nat → Addr) (h : ¬ OkP L C n) : errOf A (pbC L C n) = errAt (A 2) ∨ errOf A (pbC L C n) = errAt (A 4) := by
  rcases pbC_ways L C n with q | q | q
  · exact absurd (pbC_iff.1 q) h
  · exact .inl (by rw [q]; rfl)
  · exact .inr (by rw [q]; rfl)
def CpRel (C : List Int) (w0 : World) (b i : Value) (w : World) : Prop := ∃ (k : Nat) (B : Bool), k ≤ C.length ∧ i = .int .i64 (k : Int) ∧ b = .bool B ∧ (B = false → ∀ j, j < k → C.getD j 0 ≤ 0) ∧ w0 = w
def NdRel (T : List Int) (X : Nat → Prop) (w0 : World) (s b i : Value) (w : World) : Prop :=
  ∃ (k : Nat) (B : Bool), k ≤ T.length ∧ i = .int .i64 (k : Int) ∧ s = .int .i64 (sumF (fun j => T.getD j 0) k) ∧ b = .bool B ∧ (∀ j, j < k → X j → B = true) ∧ Below w0.heap.size w0 w
theorem sum_pos {T : List Int} (h : ∀ j, j < T.length → 0 ≤ T.getD j 0) {i : Nat} (hi : i < T.length) (hp : 0 < T.getD i 0) : 0 < sumF (fun j => T.getD j 0) T.length := by
  have h1 := sumF_one (f := fun j => if j = i then 0 else T.getD j 0) (g := fun j => T.getD j 0) (i := i) hi (fun j hj hn => if_neg hn)
  have h2 : 0 ≤ sumF (fun j => if j = i then 0 else T.getD j 0) T.length := by
    have : ∀ k, k ≤ T.length → 0 ≤ sumF (fun j => if j = i then 0 else T.getD j 0) k := by
      intro k
      induction k with
      | zero => intro _; exact Int.le_refl _
      | succ k ih =>
        intro hk
        have := ih (by omega)
        have := h k (by omega)
        show 0 ≤ sumF (fun j => if j = i then 0 else T.getD j 0) k + (if k = i then 0 else T.getD k 0)
        split <;> omega
    exact this _ (Nat.le_refl _)
  rw [if_pos rfl] at h1
  omega
set_option maxRecDepth 100000 in
set_option maxHeartbeats 12800000 in
theorem walk_lotsGreedy (p : PbX) (A : Nat → Addr) (w : World) (hp : PbIs w p) (hS : SentsOn [2, 4] w A) :
    Calls Tryd.prog 5 #[pbA p.lv p.cv p.n] w fun r w' => r = .returned (.bool true) ∧ Below w.heap.size w w' := by
  obtain ⟨lv, cv, L, C, n⟩ := p
  obtain ⟨hpr, hnd⟩ := hp
  simp only at hpr hnd
  have hb0 := below_pb w pbTy lv cv n
  have hpb := pbAt_new w pbTy lv cv n
  have hbx := hidden (fun W (hW : Below (w.alloc (pbO pbTy lv cv n)).heap.size (w.alloc (pbO pbTy lv cv n)) W) => hb0.trans (hW.mono hb0.size))
  have hc := hidden (fun W (hW : Below (w.alloc (pbO pbTy lv cv n)).heap.size (w.alloc (pbO pbTy lv cv n)) W) => (hpb.below hW (Nat.le_refl _)).cells)
  have hE := hidden (fun W (hW : Below (w.alloc (pbO pbTy lv cv n)).heap.size (w.alloc (pbO pbTy lv cv n)) W) => hS.on.below (hbx.out W hW) (Nat.le_refl _))
  have hR := hidden (fun W (hW : Below (w.alloc (pbO pbTy lv cv n)).heap.size (w.alloc (pbO pbTy lv cv n)) W) => hpr.below (hbx.out W hW) (Nat.le_refl _))
  have hF := hidden (law18_first A _ (hE.out _ (Below.refl _ _)))
  have hLi := hidden (fun W hW => light_any lv cv L C n W (hR.out W hW))
  have hVa := hidden (fun W hW => ltValid_any A lv cv L C n W (hR.out W hW) (hE.out W hW))
  have hGr := hidden (fun W hW => ltGreedy_any A lv cv L C n W (hR.out W hW) (hE.out W hW))
  unfold GreedyAt at hGr
  have hMo := hidden (fun W hW hl => ltMost_any A lv cv L C n W (hR.out W hW) hl (hE.out W hW))
  have hFi := hidden (fun W hW tv t hr => ltFits_any A lv cv L C n tv t W (hR.out W hW) hr (hE.out W hW))
  obtain ⟨la, lc, rfl⟩ := row_slice hpr.lots
  obtain ⟨ca, cc, rfl⟩ := reads_slice hpr.caps
  have hx := hidden (fun k hk W hW => (hR.out W hW).caps.cell k hk)
  have hlen := hpr.len
  clear hpr hS hb0 hpb
  have d0 := (hc.out _ (Below.refl _ _)).1
  have d1 := (hc.out _ (Below.refl _ _)).2.1
  have d2 := (hc.out _ (Below.refl _ _)).2.2
  go_enter Tryd.func5, Tryd.ntmps5
  go_wp2_with fail
  generalize w.alloc (pbO pbTy (.slice la L.length lc) (.slice ca C.length cc) n) = wP at *
  (with_reducible refine hF.out.mono ?_)
  rintro r w1 ⟨rfl, hb1⟩
  obtain ⟨c0, c1, c2⟩ := hc.out _ hb1
  have hL1 := hidden (hLi.out _ hb1)
  replace hb1 := hidden hb1
  clear hF d0 d1 d2 hLi
  cases hli : decide (L.length ≤ 20 ∧ C.length ≤ 20)
  · rw [hli] at hL1
    clear hli hVa hGr hMo hFi hx hE hR
    go_wp2_with fail
    (with_reducible refine hL1.out.mono ?_)
    rintro r w2 ⟨rfl, hb2⟩
    replace hb2 := hidden (hb1.out.trans (hb2.mono hb1.out.size))
    clear hL1 hc
    go_wp2
    go_ret
    exact ⟨rfl, hbx.out _ hb2.out⟩
  · rw [hli] at hL1
    clear hli
    go_wp2_with fail
    (with_reducible refine hL1.out.mono ?_)
    rintro r w2 ⟨rfl, hb2⟩
    replace hb2 := hidden (hb1.out.trans (hb2.mono hb1.out.size))
    obtain ⟨c0, c1, c2⟩ := hc.out _ hb2.out
    have hV2 := hidden (hVa.out _ hb2.out)
    clear hL1 hb1 hVa
    by_cases hok : OkP L C n
    · rw [pbC_ok hok, errOf_fine] at hV2
      go_wp2_with fail
      (with_reducible refine hV2.out.mono ?_)
      rintro r w3 ⟨rfl, hb3⟩
      replace hb3 := hidden (hb2.out.trans (hb3.mono hb2.out.size))
      obtain ⟨c0, c1, c2⟩ := hc.out _ hb3.out
      have hG3 := hidden (hGr.out _ hb3.out)
      clear hV2 hb2 hGr
      go_wp2_with fail
      (with_reducible refine hG3.out.mono ?_)
      rintro r w4 ⟨gv, rfl, hgv, hb4⟩
      replace hb4 := hidden (hb3.out.trans (hb4.mono hb3.out.size))
      obtain ⟨c0, c1, c2⟩ := hc.out _ hb4.out
      clear hG3 hb3
      have hL8 := hok.1.1.2
      have hC8 := hok.1.2.2
      have hC8I : (C.length : Int) ≤ 8 := by omega
      by_cases hless : (gR L C n).2 < n
      · rw [grL_no (grB_less hless)] at hgv
        rw [grB_less hless]
        obtain ⟨va, vc, rfl⟩ := reads_slice hgv
        have hcap0 := hidden (fun k hk => hok.cap (k := k) hk)
        have hfr := hidden (fun (q : ∀ j, j < C.length → C.getD j 0 = 0) => greedy_free hok q hless)
        have hmv := hidden (show moV L C n = wo L C (full L) by unfold moV woV; rw [if_pos (goodB_yes hok (tk_full hok))])
        clear hgv hok hless hFi hR hE
        go_wp2_with fail
        go_loopw [6, 7] (fun b i wr => CpRel C w4 b i wr) (fun _ i _ => C.length - (RowKit.intOf i).toNat)
        case atStart => exact ⟨0, false, Nat.zero_le _, rfl, rfl, (fun _ j hj => by omega), rfl⟩
        case round =>
          obtain ⟨k, B, hk, rfl, rfl, hno, rfl⟩ := hrel
          by_cases hkm : k < C.length
          · have hkI : (k : Int) < (C.length : Int) := by omega
            obtain ⟨bc, oc, rfl, cc0⟩ := hx.out k hkm _ hb4.out
            have hN := hidden (fun (q : C.getD k 0 ≤ 0) (q2 : B = false) => show ∀ j, j < k + 1 → C.getD j 0 ≤ 0 from fun j hj => by
              by_cases e : j = k
              · subst e; exact q
              · exact hno q2 j (by omega))
            clear hno hx hcap0 hfr hMo
            generalize C.getD k 0 = c at *
            cases B
            · by_cases hc0 : 0 < c
              · have hcd : decide (0 < c) = true := decide_eq_true hc0
                clear hN
                go_wp2
                go_roundw
                case rel => exact ⟨k + 1, true, hkm, by go_num, rfl, (fun q => by cases q), rfl⟩
                case measure => simp [RowKit.intOf]; omega
              · have hcd : decide (0 < c) = false := decide_eq_false hc0
                have hN2 := hidden (hN.out (by omega) rfl)
                clear hN
                go_wp2
                go_roundw
                case rel => exact ⟨k + 1, false, hkm, by go_num, rfl, (fun _ => hN2.out), rfl⟩
                case measure => simp [RowKit.intOf]; omega
            · clear hN
              go_wp2
              go_roundw
              case rel => exact ⟨k + 1, true, hkm, by go_num, rfl, (fun q => by cases q), rfl⟩
              case measure => simp [RowKit.intOf]; omega
          · obtain rfl : k = C.length := by omega
            cases B
            · have hlt := hfr.out (fun j hj => by have := hno rfl j hj; have := (hcap0.out j hj).1; omega)
              rw [← hmv.out] at hlt
              have hd : decide (moV L C n < n) = true := decide_eq_true hlt
              have hs0 := hidden (show PbS wP w.heap.size (.slice la L.length lc) (.slice ca C.length cc) n w4 from ⟨c0, c1, c2, hb4.out⟩)
              clear hno hx hcap0 hfr hmv
              generalize moV L C n = mo at *
              go_wp2_with fail
              go_region_held3 (fun W => W.cell? ⟨w.heap.size, 0, none⟩ = some (.slice la L.length lc) ∧ W.cell? ⟨w.heap.size, 1, none⟩ = some (.slice ca C.length cc) ∧ W.cell? ⟨w.heap.size, 2, none⟩ = some (.int .i64 n) ∧ Below wP.heap.size wP W)
                ((first | exact pbS_drew hs0.out | assumption | exact pbS_next (by assumption) (by assumption)))
                ((go_at_call 20; (with_reducible refine (hMo.out _ (by first | exact hs0.out.2.2.2.drew | exact And.right (And.right (And.right (by assumption)))) (by omega)).mono ?_); rintro r w' ⟨rfl, hb⟩))
              all_goals
                rename_i hh
                have hend := hidden (hbx.out _ hh.2.2.2)
                clear hh hs0
                go_wp2
                go_ret
                exact ⟨rfl, hend.out⟩
            · have hend := hidden (fun m => below_drewN (m := m) (hbx.out _ hb4.out))
              clear hno hx hcap0 hfr hmv hMo
              go_wp2_with fail
              go_quiet (fail)
              go_wp2
              go_ret
              exact ⟨rfl, hend.out _⟩
      · rw [grL_yes (grB_fine hok hless)] at hgv
        rw [grB_fine hok hless]
        have hgi := ginv_R hok
        have hfits := greedy_fits hok hless
        generalize gR L C n = s at *
        obtain ⟨T, h⟩ := s
        simp only at hgv hless hfits
        have hgT : TkOk L T := hgi.1
        have hTl := hgT.1
        obtain ⟨va, vc, rfl⟩ := reads_slice hgv
        have hb4w := hb4.out
        have hb4s := hidden (fun W (h2 : Below w4.heap.size w4 W) => hb4w.trans (h2.mono hb4w.size))
        have hgr := hidden (fun W (h2 : Below w4.heap.size w4 W) => hgv.below h2 (Nat.le_refl _))
        have hFT := hidden (fun W (h2 : Below w4.heap.size w4 W) => hFi.out W (hb4s.out W h2) _ T (hgr.out W h2))
        have hMT := hidden (fun W (h2 : Below w4.heap.size w4 W) => hMo.out W (hb4s.out W h2) (by omega))
        have hfT : fiB L C n T = true := by
          unfold fiB woV
          rw [goodB_yes hok hgT, if_pos rfl, decide_eq_true hfits.1]
          rfl
        have hmT : moV L C n = wo L C (full L) := by unfold moV woV; rw [if_pos (goodB_yes hok (tk_full hok))]
        rw [hfT] at hFT
        rw [hmT] at hMT
        have hdm : decide (wo L C (full L) < n) = false := decide_eq_false (by have := hfits.2; omega)
        have hs0 := hidden (show PbS w4 w.heap.size (.slice la L.length lc) (.slice ca C.length cc) n w4 from ⟨c0, c1, c2, Below.refl _ _⟩)
        have hcW := hidden (fun W (h2 : Below w4.heap.size w4 W) => pbS_next hs0.out h2)
        have hsb := hidden (fun k (hk : k ≤ T.length) => sumF_bd (f := fun j => T.getD j 0) (M := 1000) (k := k) (fun j hj => by have := hgT.2 j (by omega); have := (hok.lot (k := j) (by omega)).1; omega))
        have hIn := hidden (fun W (h2 : Below w4.heap.size w4 W) => ints_own _ T W (hgr.out W h2) (by omega))
        have hFl := hidden (fun W (h2 : Below w4.heap.size w4 W) tv k (hk : k < T.length) (hp : 0 < T.getD k 0) hr => show Calls Tryd.prog 18 #[pbA (.slice la L.length lc) (.slice ca C.length cc) n, tv] W fun e w' => e = .returned (.bool (decide (n ≤ wo L C (less T k)))) ∧ Below W.heap.size W w' by
          have := hFi.out W (hb4s.out W h2) tv (less T k) hr
          unfold fiB woV at this
          rw [goodB_yes hok (tk_less hgT (by omega) hp), if_pos rfl, Bool.true_and] at this
          exact this)
        have hend0 := hidden (show T = List.replicate L.length 0 ∨ ∃ i, i < T.length ∧ 0 < T.getD i 0 ∧ wo L C (less T i) < n from by rw [hTl]; exact hgi.2.2)
        have hz := hidden (fun (q : T = List.replicate L.length 0) => show n ≤ 0 from by
          have e := hgi.2.1
          simp only at e
          rw [q, wo_zero hok] at e
          omega)
        have hpos := hidden (fun i (hi : i < T.length) (hp : 0 < T.getD i 0) => sum_pos (T := T) (fun j hj => (hgT.2 j (by omega)).1) hi hp)
        have hn0 := hok.2.2.2.1
        have hTI : (T.length : Int) ≤ 8 := by omega
        have hTlt := hidden (fun k (hk : k < T.length) => show 0 ≤ T.getD k 0 ∧ T.getD k 0 ≤ 1000 from by have := hgT.2 k (by omega); have := (hok.lot (k := k) (by omega)).1; omega)
        clear hfT hmT hMo hgv hx hE hR hFi hok hgi hgT hless
        replace hTl := hidden hTl
        generalize wo L C (full L) = mo at *
        go_wp2_with fail
        go_region_held3 (fun W => W.cell? ⟨w.heap.size, 0, none⟩ = some (.slice la L.length lc) ∧ W.cell? ⟨w.heap.size, 1, none⟩ = some (.slice ca C.length cc) ∧ W.cell? ⟨w.heap.size, 2, none⟩ = some (.int .i64 n) ∧ Below w4.heap.size w4 W)
          ((first | exact pbS_drew hs0.out | assumption | exact pbS_next (by assumption) (by assumption)))
          ((first
            | (go_at_call 18; (with_reducible refine (hFT.out _ (by first | exact hs0.out.2.2.2.drew | exact And.right (And.right (And.right (by assumption))))).mono ?_); rintro r w' ⟨rfl, hb⟩)
            | (go_at_call 20; (with_reducible refine (hMT.out _ (by first | exact hs0.out.2.2.2.drew | exact And.right (And.right (And.right (by assumption))))).mono ?_); rintro r w' ⟨rfl, hb⟩)))
        all_goals
          rename_i hh
          obtain ⟨e0, e1, e2, hb5⟩ := hh
          replace hb5 := hidden hb5
          clear hs0 hFT hMT hdm c0 c1 c2
          go_wp2_with fail
          go_loopw [8, 9, 10] (fun s b i wr => NdRel T (fun j => 0 < T.getD j 0 ∧ wo L C (less T j) < n) w4 s b i wr) (fun _ _ i _ => T.length - (RowKit.intOf i).toNat)
          case atStart => exact ⟨0, false, Nat.zero_le _, rfl, rfl, rfl, (fun j hj => by omega), hb5.out⟩
          case round =>
            clear hb5 e0 e1 e2
            obtain ⟨k, B, hk, rfl, rfl, rfl, hB, hb6⟩ := hrel
            obtain ⟨c0, c1, c2, _⟩ := hcW.out _ hb6
            by_cases hkl : k < T.length
            · have hkI : (k : Int) < (T.length : Int) := by omega
              obtain ⟨bT, oT, rfl, cT⟩ := (hgr.out _ hb6).cell k hkl
              have h1 := hsb.out k hk
              have h2 := hTlt.out k hkl
              have hst := hidden (show sumF (fun j => T.getD j 0) (k + 1) = sumF (fun j => T.getD j 0) k + T.getD k 0 from rfl)
              have hpc := hidden (fun W (h2 : Below wr.heap.size wr W) => pbS_next (hcW.out _ hb6) h2)
              by_cases hp : 0 < T.getD k 0
              · have hI6 := hidden (hIn.out _ hb6)
                have hF6 := hidden (fun W h2 tv => hFl.out W h2 tv k hkl hp)
                have hpd : decide (0 < T.getD k 0) = true := decide_eq_true hp
                have hX : decide (n ≤ wo L C (less T k)) = true ∨ decide (n ≤ wo L C (less T k)) = false := by cases decide (n ≤ wo L C (less T k)) <;> simp
                have hXk := hidden (fun (q : decide (n ≤ wo L C (less T k)) = true) => show ¬ (0 < T.getD k 0 ∧ wo L C (less T k) < n) from fun z => by have := of_decide_eq_true q; omega)
                have hnl := hidden (fun (B' : Bool) (q : B = true → B' = true) (q2 : 0 < T.getD k 0 ∧ wo L C (less T k) < n → B' = true) => show ∀ j, j < k + 1 → (0 < T.getD j 0 ∧ wo L C (less T j) < n) → B' = true from fun j hj hx => by
                  by_cases e : j = k
                  · subst e; exact q2 hx
                  · exact q (hB j (by omega) hx))
                have hwm : IntKind.i64.wrap (T.getD k 0 - 1) = T.getD k 0 - 1 := by rw [IntKind.wrap_i64]; omega
                have hws : IntKind.i64.wrap (sumF (fun j => T.getD j 0) k + T.getD k 0) = sumF (fun j => T.getD j 0) k + T.getD k 0 := by rw [IntKind.wrap_i64]; omega
                replace hb6 := hidden hb6
                clear hB hIn hFl hgr hsb hpos hend0 hz hTlt
                have hlt6 := hidden (show T.set k (T.getD k 0 - 1) = less T k from rfl)
                have hop := hidden (fun (W : World) v (h : W.ownsRow wr.heap.size 3 1 v T.length (ivs T)) => own_put h hkl (T.getD k 0 - 1))
                rw [hlt6.out] at hop
                generalize sumF (fun j => T.getD j 0) k = S at *
                generalize wo L C (less T k) = wk at *
                generalize T.getD k 0 = x at *
                go_wp2_with fail
                (with_reducible refine hI6.out.mono ?_)
                rintro r w6 ⟨v6, rfl, hown, hb7⟩
                obtain ⟨g6, cp6, rfl, hg6, hg6l, f6, c6, hown2⟩ := hop.out _ _ hown
                have hb8 := hb6.out.trans (hb7.mono hb6.out.size)
                have hb9 := hidden (hb8.setCell (p := ⟨g6, k, none⟩) (Nat.le_trans hb6.out.size hg6) (.int .i64 (x - 1)))
                have hb97 := hb7.setCell (p := ⟨g6, k, none⟩) hg6 (.int .i64 (x - 1))
                obtain ⟨e0, e1, e2, _⟩ := hpc.out _ hb97
                have hF7 := hidden (hF6.out _ hb9.out _ (reads_of_own (xs := less T k) hown2))
                clear hown hown2 hb8 hb7 hb97 hop hI6 hF6 hpc
                cases B
                · rcases hX with q | q
                  · rw [q] at hF7
                    have hno := hidden (hnl.out false (fun z => z) (fun z => absurd z (hXk.out q)))
                    clear hnl hXk q
                    go_wp2_with fail
                    (with_reducible refine hF7.out.mono ?_)
                    rintro r w8 ⟨rfl, hb10⟩
                    replace hb10 := hidden (hb9.out.trans (hb10.mono hb9.out.size))
                    clear hF7 hb9
                    go_wp2
                    go_roundw
                    case rel => exact ⟨k + 1, false, hkl, by go_num, by rw [hst.out], rfl, hno.out, hb10.out⟩
                    case measure => simp [RowKit.intOf]; omega
                  · rw [q] at hF7
                    clear hnl hXk q
                    go_wp2_with fail
                    (with_reducible refine hF7.out.mono ?_)
                    rintro r w8 ⟨rfl, hb10⟩
                    replace hb10 := hidden (hb9.out.trans (hb10.mono hb9.out.size))
                    clear hF7 hb9
                    go_wp2
                    go_roundw
                    case rel => exact ⟨k + 1, true, hkl, by go_num, by rw [hst.out], rfl, (fun _ _ _ => rfl), hb10.out⟩
                    case measure => simp [RowKit.intOf]; omega
                · clear hnl hXk hX hF7
                  go_wp2
                  go_roundw
                  case rel => exact ⟨k + 1, true, hkl, by go_num, by rw [hst.out], rfl, (fun _ _ _ => rfl), hb9.out⟩
                  case measure => simp [RowKit.intOf]; omega
              · have hpd : decide (0 < T.getD k 0) = false := decide_eq_false hp
                have hB2 := hidden (show ∀ j, j < k + 1 → (0 < T.getD j 0 ∧ wo L C (less T j) < n) → B = true from fun j hj hx => by
                  by_cases e : j = k
                  · subst e; exact absurd hx.1 hp
                  · exact hB j (by omega) hx)
                have hws : IntKind.i64.wrap (sumF (fun j => T.getD j 0) k + T.getD k 0) = sumF (fun j => T.getD j 0) k + T.getD k 0 := by rw [IntKind.wrap_i64]; omega
                replace hb6 := hidden hb6
                clear hB hIn hFl hgr hsb hpos hend0 hz
                generalize sumF (fun j => T.getD j 0) k = S at *
                generalize T.getD k 0 = x at *
                go_wp2
                go_roundw
                case rel => exact ⟨k + 1, B, hkl, by go_num, by rw [hst.out], rfl, hB2.out, hb6.out⟩
                case measure => simp [RowKit.intOf]; omega
            · obtain rfl : k = T.length := by omega
              have h1 := hsb.out T.length (Nat.le_refl _)
              rcases hend0.out with q | ⟨i, hi, hp, hw⟩
              · have hz2 := hz.out q
                have hn1 : n = 0 := by omega
                have hS : sumF (fun j => T.getD j 0) T.length = 0 := sumF_zero fun j hj => by rw [q, zeros_at]
                rw [hS]
                subst hn1
                have hend := hidden (hbx.out _ (hb4s.out _ hb6))
                clear hB hS hend0
                cases B
                all_goals
                  go_wp2
                  go_ret
                  exact ⟨rfl, hend.out⟩
              · have hp2 := hpos.out i (by omega) hp
                have hBt := hB i hi ⟨hp, hw⟩
                subst hBt
                have hS : (sumF (fun j => T.getD j 0) T.length == 0) = false := by rw [beq_eq_false_iff_ne]; omega
                have hend := hidden (hbx.out _ (hb4s.out _ hb6))
                clear hB hend0
                generalize sumF (fun j => T.getD j 0) T.length = S at *
                go_wp2
                go_ret
                exact ⟨rfl, hend.out⟩
    · have hne := errOf_pb A hok
      generalize errOf A (pbC L C n) = ev at *
      rcases hne with rfl | rfl
      all_goals
        clear hGr hMo hFi hx hE hR hok
        go_wp2_with fail
        (with_reducible refine hV2.out.mono ?_)
        rintro r w3 ⟨rfl, hb3⟩
        replace hb3 := hidden (hb2.out.trans (hb3.mono hb2.out.size))
        clear hV2 hc
        go_wp2
        go_ret
        exact ⟨rfl, hbx.out _ hb3.out⟩
end Go.Proofs.YtpfieoemojnioaaDoor
