/-
  CertSays (chapter 21), walked: whether a result is right, how far it may be from the cheapest, which lot may be one less.
-/
import Derived.Test.YtmihpgccdknhfaaDoorCertWrongWalk
import Derived.Test.YtmihpgccdknhfaaDoorCertRef
import Derived.Test.YtmihpgccdknhfaaDoorReArg
namespace Go.Proofs.YtmihpgccdknhfaaDoor
open Go Go.RowKit
set_option linter.unusedVariables false

theorem less_none {L : List Lt} {C : List Int} {n : Int} {T : List Int} {k : Nat} (hk : k < T.length) (h : T.getD k 0 < 1) : fiB L C n (less T k) = false := by
  cases hf : fiB L C n (less T k)
  · rfl
  · obtain ⟨_, g2, _⟩ := fi_good hf
    have h1 := g2.1
    rw [less_len] at h1
    have h2 := (g2.2 k (by omega)).1
    rw [less_at hk, if_pos rfl] at h2
    omega
theorem says_ways (L : List Lt) (C : List Int) (n : Int) (T : List Int) (wt c : Int) :
    ((pbC L C n == 0) = false ∧ ckC L C n T wt c = pbC L C n ∧ ckC L C n T wt c ≠ 0) ∨
    (pbC L C n = 0 ∧ goodB L C n T = false ∧ ckC L C n T wt c = 102) ∨
    (pbC L C n = 0 ∧ goodB L C n T = true ∧ (woV L C n T != wt) = true ∧ ckC L C n T wt c = 102) ∨
    (pbC L C n = 0 ∧ goodB L C n T = true ∧ (woV L C n T != wt) = false ∧ (coV L C n T != c) = true ∧ ckC L C n T wt c = 102) ∨
    (pbC L C n = 0 ∧ goodB L C n T = true ∧ (woV L C n T != wt) = false ∧ (coV L C n T != c) = false ∧ ((decide (woV L C n T < n) = true ∧ ckC L C n T wt c = 115) ∨ (decide (woV L C n T < n) = false ∧ ckC L C n T wt c = 0))) := by
  rcases ck_ways L C n T wt c with ⟨h, q⟩ | ⟨h, _, g, q⟩ | ⟨h, _, g, h1, q⟩ | ⟨h, _, g, h1, h2, q⟩ | ⟨h, _, g, h1, h2, h3, h4, q⟩ | ⟨h, _, g, h1, h2, h3, h4, q⟩
  · have hp : pbC L C n ≠ 0 := fun e => h (pbC_iff.1 e)
    exact .inl ⟨by simpa using hp, q, by rw [q]; exact hp⟩
  · exact .inr (.inl ⟨pbC_ok h, g, q⟩)
  · exact .inr (.inr (.inl ⟨pbC_ok h, g, by simpa using h1, q⟩))
  · exact .inr (.inr (.inr (.inl ⟨pbC_ok h, g, by simp [h1], by simpa using h2, q⟩)))
  · exact .inr (.inr (.inr (.inr ⟨pbC_ok h, g, by simp [h1], by simp [h2], .inl ⟨decide_eq_true (by omega), q⟩⟩)))
  · exact .inr (.inr (.inr (.inr ⟨pbC_ok h, g, by simp [h1], by simp [h2], .inr ⟨decide_eq_false (by omega), q⟩⟩)))
def swI : Option Nat → Int
  | none => -1
  | some i => (i : Int)
/-- what the statement's second loop compares. -/
theorem sw_cells {L : List Lt} {C : List Int} {n : Int} {T : List Int} {o : Option Nat} (h : SwIs L C n T o) :
    (swL T o).length ≤ T.length ∧ decide (0 ≤ swI o) = o.isSome ∧ (o.isSome = false ∨ (swL T o).length = T.length) ∧
      ∀ k, k < (swL T o).length → ((k : Int) = swI o ∧ (swL T o).getD k 0 = T.getD k 0 - 1 ∧ 0 ≤ T.getD k 0 - 1 ∧ T.getD k 0 ≤ 1000) ∨ ((k : Int) ≠ swI o ∧ (swL T o).getD k 0 = T.getD k 0) := by
  cases o with
  | none => exact ⟨Nat.zero_le _, rfl, .inl rfl, fun k hk => by simp [swL] at hk⟩
  | some i =>
    obtain ⟨h1, h2, h3, h4⟩ := h
    obtain ⟨g1, g2, _⟩ := fi_good h3
    have hl := less_len T i
    have e1 := g2.1
    have e2 := g2.2 i (by omega)
    have e3 := (g1.lot (k := i) (by omega)).1
    have e4 := ((fi_good h1).2.1.2 i (by omega)).2
    refine ⟨by show (less T i).length ≤ _; omega, decide_eq_true (Int.natCast_nonneg i), .inr hl, fun k hk => ?_⟩
    show ((k : Int) = (i : Int) ∧ (less T i).getD k 0 = _ ∧ _) ∨ ((k : Int) ≠ (i : Int) ∧ (less T i).getD k 0 = _)
    rw [less_at h2] at e2 ⊢
    rw [if_pos rfl] at e2
    by_cases e : k = i
    · subst e
      rw [if_pos rfl]
      exact .inl ⟨rfl, rfl, by omega, by omega⟩
    · rw [if_neg e]
      exact .inr ⟨by omega, rfl⟩
def SaRel (L : List Lt) (C : List Int) (n : Int) (T : List Int) (w0 : World) (a i : Value) (W : World) : Prop :=
  ∃ k : Nat, k ≤ T.length ∧ i = .int .i64 (k : Int) ∧ ((a = .int .i64 (-1) ∧ ∀ j, j < k → fiB L C n (less T j) = false) ∨ ∃ j : Nat, a = .int .i64 (j : Int) ∧ SwIs L C n T (some j)) ∧ Below w0.heap.size w0 W
def SbRel (len : Nat) (w0 : World) (i : Value) (W : World) : Prop := ∃ k : Nat, k ≤ len ∧ i = .int .i64 (k : Int) ∧ Below w0.heap.size w0 W
set_option maxRecDepth 100000 in
set_option maxHeartbeats 25600000 in
theorem walk_certSays (p : PbX) (r : ReX) (A : Nat → Addr) (w : World) (hp : PbIs w p) (hr : ReIs w r) (hS : Sents w A) :
    Calls Tryd.prog 3 #[pbA p.lv p.cv p.n, reA r.tv r.wt r.c r.s r.k] w fun e w' => e = .returned (.bool true) ∧ Below w.heap.size w w' := by
  obtain ⟨lv, cv, L, C, n⟩ := p
  obtain ⟨hpr, hnd⟩ := hp
  obtain ⟨tv, T, wt, c, s, k⟩ := r
  obtain ⟨hrd, hTb, _, _, _⟩ := hr
  simp only at hpr hnd hrd hTb
  have hbx := hidden (fun W hW => two_low w lv cv n tv wt c s k (W := W) hW)
  have hcel := hidden (fun W hW => two_ck w lv cv n tv wt c s k (W := W) hW)
  have hSW := hidden (fun W hW => hS.below (hbx.out W hW) (Nat.le_refl _))
  have hE := hidden (fun W hW => (hSW.out W hW).on [1, 2, 4, 14] (by simp))
  have hR := hidden (fun W hW => hpr.below (hbx.out W hW) (Nat.le_refl _))
  have hT := hidden (fun W hW => hrd.below (hbx.out W hW) (Nat.le_refl _))
  have hF := hidden (law21_first A _ ((hE.out _ (Below.refl _ _)).sub (by simp)))
  have rV := hidden (fun W hW => r18Valid_any lv cv L C n W (hR.out W hW))
  have rW := hidden (fun W hW => r18Worth_any lv cv L C n tv T W (hR.out W hW) (hT.out W hW))
  have rC := hidden (fun W hW => r18Cost_any lv cv L C n tv T W (hR.out W hW) (hT.out W hW))
  have rF := hidden (fun W hW tv' t' hr' => r18Fits_any lv cv L C n tv' t' W (hR.out W hW) hr')
  have rL := hidden (fun W hW => r18Least_any lv cv L C n 0 n W (hR.out W hW) (Nat.zero_le _) hnd.1 hnd.2)
  rw [show ((0 : Nat) : Int) = 0 from rfl] at rL
  have cC := hidden (fun W hW => ckAny21 A lv cv L C n tv T wt c s k W (hR.out W hW) (hT.out W hW) (hE.out W hW))
  have cG := hidden (fun W hW => gapAny21 A lv cv L C n tv T wt c s k W (hR.out W hW) (hT.out W hW) (hE.out W hW))
  unfold GpAt at cG
  have cS := hidden (fun W hW => swapAny21 A lv cv L C n tv T W (hR.out W hW) (hT.out W hW) ((hE.out W hW).sub (by simp)))
  unfold SwAt at cS
  have cI := hidden (fun W hW => is_any A (ckC L C n T wt c) (ckC L C n T wt c) W (hSW.out W hW) (by
    have := ck_code L C n T wt c
    unfold codeOk
    omega))
  rw [show (ckC L C n T wt c == ckC L C n T wt c) = true from by simp] at cI
  have hIn := hidden (fun W hW (h20 : T.length ≤ 20) => ints_own tv T W (hT.out W hW) (by omega))
  have hTk := hidden (fun j (hj : j < T.length) => show In64 (T.getD j 0) from by rw [List.getD_eq_getElem?_getD, List.getElem?_eq_getElem hj]; exact hTb _ (List.getElem_mem hj))
  have hlenL := hpr.len
  have hlenT : (T.length : Int) ≤ 9223372036854775807 := by
    obtain ⟨_, _, _, e, _, h4, h5, _⟩ := hrd
    unfold maxLen at h5
    omega
  obtain ⟨la, lc, rfl⟩ := row_slice hpr.lots
  obtain ⟨ca, cc, rfl⟩ := reads_slice hpr.caps
  obtain ⟨ta, tc, rfl⟩ := reads_slice hrd
  obtain ⟨⟨d0, d1, d2⟩, ⟨e0, e1, e2, e3, e4⟩⟩ := hcel.out _ (Below.refl _ _)
  clear hpr hrd hS hTb hnd hR hE hSW
  go_enter Tryd.func3, Tryd.ntmps3
  go_wp2_with fail
  unfold twoW at *
  generalize (w.alloc (pbO pbTy (.slice la L.length lc) (.slice ca C.length cc) n)).alloc (reO (.slice ta T.length tc) wt c s k) = wP at *
  (with_reducible refine hF.out.mono ?_)
  rintro e w1 ⟨rfl, hb1⟩
  clear d0 d1 d2 e0 e1 e2 e3 e4 hF
  obtain ⟨⟨c0, c1, c2⟩, ⟨z0, z1, z2, z3, z4⟩⟩ := hcel.out _ hb1
  replace hb1 := hidden hb1
  by_cases h20 : (L.length : Int) ≤ 20
  · by_cases hC20 : (C.length : Int) ≤ 20
    · by_cases hT20 : (T.length : Int) ≤ 20
      · have hr20 : T.length ≤ 20 := by omega
        go_wp2_with fail
        have hx0 := pbAt_new w1 pbTyR (.slice la L.length lc) (.slice ca C.length cc) n
        have hbX := hb1.out.trans ((below_alloc20 (Below.refl w1.heap.size w1) (pbO pbTyR (.slice la L.length lc) (.slice ca C.length cc) n)).mono hb1.out.size)
        have hlow := hidden (fun W (hW : Below (w1.alloc (pbO pbTyR (.slice la L.length lc) (.slice ca C.length cc) n)).heap.size (w1.alloc (pbO pbTyR (.slice la L.length lc) (.slice ca C.length cc) n)) W) => hbX.trans (hW.mono hbX.size))
        have hnow := hidden (fun W (hW : Below (w1.alloc (pbO pbTyR (.slice la L.length lc) (.slice ca C.length cc) n)).heap.size (w1.alloc (pbO pbTyR (.slice la L.length lc) (.slice ca C.length cc) n)) W) => And.intro (hcel.out W (hbX.trans (hW.mono hbX.size))) (hx0.below hW (Nat.le_refl _)).cells)
        have hIn1 := hidden (fun W hW => hIn.out W hW hr20)
        clear c0 c1 c2 z0 z1 z2 z3 z4 hb1 hx0 hbX hcel hIn
        generalize w1.alloc (pbO pbTyR (.slice la L.length lc) (.slice ca C.length cc) n) = wX at *
        generalize w1.heap.size = gx at *
        obtain ⟨⟨⟨c0, c1, c2⟩, ⟨z0, z1, z2, z3, z4⟩⟩, ⟨x0, x1, x2⟩⟩ := hnow.out _ (Below.refl _ _)
        have hX := hidden (rV.out _ (hlow.out _ (Below.refl _ _)))
        have hways := says_ways L C n T wt c
        have hfine := hidden (fun (h : ckC L C n T wt c = 0) => gp_fine h)
        have hwrong := hidden (fun (h : ckC L C n T wt c ≠ 0) => And.intro (gp_wrong h) (ck_err A h))
        have hcoV := hidden (fun (h : ckC L C n T wt c = 0) => show coV L C n T = c ∧ rlV L C n 0 n = lsV L 0 n ∧ errOf A (ckC L C n T wt c) = .nilIface from by
          obtain ⟨q1, q2, _, q4, _⟩ := ck_fine.1 h
          refine ⟨?_, if_pos q1, by rw [h]; rfl⟩
          unfold coV
          rw [goodB_yes q1 q2, if_pos rfl]
          exact q4)
        clear rV
        generalize errOf A (ckC L C n T wt c) = ev at *
        generalize gpV L C n T wt c = gv at *
        generalize ckC L C n T wt c = code at *
        generalize pbC L C n = pc at *
        generalize goodB L C n T = gb at *
        generalize woV L C n T = wv at *
        generalize coV L C n T = kv at *
        generalize rlV L C n 0 n = rl at *
        generalize rlB L C n 0 n = rb at *
        generalize lsV L 0 n = ls at *
        go_wp2_with fail
        (with_reducible refine hX.out.mono ?_)
        rintro e w2 ⟨rfl, hb2⟩
        clear hX c0 c1 c2 z0 z1 z2 z3 z4 x0 x1 x2
        obtain ⟨⟨⟨c0, c1, c2⟩, ⟨z0, z1, z2, z3, z4⟩⟩, ⟨x0, x1, x2⟩⟩ := hnow.out _ hb2
        have hX := hidden (rW.out _ (hlow.out _ hb2))
        replace hb2 := hidden hb2
        clear rW
        go_wp2_with fail
        (with_reducible refine hX.out.mono ?_)
        rintro e w3 ⟨rfl, hb3⟩
        replace hb3 := hb2.out.trans (hb3.mono hb2.out.size)
        clear hX c0 c1 c2 z0 z1 z2 z3 z4 x0 x1 x2 hb2
        obtain ⟨⟨⟨c0, c1, c2⟩, ⟨z0, z1, z2, z3, z4⟩⟩, ⟨x0, x1, x2⟩⟩ := hnow.out _ hb3
        have hX := hidden (rC.out _ (hlow.out _ hb3))
        replace hb3 := hidden hb3
        clear rC
        go_wp2_with fail
        (with_reducible refine hX.out.mono ?_)
        rintro e w4 ⟨rfl, hb4⟩
        replace hb4 := hb3.out.trans (hb4.mono hb3.out.size)
        clear hX c0 c1 c2 z0 z1 z2 z3 z4 x0 x1 x2 hb3
        obtain ⟨⟨⟨c0, c1, c2⟩, ⟨z0, z1, z2, z3, z4⟩⟩, ⟨x0, x1, x2⟩⟩ := hnow.out _ hb4
        replace hb4 := hidden hb4
        go_upto_region 10 with (fail)
        go_cut [87] (fun v wx => (∃ b : Bool, v = .bool b ∧ ((b = true ∧ (code == 0) = false ∧ code = 102) ∨ (b = false ∧ (((pc == 0) = false ∧ code = pc) ∨ (pc = 0 ∧ ((decide (wv < n) = true ∧ code = 115) ∨ (decide (wv < n) = false ∧ code = 0))))))) ∧ Below wX.heap.size wX wx)
        case first =>
          as_aux_lemma =>
            clear rF rL cC cG cS cI hIn1 hnow hlow hfine hwrong hcoV hTk hT hbx
            rcases hways with ⟨q1, q2, _⟩ | ⟨rfl, rfl, rfl⟩ | ⟨rfl, rfl, q3, rfl⟩ | ⟨rfl, rfl, q3, q4, rfl⟩ | ⟨rfl, rfl, q3, q4, q5⟩
            · go_wp2_with fail
              go_meet
              exact ⟨⟨_, rfl, .inr ⟨rfl, .inl ⟨q1, q2⟩⟩⟩, hb4.out⟩
            · go_wp2_with fail
              go_meet
              exact ⟨⟨_, rfl, .inl ⟨rfl, rfl, rfl⟩⟩, hb4.out⟩
            · go_wp2_with fail
              go_meet
              exact ⟨⟨_, rfl, .inl ⟨rfl, rfl, rfl⟩⟩, hb4.out⟩
            · go_wp2_with fail
              go_meet
              exact ⟨⟨_, rfl, .inl ⟨rfl, rfl, rfl⟩⟩, hb4.out⟩
            · replace q5 := hidden q5
              go_wp2_with fail
              go_meet
              exact ⟨⟨_, rfl, .inr ⟨rfl, .inr ⟨rfl, q5.out⟩⟩⟩, hb4.out⟩
        case rest =>
          obtain ⟨⟨b, rfl, hb⟩, hb5⟩ := hcut
          clear c0 c1 c2 z0 z1 z2 z3 z4 x0 x1 x2 hb4 hways
          obtain ⟨⟨⟨c0, c1, c2⟩, ⟨z0, z1, z2, z3, z4⟩⟩, ⟨x0, x1, x2⟩⟩ := hnow.out _ hb5
          replace hb5 := hidden hb5
          go_upto_if 87 with (fail)
          go_cut [7] (fun v wx => (∃ b1 : Int, v = .int .i64 b1 ∧ (((b1 == 0) = false ∧ code = b1) ∨ (b1 = 0 ∧ ((decide (wv < n) = true ∧ code = 115) ∨ (decide (wv < n) = false ∧ code = 0))))) ∧ Below wX.heap.size wX wx)
          case first =>
            as_aux_lemma =>
              clear rF rL cC cG cS cI hIn1 hnow hlow hfine hwrong hcoV hTk hT hbx
              rcases hb with ⟨rfl, q1, q2⟩ | ⟨rfl, q⟩
              · clear q1
                replace q2 := hidden q2
                go_wp2_with fail
                go_meet
                exact ⟨⟨_, rfl, .inl ⟨rfl, q2.out⟩⟩, hb5.out⟩
              · replace q := hidden q
                go_wp2_with fail
                go_meet
                exact ⟨⟨_, rfl, q.out⟩, hb5.out⟩
          case rest =>
            obtain ⟨⟨b1, rfl, hb1⟩, hb6⟩ := hcut
            clear c0 c1 c2 z0 z1 z2 z3 z4 x0 x1 x2 hb5 hb
            obtain ⟨⟨⟨c0, c1, c2⟩, ⟨z0, z1, z2, z3, z4⟩⟩, ⟨x0, x1, x2⟩⟩ := hnow.out _ hb6
            replace hb6 := hidden hb6
            go_upto_region 12 with (fail)
            go_cut [95] (fun v wx => (∃ b2 : Bool, v = .bool b2 ∧ ((b2 = true ∧ code = 115) ∨ (b2 = false ∧ code = b1))) ∧ Below wX.heap.size wX wx)
            case first =>
              as_aux_lemma =>
                clear rF rL cC cG cS cI hIn1 hnow hlow hfine hwrong hcoV hTk hT hbx
                rcases hb1 with ⟨q1, q2⟩ | ⟨rfl, ⟨q1, q2⟩ | ⟨q1, q2⟩⟩
                · replace q2 := hidden q2
                  go_wp2_with fail
                  go_meet
                  exact ⟨⟨_, rfl, .inr ⟨rfl, q2.out⟩⟩, hb6.out⟩
                · replace q2 := hidden q2
                  go_wp2_with fail
                  go_meet
                  exact ⟨⟨_, rfl, .inl ⟨rfl, q2.out⟩⟩, hb6.out⟩
                · replace q2 := hidden q2
                  go_wp2_with fail
                  go_meet
                  exact ⟨⟨_, rfl, .inr ⟨rfl, q2.out⟩⟩, hb6.out⟩
            case rest =>
              obtain ⟨⟨b2, rfl, hb2⟩, hb7⟩ := hcut
              clear c0 c1 c2 z0 z1 z2 z3 z4 x0 x1 x2 hb6 hb1
              obtain ⟨⟨⟨c0, c1, c2⟩, ⟨z0, z1, z2, z3, z4⟩⟩, ⟨x0, x1, x2⟩⟩ := hnow.out _ hb7
              replace hb7 := hidden hb7
              go_upto_if 95 with (fail)
              go_cut [7] (fun v wx => v = .int .i64 code ∧ Below wX.heap.size wX wx)
              case first =>
                as_aux_lemma =>
                  clear rF rL cC cG cS cI hIn1 hnow hlow hfine hwrong hcoV hTk hT hbx
                  rcases hb2 with ⟨rfl, q2⟩ | ⟨rfl, q2⟩
                  · replace q2 := hidden q2
                    go_wp2_with fail
                    go_meet
                    exact ⟨by rw [q2.out], hb7.out⟩
                  · replace q2 := hidden q2
                    go_wp2_with fail
                    go_meet
                    exact ⟨by rw [q2.out], hb7.out⟩
              case rest =>
                as_aux_lemma =>
                  obtain ⟨rfl, hb8⟩ := hcut
                  clear c0 c1 c2 z0 z1 z2 z3 z4 x0 x1 x2 hb7 hb2
                  obtain ⟨⟨⟨c0, c1, c2⟩, ⟨z0, z1, z2, z3, z4⟩⟩, ⟨x0, x1, x2⟩⟩ := hnow.out _ hb8
                  have hX := hidden (cC.out _ (hlow.out _ hb8))
                  replace hb8 := hidden hb8
                  clear cC
                  go_wp2_with fail
                  (with_reducible refine hX.out.mono ?_)
                  rintro e w9 ⟨rfl, hbn⟩
                  have hb9' := hb8.out.trans (hbn.mono hb8.out.size)
                  clear c0 c1 c2 z0 z1 z2 z3 z4 x0 x1 x2 hX hb8 hbn
                  obtain ⟨⟨⟨c0, c1, c2⟩, ⟨z0, z1, z2, z3, z4⟩⟩, ⟨x0, x1, x2⟩⟩ := hnow.out _ hb9'
                  have hb9 := hidden hb9'
                  clear hb9'
                  have hX := hidden (cI.out _ (hlow.out _ hb9.out))
                  go_wp2_with fail
                  (with_reducible refine hX.out.mono ?_)
                  rintro e w10 ⟨rfl, hbn⟩
                  have hb10' := hb9.out.trans (hbn.mono hb9.out.size)
                  clear c0 c1 c2 z0 z1 z2 z3 z4 x0 x1 x2 hX hb9 hbn
                  obtain ⟨⟨⟨c0, c1, c2⟩, ⟨z0, z1, z2, z3, z4⟩⟩, ⟨x0, x1, x2⟩⟩ := hnow.out _ hb10'
                  have hb10 := hidden hb10'
                  clear hb10'
                  have hX := hidden (cG.out _ (hlow.out _ hb10.out))
                  clear cG
                  go_wp2_with fail
                  (with_reducible refine hX.out.mono ?_)
                  rintro e w11 ⟨rfl, hbn⟩
                  have hb11' := hb10.out.trans (hbn.mono hb10.out.size)
                  clear c0 c1 c2 z0 z1 z2 z3 z4 x0 x1 x2 hX hb10 hbn
                  obtain ⟨⟨⟨c0, c1, c2⟩, ⟨z0, z1, z2, z3, z4⟩⟩, ⟨x0, x1, x2⟩⟩ := hnow.out _ hb11'
                  have hb11 := hidden hb11'
                  clear hb11'
                  have hX := hidden (cI.out _ (hlow.out _ hb11.out))
                  clear cI
                  go_wp2_with fail
                  (with_reducible refine hX.out.mono ?_)
                  rintro e w12 ⟨rfl, hbn⟩
                  have hb12' := hb11.out.trans (hbn.mono hb11.out.size)
                  clear c0 c1 c2 z0 z1 z2 z3 z4 x0 x1 x2 hX hb11 hbn
                  obtain ⟨⟨⟨c0, c1, c2⟩, ⟨z0, z1, z2, z3, z4⟩⟩, ⟨x0, x1, x2⟩⟩ := hnow.out _ hb12'
                  have hb12 := hidden hb12'
                  clear hb12'
                  have hX := hidden (rL.out _ (hlow.out _ hb12.out))
                  clear rL
                  go_wp2_with fail
                  (with_reducible refine hX.out.mono ?_)
                  rintro e w13 ⟨rfl, hbn⟩
                  have hb13' := hb12.out.trans (hbn.mono hb12.out.size)
                  clear c0 c1 c2 z0 z1 z2 z3 z4 x0 x1 x2 hX hb12 hbn
                  obtain ⟨⟨⟨c0, c1, c2⟩, ⟨z0, z1, z2, z3, z4⟩⟩, ⟨x0, x1, x2⟩⟩ := hnow.out _ hb13'
                  have hb13 := hidden hb13'
                  clear hb13'
                  go_upto_region 20 with (fail)
                  go_cut [136] (fun v wx => v = .bool false ∧ Below wX.heap.size wX wx)
                  case first =>
                    as_aux_lemma =>
                      by_cases h0 : code = 0
                      · obtain ⟨g1, _, g3, g4, g5⟩ := hfine.out h0
                        obtain ⟨g6, g7, g8⟩ := hcoV.out h0
                        obtain ⟨d, hd⟩ : ∃ d, c - ls = d := ⟨_, rfl⟩
                        have hw : IntKind.i64.wrap (c - ls) = d := by rw [IntKind.wrap_i64]; omega
                        rw [hd] at g1
                        have hd0 : 0 ≤ d := by omega
                        clear rF cS hIn1 hnow hlow hfine hwrong hcoV hTk hT hbx h0 g3 g4 g5 hd
                        subst g1 g6 g7 g8
                        have hmx : max 0 gv = gv := by omega
                        clear hd0
                        go_wp2_with fail
                        all_goals
                          go_meet
                          exact ⟨rfl, hb13.out⟩
                      · obtain ⟨g1, ae, g2⟩ := hwrong.out h0
                        clear rF cS hIn1 hnow hlow hfine hwrong hcoV hTk hT hbx h0
                        subst g1 g2
                        go_wp2_with fail
                        go_meet
                        exact ⟨rfl, hb13.out⟩
                  case rest =>
                    obtain ⟨rfl, hb14⟩ := hcut
                    clear c0 c1 c2 z0 z1 z2 z3 z4 x0 x1 x2 hb13 hfine hwrong hcoV
                    obtain ⟨⟨⟨c0, c1, c2⟩, ⟨z0, z1, z2, z3, z4⟩⟩, ⟨x0, x1, x2⟩⟩ := hnow.out _ hb14
                    have hX := hidden (cS.out _ (hlow.out _ hb14))
                    replace hb14 := hidden hb14
                    clear cS
                    go_wp2_with fail
                    (with_reducible refine hX.out.mono ?_)
                    rintro e w15 ⟨o, v, hsw, rfl, hrs, hbn⟩
                    have hb15' := hb14.out.trans (hbn.mono hb14.out.size)
                    clear c0 c1 c2 z0 z1 z2 z3 z4 x0 x1 x2 hX hb14 hbn
                    obtain ⟨⟨⟨c0, c1, c2⟩, ⟨z0, z1, z2, z3, z4⟩⟩, ⟨x0, x1, x2⟩⟩ := hnow.out _ hb15'
                    have hb15 := hidden hb15'
                    obtain ⟨sa, sc, rfl⟩ := reads_slice hrs
                    have hq15 := hidden (fun W (hW : Below w15.heap.size w15 W) => And.intro (hb15'.trans (hW.mono hb15'.size)) (hrs.below hW (Nat.le_refl _)))
                    clear hb15' hrs
                    replace hsw := hidden hsw
                    have hTc := hidden (fun W (hW : Below wX.heap.size wX W) j (hj : j < T.length) => (hT.out W (hlow.out W hW)).cell j hj)
                    have hFT := hidden (fun W (hW : Below wX.heap.size wX W) => rF.out W (hlow.out W hW) _ T (hT.out W (hlow.out W hW)))
                    have hFL := hidden (fun W (hW : Below wX.heap.size wX W) tv' t' hr' => rF.out W (hlow.out W hW) tv' t' hr')
                    have hInX := hidden (fun W (hW : Below wX.heap.size wX W) => hIn1.out W (hlow.out W hW))
                    have hend0 := hidden (fun W (hW : Below wX.heap.size wX W) => hbx.out _ (hlow.out _ hW))
                    have hsame := hidden (fun q (hq : SwIs L C n T q) => sw_same hsw.out hq)
                    clear hT rF hIn1 hbx hlow
                    go_upto_block 0 with (fail)
                    go_cut [18] (fun v wx => v = .int .i64 (swI o) ∧ Below w15.heap.size w15 wx)
                    case first =>
                      as_aux_lemma =>
                        go_wp2_with fail
                        go_loopw [18, 19] (fun a i wr => SaRel L C n T w15 a i wr) (fun _ i _ => T.length - (RowKit.intOf i).toNat)
                        case atStart => exact ⟨0, Nat.zero_le _, rfl, .inl ⟨rfl, fun j hj => by omega⟩, Below.refl _ _⟩
                        case round =>
                          obtain ⟨m, hm, rfl, ha, hB⟩ := hrel
                          have hBX := (hq15.out _ hB).1
                          clear c0 c1 c2 z0 z1 z2 z3 z4 x0 x1 x2 hb15
                          obtain ⟨⟨⟨c0, c1, c2⟩, ⟨z0, z1, z2, z3, z4⟩⟩, ⟨x0, x1, x2⟩⟩ := hnow.out _ hBX
                          by_cases hlt : m < T.length
                          · have hlI : (m : Int) < (T.length : Int) := by omega
                            rcases ha with ⟨rfl, hno⟩ | ⟨j, rfl, hj⟩
                            · have hX := hidden (hFT.out _ hBX)
                              replace hno := hidden hno
                              cases hf : fiB L C n T
                              · rw [hf] at hX
                                have ho := hidden (hsame.out none (.inl hf))
                                replace hB := hidden hB
                                clear hFT hFL hInX hTc hTk hnow hend0 hsame hsw hq15 hno hBX
                                go_wp2_with fail
                                (with_reducible refine hX.out.mono ?_)
                                rintro e w17 ⟨rfl, hbn⟩
                                have hend := hidden (hB.out.trans (hbn.mono hB.out.size))
                                clear hX hB hbn c0 c1 c2 z0 z1 z2 z3 z4 x0 x1 x2
                                go_wp2_with fail
                                go_meet
                                exact ⟨by rw [ho.out]; rfl, hend.out⟩
                              · rw [hf] at hX
                                obtain ⟨bt, ot, rfl, q0⟩ := hTc.out _ hBX m hlt
                                replace hB := hidden hB
                                clear hBX q0
                                go_wp2_with fail
                                (with_reducible refine hX.out.mono ?_)
                                rintro e w17 ⟨rfl, hbn⟩
                                have hB17 := hB.out.trans (hbn.mono hB.out.size)
                                have hBX17 := (hq15.out _ hB17).1
                                clear c0 c1 c2 z0 z1 z2 z3 z4 x0 x1 x2 hX hB hbn hFT
                                obtain ⟨⟨⟨c0, c1, c2⟩, ⟨z0, z1, z2, z3, z4⟩⟩, ⟨x0, x1, x2⟩⟩ := hnow.out _ hBX17
                                obtain ⟨_, _, ee, q0⟩ := hTc.out _ hBX17 m hlt
                                simp only [Option.some.injEq, Addr.mk.injEq, and_true] at ee
                                obtain ⟨rfl, rfl⟩ := ee
                                by_cases ht1 : T.getD m 0 < 1
                                · have hl := less_none (L := L) (C := C) (n := n) hlt ht1
                                  have hno2 := hidden (show ∀ j, j < m + 1 → fiB L C n (less T j) = false from fun j hj => by
                                    by_cases e : j = m
                                    · subst e; exact hl
                                    · exact hno.out j (by omega))
                                  have ht1d : decide (T.getD m 0 < 1) = true := decide_eq_true ht1
                                  replace hB17 := hidden hB17
                                  clear hFL hInX hTc hTk hnow hend0 hsame hsw hq15 hno hBX17 hl hf
                                  generalize T.getD m 0 = t at *
                                  go_wp2
                                  go_roundw
                                  case rel => exact ⟨m + 1, hlt, by go_num, .inl ⟨rfl, hno2.out⟩, hB17.out⟩
                                  case measure => simp [RowKit.intOf]; omega
                                · obtain ⟨t0, t1⟩ := hTk.out m hlt
                                  have hX := hidden (hInX.out _ hBX17)
                                  have hop := hidden (fun (W : World) base v (h : W.ownsRow base 3 1 v T.length (ivs T)) => own_put h hlt (T.getD m 0 - 1))
                                  rw [show T.set m (T.getD m 0 - 1) = less T m from rfl] at hop
                                  have hwm : IntKind.i64.wrap (T.getD m 0 - 1) = T.getD m 0 - 1 := by rw [IntKind.wrap_i64]; omega
                                  have ht1d : decide (T.getD m 0 < 1) = false := decide_eq_false ht1
                                  have hSw := hidden (fun (h : fiB L C n (less T m) = true) => show SwIs L C n T (some m) from ⟨hf, hlt, h, hno.out⟩)
                                  have hno2 := hidden (fun (h : fiB L C n (less T m) = false) => show ∀ j, j < m + 1 → fiB L C n (less T j) = false from fun j hj => by
                                    by_cases e : j = m
                                    · subst e; exact h
                                    · exact hno.out j (by omega))
                                  have hFm := hidden (fun W hW tv' hr' => hFL.out W hW tv' (less T m) hr')
                                  replace hB17 := hidden hB17
                                  clear hFL hInX hTc hTk hend0 hsame hsw hno hBX17 hf t0 t1 ht1
                                  generalize T.getD m 0 = t at *
                                  go_wp2_with fail
                                  (with_reducible refine hX.out.mono ?_)
                                  rintro e w18 ⟨v6, rfl, hown, hbn⟩
                                  obtain ⟨g6, cp6, rfl, hg6, hg6l, f6, c6, hown2⟩ := hop.out _ _ _ hown
                                  have hB18 := hB17.out.trans (hbn.mono hB17.out.size)
                                  have hB19 := hB18.setCell (p := ⟨g6, m, none⟩) (Nat.le_trans hB17.out.size hg6) (.int .i64 (t - 1))
                                  have hBX19 := (hq15.out _ hB19).1
                                  clear c0 c1 c2 z0 z1 z2 z3 z4 x0 x1 x2 hX hop hown hbn hB17 hB18 q0
                                  obtain ⟨_, ⟨y0, y1, y2⟩⟩ := hnow.out _ hBX19
                                  have hX := hidden (hFm.out _ hBX19 _ (reads_of_own (xs := less T m) hown2))
                                  replace hB19 := hidden hB19
                                  clear hown2 hBX19 hFm hq15 hnow hg6 hg6l
                                  cases hfl : fiB L C n (less T m)
                                  · rw [hfl] at hX
                                    have hno3 := hidden (hno2.out hfl)
                                    clear hSw hno2 hfl
                                    go_wp2_with fail
                                    (with_reducible refine hX.out.mono ?_)
                                    rintro e w20 ⟨rfl, hbn⟩
                                    have hend := hidden (hB19.out.trans (hbn.mono hB19.out.size))
                                    clear hX hB19 hbn y0 y1 y2 c6 f6
                                    go_wp2
                                    go_roundw
                                    case rel => exact ⟨m + 1, hlt, by go_num, .inl ⟨rfl, hno3.out⟩, hend.out⟩
                                    case measure => simp [RowKit.intOf]; omega
                                  · rw [hfl] at hX
                                    have hs3 := hidden (hSw.out hfl)
                                    clear hSw hno2 hfl
                                    go_wp2_with fail
                                    (with_reducible refine hX.out.mono ?_)
                                    rintro e w20 ⟨rfl, hbn⟩
                                    have hend := hidden (hB19.out.trans (hbn.mono hB19.out.size))
                                    clear hX hB19 hbn y0 y1 y2 c6 f6
                                    go_wp2
                                    go_roundw
                                    case rel => exact ⟨m + 1, hlt, by go_num, .inr ⟨m, rfl, hs3.out⟩, hend.out⟩
                                    case measure => simp [RowKit.intOf]; omega
                            · have ho := hidden (hsame.out (some j) hj)
                              have hj0 : decide ((j : Int) < 0) = false := decide_eq_false (by omega)
                              replace hB := hidden hB
                              clear hFT hFL hInX hTc hTk hnow hend0 hsame hsw hq15 hj hBX
                              go_wp2_with fail
                              go_meet
                              exact ⟨by rw [ho.out]; rfl, hB.out⟩
                          · obtain rfl : m = T.length := by omega
                            have hlI : ¬ ((T.length : Int) < (T.length : Int)) := by omega
                            rcases ha with ⟨rfl, hno⟩ | ⟨j, rfl, hj⟩
                            · have ho := hidden (hsame.out none (.inr hno))
                              replace hB := hidden hB
                              clear hFT hFL hInX hTc hTk hnow hend0 hsame hsw hq15 hno hBX hlI
                              go_wp2_with fail
                              go_meet
                              exact ⟨by rw [ho.out]; rfl, hB.out⟩
                            · have ho := hidden (hsame.out (some j) hj)
                              replace hB := hidden hB
                              clear hFT hFL hInX hTc hTk hnow hend0 hsame hsw hq15 hj hBX hlI
                              go_wp2_with fail
                              go_meet
                              exact ⟨by rw [ho.out]; rfl, hB.out⟩
                    case rest =>
                      as_aux_lemma =>
                        obtain ⟨rfl, hb16⟩ := hcut
                        clear c0 c1 c2 z0 z1 z2 z3 z4 x0 x1 x2 hb15
                        obtain ⟨p1, p2, p3, p4⟩ := sw_cells hsw.out
                        have hsc := hidden (fun W hW j hj => (hq15.out W hW).2.cell j hj)
                        have hqX := hidden (fun W hW => (hq15.out W hW).1)
                        clear hsw hsame hFT hFL hInX hTk hq15
                        generalize swL T o = l at *
                        generalize swI o = I at *
                        generalize o.isSome = hs at *
                        replace p3 := hidden p3
                        replace p4 := hidden p4
                        replace hb16 := hidden hb16
                        go_wp2_with fail
                        go_loopw [21] (fun i wr => SbRel l.length w15 i wr) (fun i _ => l.length - (RowKit.intOf i).toNat)
                        case atStart => exact ⟨0, Nat.zero_le _, rfl, hb16.out⟩
                        case round =>
                          clear p2 hb16
                          obtain ⟨m, hm, rfl, hB⟩ := hrel
                          have hBX := hqX.out _ hB
                          obtain ⟨⟨⟨c0, c1, c2⟩, ⟨z0, z1, z2, z3, z4⟩⟩, ⟨x0, x1, x2⟩⟩ := hnow.out _ hBX
                          by_cases hlt : m < l.length
                          · have hlI : (m : Int) < (l.length : Int) := by omega
                            have hmT : m < T.length := by omega
                            have hmI : (m : Int) < (T.length : Int) := by omega
                            obtain ⟨bt, ot, rfl, q0⟩ := hTc.out _ hBX m hmT
                            obtain ⟨bs, os, rfl, q1⟩ := hsc.out _ hB m hlt
                            replace hB := hidden hB
                            rcases p4.out m hlt with ⟨e1, e2, e3, e4⟩ | ⟨e1, e2⟩
                            · have hwm : IntKind.i64.wrap (T.getD m 0 - 1) = T.getD m 0 - 1 := by rw [IntKind.wrap_i64]; omega
                              rw [e2] at q1
                              subst e1
                              clear e2 e3 e4 hTc hsc hqX hnow hend0 p3 p4 hBX
                              generalize T.getD m 0 = t at *
                              go_wp2
                              go_roundw
                              case rel => exact ⟨m + 1, hlt, by go_num, hB.out⟩
                              case measure => simp [RowKit.intOf]; omega
                            · have hne : ((m : Int) == I) = false := by rw [beq_eq_false_iff_ne]; exact e1
                              rw [e2] at q1
                              clear e1 e2 hTc hsc hqX hnow hend0 p3 p4 hBX
                              generalize T.getD m 0 = t at *
                              go_wp2
                              go_roundw
                              case rel => exact ⟨m + 1, hlt, by go_num, hB.out⟩
                              case measure => simp [RowKit.intOf]; omega
                          · obtain rfl : m = l.length := by omega
                            have hend := hidden (hend0.out _ hBX)
                            clear hTc hsc hqX hnow hend0 p4 hBX hB
                            cases hs
                            · go_wp2
                              go_ret
                              exact ⟨rfl, hend.out⟩
                            · have hll := (p3.out).resolve_left (by simp)
                              have hlb : ((l.length : Int) == (T.length : Int)) = true := by simp [hll]
                              clear hll p3
                              go_wp2
                              go_ret
                              exact ⟨rfl, hend.out⟩
      · have hd : decide (20 < (T.length : Int)) = true := decide_eq_true (by omega)
        have hend := hidden (hbx.out _ hb1.out)
        clear rV rW rC rF rL cC cG cS cI hIn hTk hT hcel hbx hb1
        go_wp2
        go_ret
        exact ⟨rfl, hend.out⟩
    · have hd : decide (20 < (C.length : Int)) = true := decide_eq_true (by omega)
      have hend := hidden (hbx.out _ hb1.out)
      clear rV rW rC rF rL cC cG cS cI hIn hTk hT hcel hbx hb1
      go_wp2
      go_ret
      exact ⟨rfl, hend.out⟩
  · have hd : decide (20 < (L.length : Int)) = true := decide_eq_true (by omega)
    have hend := hidden (hbx.out _ hb1.out)
    clear rV rW rC rF rL cC cG cS cI hIn hTk hT hcel hbx hb1
    go_wp2
    go_ret
    exact ⟨rfl, hend.out⟩
end Go.Proofs.YtmihpgccdknhfaaDoor
