import Derived.Test.YthlepeeejmeahaaDoorCutLaw
import Derived.Test.YthlepeeejmeahaaDoorLaidOn
import Derived.Deep.DeepCutAuto
namespace Go.Proofs.YthlepeeejmeahaaDoor
open Go.RowKit
set_option linter.unusedVariables false

def stB12 (s : StepT) : Bool := decide (stOk s)
def bpB12 (x : Int) : Bool := decide (bpOk x)
theorem stB12_ways (c d : Int) : (decide (1 ≤ c) = false ∧ stB12 (c, d) = false) ∨ (decide (1 ≤ c) = true ∧ decide (c ≤ 6) = false ∧ stB12 (c, d) = false) ∨ (decide (1 ≤ c) = true ∧ decide (c ≤ 6) = true ∧ decide (0 ≤ d) = false ∧ stB12 (c, d) = false) ∨
    (decide (1 ≤ c) = true ∧ decide (c ≤ 6) = true ∧ decide (0 ≤ d) = true ∧ decide (d < 6) = false ∧ stB12 (c, d) = false) ∨ (decide (1 ≤ c) = true ∧ decide (c ≤ 6) = true ∧ decide (0 ≤ d) = true ∧ decide (d < 6) = true ∧ stB12 (c, d) = true) := isStep_ways (c, d)
theorem bpB12_ways (x : Int) : (decide (0 ≤ x) = false ∧ bpB12 x = false) ∨ (decide (0 ≤ x) = true ∧ decide (x ≤ 10000) = false ∧ bpB12 x = false) ∨ (decide (0 ≤ x) = true ∧ decide (x ≤ 10000) = true ∧ bpB12 x = true) := bpOk_ways x
abbrev tabOne : StepT → Option Int := setT noT (2, 3) 77
theorem tabOne_get (s : StepT) : getT tabOne s = if s = (2, 3) then 77 else 0 := by
  unfold getT tabOne setT
  rw [if_pos (by decide)]
  unfold updK noT
  by_cases h : s = (2, 3)
  · rw [if_pos h, if_pos h]; rfl
  · rw [if_neg h, if_neg h]; rfl
theorem tabOne_ways (c d : Int) : ((getT tabOne (c, d) == 0) = true) ∨ ((getT tabOne (c, d) == 0) = false ∧ (c == 2) = true ∧ (d == 3) = true ∧ (getT tabOne (c, d) == 77) = true) := by
  rw [tabOne_get]
  by_cases h : (c, d) = ((2, 3) : StepT)
  · rw [if_pos h]
    simp only [Prod.mk.injEq] at h
    right
    obtain ⟨rfl, rfl⟩ := h
    exact ⟨rfl, rfl, rfl, rfl⟩
  · rw [if_neg h]
    exact .inl rfl
set_option maxRecDepth 100000 in
set_option maxHeartbeats 8000000 in
theorem walk_cutBounds (c d x : Int) (A : Nat → Addr) (w : World) (c0 : -9223372036854775808 ≤ c) (c1 : c ≤ 9223372036854775807) (d0 : -9223372036854775808 ≤ d) (d1 : d ≤ 9223372036854775807) (x0 : -9223372036854775808 ≤ x) (x1 : x ≤ 9223372036854775807) (hS : Sents w A) (hT : EndsOn w) :
    Calls Tryd.prog 5 #[.int .i64 c, .int .i64 d, .int .i64 x] w fun r w' => r = .returned (.bool true) ∧ Below w.heap.size w w' := by
  have hI := hidden (fun W (h : Below w.heap.size w W) => is_any A 103 103 W (hS.below h (Nat.le_refl _)) (.inr (by decide)))
  have hE := hidden (hS.on [2] (by decide))
  have hF := hidden (law12_first A w hE.out hT)
  have hin : stIn (c, d) := ⟨⟨c0, c1⟩, d0, d1⟩
  replace hin := hidden hin
  have hw1 := hidden (bpB12_ways x)
  have hw2 := hidden (stB12_ways c d)
  clear hS hT c0 c1 d0 d1 x0 x1
  go_enter Tryd.func5, Tryd.ntmps5
  go_wp2_with fail
  refine hF.out.mono ?_
  rintro r w1 ⟨rfl, hb⟩
  have hn := hidden (lnew12 hb)
  clear hb hF
  go_wp2_with fail
  refine (lset12 hn.out.2 hn.out.1 (by decide) hE.out (2, 3) 77).mono ?_
  rintro r w2 ⟨rfl, hL, hb⟩
  replace hL := hidden hL
  replace hb := hidden hb
  clear hn
  go_wp2_with fail
  refine (lset12 hb.out hL.out (by decide) hE.out (c, d) x).mono ?_
  rintro r w3 ⟨rfl, hL3, hb3⟩
  replace hL := hidden hL3
  replace hb := hidden hb3
  clear hL3 hb3
  generalize he : errOf A (setC (c, d) x) = ee
  go_wp2_with fail
  refine (lsetFx12 hb.out hL.out hE.out x).mono ?_
  rintro r w4 ⟨rfl, hL4, hb4⟩
  replace hL := hidden hL4
  replace hb := hidden hb4
  clear hL4 hb4
  generalize hf : errOf A (fxC x) = ff
  replace he := hidden he
  replace hf := hidden hf
  go_upto_region 8 with (fail)
  go_cut [11] (fun v wx => v = .bool (bpB12 x) ∧ w4 = wx)
  case first =>
    clear hI hE hin hL hb he hf hw2
    rcases hw1.out with ⟨t1, q⟩ | ⟨t1, t2, q⟩ | ⟨t1, t2, q⟩
    all_goals
      replace q := hidden q
      go_wp2
      go_meet
      exact ⟨by rw [q.out], rfl⟩
  case rest =>
    obtain ⟨rfl, rfl⟩ := hcut
    clear hw1
    go_upto_region 9 with (fail)
    go_cut [12] (fun v wx => v = .bool (stB12 (c, d)) ∧ w4 = wx)
    case first =>
      clear hI hE hin hL hb he hf
      rcases hw2.out with ⟨t1, q⟩ | ⟨t1, t2, q⟩ | ⟨t1, t2, t3, q⟩ | ⟨t1, t2, t3, t4, q⟩ | ⟨t1, t2, t3, t4, q⟩
      all_goals
        replace q := hidden q
        go_wp2
        go_meet
        exact ⟨by rw [q.out], rfl⟩
    case rest =>
      obtain ⟨rfl, rfl⟩ := hcut
      clear hw2
      cases hx : bpB12 x with
      | true =>
        have hxo : bpOk x := of_decide_eq_true hx
        have hf0 : ff = .nilIface := by rw [← hf.out, show fxC x = 0 from if_pos hxo]; rfl
        have hfx : fxN 0 x = x := if_pos hxo
        rw [hfx] at hL
        subst hf0
        clear hf
        cases hs : stB12 (c, d) with
        | true =>
          have hso : stOk (c, d) := of_decide_eq_true hs
          have he0 : ee = .nilIface := by rw [← he.out, show setC (c, d) x = 0 from if_pos ⟨hso, hxo⟩]; rfl
          have hg := hidden (show getT (setT tabOne (c, d) x) (c, d) = x by unfold getT; rw [show setT tabOne (c, d) x = updK tabOne (c, d) x from if_pos ⟨hso, hxo⟩, updK_same]; rfl)
          subst he0
          clear he hx hs hxo hso hfx hI
          go_wp2_with (go_at_call 8; refine (hI.out _ hb.out).mono ?_; rintro e w' ⟨rfl, hb5⟩; replace hL := hidden (hL.out.below hb5 (Nat.le_refl _)); replace hb := hidden (hb.out.trans (hb5.mono hb.out.size)); clear hb5)
          refine (lget12 hb.out hL.out (c, d) hin.out).mono ?_
          rintro r w5 ⟨rfl, hL5, hb5⟩
          replace hL := hidden hL5
          replace hb := hidden hb5
          clear hL5 hb5 hin
          rw [hg.out]
          clear hg
          go_wp2_with fail
          refine (lfx12 hb.out hL.out).mono ?_
          rintro r w6 ⟨rfl, hL6, hb6⟩
          replace hb := hidden hb6
          clear hL6 hb6 hL

          go_wp2
          go_ret
          exact ⟨rfl, hb.out⟩
        | false =>
          have hso : ¬ stOk (c, d) := of_decide_eq_false hs
          have he0 : ee = errOf A 103 := by rw [← he.out, show setC (c, d) x = 103 from if_neg fun q => hso q.1]
          have hg := hidden (show getT (setT tabOne (c, d) x) (c, d) = 0 by
            rw [show setT tabOne (c, d) x = tabOne from if_neg fun q => hso q.1, tabOne_get, if_neg]
            intro q
            rw [q] at hso
            exact hso (by unfold stOk; omega))
          have e103 : errOf A 103 = errAt (A 2) := rfl
          rw [e103] at he0
          subst he0
          clear he hx hs hxo hso hfx e103
          go_wp2_with (go_at_call 8; refine (hI.out _ hb.out).mono ?_; rintro e w' ⟨rfl, hb5⟩; replace hL := hidden (hL.out.below hb5 (Nat.le_refl _)); replace hb := hidden (hb.out.trans (hb5.mono hb.out.size)); clear hb5)
          refine (lget12 hb.out hL.out (c, d) hin.out).mono ?_
          rintro r w5 ⟨rfl, hL5, hb5⟩
          replace hL := hidden hL5
          replace hb := hidden hb5
          clear hL5 hb5 hin
          rw [hg.out]
          clear hg
          go_wp2
          go_ret
          exact ⟨rfl, hb.out⟩
      | false =>
        have hxo : ¬ bpOk x := of_decide_eq_false hx
        have e103 : errOf A 103 = errAt (A 2) := rfl
        have hf0 : ff = errAt (A 2) := by rw [← hf.out, show fxC x = 103 from if_neg hxo]; exact e103
        have hfx : fxN 0 x = 0 := if_neg hxo
        have he0 : ee = errAt (A 2) := by rw [← he.out, show setC (c, d) x = 103 from if_neg fun q => hxo q.2]; exact e103
        rw [hfx] at hL
        have hg := hidden (show setT tabOne (c, d) x = tabOne from if_neg fun q => hxo q.2)
        rw [hg.out] at hL
        have hw := tabOne_ways c d
        subst hf0
        subst he0
        generalize hB : stB12 (c, d) = b
        clear hf he hx hxo hfx e103 hB hg
        cases b
        all_goals
          go_wp2_with (go_at_call 8; refine (hI.out _ hb.out).mono ?_; rintro e w' ⟨rfl, hb5⟩; replace hL := hidden (hL.out.below hb5 (Nat.le_refl _)); replace hb := hidden (hb.out.trans (hb5.mono hb.out.size)); clear hb5)
          refine (lget12 hb.out hL.out (c, d) hin.out).mono ?_
          rintro r w5 ⟨rfl, hL5, hb5⟩
          replace hL := hidden hL5
          replace hb := hidden hb5
          clear hL5 hb5 hin
          generalize getT tabOne (c, d) = z at *
          rcases hw with t1 | ⟨t1, t2, t3, t4⟩
          all_goals
            go_wp2_with fail
            refine (lfx12 hb.out hL.out).mono ?_
            rintro r w6 ⟨rfl, hL6, hb6⟩
            replace hb := hidden hb6
            clear hL6 hb6 hL
            go_wp2
            go_ret
            exact ⟨rfl, hb.out⟩
end Go.Proofs.YthlepeeejmeahaaDoor
