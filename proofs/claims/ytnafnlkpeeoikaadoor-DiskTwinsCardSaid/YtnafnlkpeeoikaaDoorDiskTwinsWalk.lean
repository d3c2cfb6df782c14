import Derived.Test.YtnafnlkpeeoikaaDoorDiskTearsWalk
namespace Go.Proofs.YtnafnlkpeeoikaaDoor
open Go.RowKit
set_option linter.unusedVariables false

def TwinsRel1 (d g m x xg xm : Nat) (n : Nat) (w0 : World) (i : Value) (wr : World) : Prop := ∃ (k : Nat) (D : Dk), i = .int .i64 (k : Int) ∧ k ≤ n ∧ LawAt w0 wr d g m D ∧ LawAt w0 wr x xg xm (newDk 8) ∧ D.n = 8 ∧ D.Calm
def TwinsRel2 (d g m c cg cm x xg xm : Nat) (D : Dk) (w0 : World) (i : Value) (wr : World) : Prop := ∃ k : Nat, i = .int .i64 (k : Int) ∧ k ≤ 8 ∧ LawAt w0 wr d g m D ∧ LawAt w0 wr c cg cm D ∧ LawAt w0 wr x xg xm (newDk 8)
theorem new_see (n i : Nat) : (newDk n).see i = rep 0 := rfl

set_option maxRecDepth 100000 in
set_option maxHeartbeats 8000000 in
theorem walk_diskTwins (v : Value) (l : List Int) (u : Value) (z : List Int) (A : Nat → Addr) (w : World) (hv : Reads .i64 w v l) (hl : ∀ x ∈ l, -9223372036854775808 ≤ x ∧ x ≤ 9223372036854775807) (hu : Reads .i64 w u z) (hz : ∀ x ∈ z, -9223372036854775808 ≤ x ∧ x ≤ 9223372036854775807) (hS : SentsOn [1, 2, 7, 8] w A) :
    Calls Tryd.prog 6 #[v, u] w fun e w' => e = .returned (.bool true) ∧ Below w.heap.size w w' := by
  have hF := hidden (law5_first A w (hS.on.sub (by decide)))
  have hE := hidden (fun W (h : Below w.heap.size w W) => (hS.on.sub (ks := [1, 7, 8]) (by decide)).below h (Nat.le_refl _))
  have hvW := hidden (fun W (h : Below w.heap.size w W) => hv.below h (Nat.le_refl _))
  obtain ⟨va, vc, rfl⟩ := reads_slice hv
  obtain ⟨ua, uc, rfl⟩ := reads_slice hu
  replace hu := hidden hu
  replace hl := hidden hl
  replace hz := hidden hz
  clear hS hv
  by_cases hlen : 20 < l.length
  · have hli : (20 : Int) < (l.length : Int) := by omega
    go_enter Tryd.func6, Tryd.ntmps6
    go_wp2_with fail
    refine hF.out.mono ?_
    rintro e w1 ⟨rfl, hw⟩
    replace hw := hidden hw
    go_wp2
    go_ret
    exact ⟨rfl, hw.out⟩
  · have hli : ¬ (20 : Int) < (l.length : Int) := by omega
    have hll := hidden (show l.length ≤ 20 by omega)
    by_cases hlen2 : 10 < z.length
    · have hzi : (10 : Int) < (z.length : Int) := by omega
      go_enter Tryd.func6, Tryd.ntmps6
      go_wp2_with fail
      refine hF.out.mono ?_
      rintro e w1 ⟨rfl, hw⟩
      replace hw := hidden hw
      go_wp2
      go_ret
      exact ⟨rfl, hw.out⟩
    · have hzi : ¬ (10 : Int) < (z.length : Int) := by omega
      clear hlen hlen2
      go_enter Tryd.func6, Tryd.ntmps6
      go_wp2_with fail
      refine hF.out.mono ?_
      rintro e w1 ⟨rfl, hw⟩
      replace hw := hidden hw
      clear hF
      go_wp2_with fail
      refine (lnew 8 (by decide) (by decide) hw.out).mono ?_
      rintro e w2 ⟨d, g, m, rfl, h2, _, _⟩
      replace h2 := hidden h2
      clear hw
      go_wp2_with fail
      refine (lnew 8 (by decide) (by decide) h2.out.low).mono ?_
      rintro e w3 ⟨x, xg, xm, rfl, hx3, hb3, hap3⟩
      have h3 := hidden (h2.out.below hb3)
      have hdx := hidden (show ∀ q, dskB x xg xm q → ¬ dskB d g m q from fun q h1 h4 => by have := h2.out.lt q h4; have := hap3 q h1; omega)
      replace hx3 := hidden hx3
      clear h2 hb3 hap3
      go_wp2_with fail
      go_loopw [10] (fun i wr => TwinsRel1 d g m x xg xm l.length w i wr) (fun i _ => l.length - (RowKit.intOf i).toNat)
      case atStart => exact ⟨0, _, rfl, by omega, h3.out, hx3.out, rfl, calm_new 8⟩
      case round =>
        clear h3 hx3
        obtain ⟨k, D, rfl, hk, h, hx, hDn, hDc⟩ := hrel
        replace h := hidden h
        replace hx := hidden hx
        replace hDn := hidden hDn
        replace hDc := hidden hDc
        by_cases hlt : k < l.length
        · have hki : (k : Int) < (l.length : Int) := by omega
          have hk20 : (k : Int) < 20 := by have := hll.out; omega
          have hpb : -9223372036854775808 ≤ l.getD k 0 ∧ l.getD k 0 ≤ 9223372036854775807 := by
            rw [List.getD_eq_getElem?_getD, List.getElem?_eq_getElem hlt]
            exact hl.out _ (List.getElem_mem hlt)
          obtain ⟨pb, po, rfl, cp⟩ := (hvW.out _ h.out.low).cell k hlt
          generalize l.getD k 0 = p at cp hpb
          have hnum := hidden (fun W => number_any p 8 W hpb.1 hpb.2 (by decide) (by decide))
          have j0 : 0 ≤ p % 8 := by omega
          have j1 : p % 8 < 8 := by omega
          clear hpb
          generalize p % 8 = j at hnum j0 j1
          have hjn := hidden (show j < (D.n : Int) by rw [hDn.out]; exact j1)
          have hj0 := hidden j0
          go_wp2_with (go_at_call 9; with_reducible refine (hnum.out _).mono ?_; rintro e w' ⟨rfl, rfl⟩)
          refine (lwhole h.out _).mono ?_
          rintro e w4 ⟨gb, rfl, h4, hr, hap, hb4⟩
          have hx4 := hidden (hx.out.below hb4)
          replace h4 := hidden h4
          replace hr := hidden hr
          replace hap := hidden hap
          clear h hx hb4 cp
          go_wp2_with fail
          refine (lwrite h4.out (hE.out _ h4.out.low) hDc.out j hj0.out hjn.out hap.out (rep_ok (by omega)) hr.out).mono ?_
          rintro e w5 ⟨rfl, h5, ht5⟩
          have hx5 := hidden (hx4.out.other ht5 h4.out.hS hdx.out)
          replace h5 := hidden h5
          clear h4 hx4 hr hap ht5
          cases h3 : ((k : Int) % 4 == 3)
          · go_wp2
            go_roundw
            case rel => exact ⟨k + 1, _, by go_num, by omega, h5.out, hx5.out, hDn.out, hDc.out.write _ _⟩
            case measure => simp [RowKit.intOf]; omega
          · go_wp2_with fail
            refine (lflush h5.out (hE.out _ h5.out.low) (hDc.out.write _ _)).mono ?_
            rintro e w6 ⟨rfl, h6, ht6⟩
            have hx6 := hidden (hx5.out.other ht6 h5.out.hS hdx.out)
            replace h6 := hidden h6
            clear h5 hx5 ht6
            go_wp2
            go_roundw
            case rel => exact ⟨k + 1, _, by go_num, by omega, h6.out, hx6.out, hDn.out, (hDc.out.write _ _).flush⟩
            case measure => simp [RowKit.intOf]; omega
        · obtain rfl : k = l.length := by omega
          clear hl hvW
          go_wp2_with fail
          refine (lclone h.out).mono ?_
          rintro e w6 ⟨c, cg, cm, rfl, hc6, hb6, hap6⟩
          have h6 := hidden (h.out.below hb6)
          have hx6 := hidden (hx.out.below hb6)
          have hdc := hidden (show ∀ q, dskB d g m q → ¬ dskB c cg cm q from fun q h1 h2 => by have := h.out.lt q h1; have := hap6 q h2; omega)
          have hcd := hidden (show ∀ q, dskB c cg cm q → ¬ dskB d g m q from fun q h1 h2 => hdc.out q h2 h1)
          have hxc := hidden (show ∀ q, dskB x xg xm q → ¬ dskB c cg cm q from fun q h1 h2 => by have := hx.out.lt q h1; have := hap6 q h2; omega)
          replace hc6 := hidden hc6
          clear h hx hb6 hap6
          have p1 := hidden (pending_any h6.out.at_)
          have p2 := hidden (pending_any hc6.out.at_)
          have q1 := hidden (calls_any h6.out.at_)
          have q2 := hidden (calls_any hc6.out.at_)
          go_wp2_with (first
            | (go_at_call 17; with_reducible refine p1.out.mono ?_; rintro e w' ⟨rfl, rfl⟩)
            | (go_at_call 17; with_reducible refine p2.out.mono ?_; rintro e w' ⟨rfl, rfl⟩)
            | (go_at_call 22; with_reducible refine q1.out.mono ?_; rintro e w' ⟨rfl, rfl⟩)
            | (go_at_call 22; with_reducible refine q2.out.mono ?_; rintro e w' ⟨rfl, rfl⟩))
          refine (lcrashIn h6.out hu.out hz.out).mono ?_
          rintro e w7 ⟨rfl, h7, ht7⟩
          have hc7 := hidden (hc6.out.other ht7 h6.out.hS hcd.out)
          have hx7 := hidden (hx6.out.other ht7 h6.out.hS hdx.out)
          replace h7 := hidden h7
          clear h6 hc6 hx6 ht7 p1 p2 q1 q2
          go_wp2_with fail
          refine (lcrashIn hc7.out hu.out hz.out).mono ?_
          rintro e w8 ⟨rfl, hc8, ht8⟩
          have h8 := hidden (h7.out.other ht8 hc7.out.hS hdc.out)
          have hx8 := hidden (hx7.out.other ht8 hc7.out.hS hxc.out)
          replace hc8 := hidden hc8
          clear h7 hc7 hx7 ht8
          have hEn := hidden (show (D.crash z).n = 8 from hDn.out)
          have hEc := hidden (calm_crash D z)
          have hEl := hidden (fun i (hi : i < 8) => (h8.out.at_.ok.see i (by rw [hEn.out]; exact hi)).1)
          generalize D.crash z = E at *
          go_wp2_with fail
          go_loopw [12] (fun i wr => TwinsRel2 d g m c cg cm x xg xm E w i wr) (fun i _ => 8 - (RowKit.intOf i).toNat)
          case atStart => exact ⟨0, rfl, by omega, h8.out, hc8.out, hx8.out⟩
          case round =>
            clear h8 hc8 hx8
            obtain ⟨k, rfl, hk, h, hc, hx⟩ := hrel
            replace h := hidden h
            replace hc := hidden hc
            replace hx := hidden hx
            by_cases hlt : k < 8
            · have hki : (k : Int) < 8 := by omega
              have hkd := hidden (show k < E.n by rw [hEn.out]; exact hlt)
              go_wp2_with fail
              refine (lread h.out (hE.out _ h.out.low) hEc.out k hkd.out).mono ?_
              rintro e wA ⟨g1, rfl, hA1, r1, bA⟩
              have hcA := hidden (hc.out.below bA)
              have hxA := hidden (hx.out.below bA)
              replace hA1 := hidden hA1
              replace r1 := hidden r1
              clear h hc hx bA
              go_wp2_with fail
              refine (lread hcA.out (hE.out _ hcA.out.low) hEc.out k hkd.out).mono ?_
              rintro e wB ⟨g2, rfl, hcB, r2, bB⟩
              have hB := hidden (hA1.out.below bB)
              have hxB := hidden (hxA.out.below bB)
              replace r1 := hidden (r1.out.below bB (Nat.le_refl _))
              replace hcB := hidden hcB
              replace r2 := hidden r2
              clear hcA hA1 hxA bB
              go_wp2_with fail
              refine (lread hxB.out (hE.out _ hxB.out.low) (calm_new 8) k (by show k < 8; exact hlt)).mono ?_
              rintro e wC ⟨g3, rfl, hxC, r3, bC⟩
              rw [new_see] at r3
              have hC := hidden (hB.out.below bC)
              have hcC := hidden (hcB.out.below bC)
              have hsb := hidden (sameBytes_any _ _ _ _ wC (r1.out.below bC (Nat.le_refl _)) (r2.out.below bC (Nat.le_refl _)) (by rw [hEl.out k hlt]; decide))
              replace hxC := hidden hxC
              replace r3 := hidden r3
              clear hB hcB hxB r1 r2 bC
              go_wp2_with fail
              refine hsb.out.mono ?_
              rintro e wD ⟨rfl, q, rfl⟩
              simp only [decide_true]
              have hW := hidden (hC.out.drawn q)
              have hcW := hidden (hcC.out.drawn q)
              have hxW := hidden (hxC.out.drawn q)
              replace r3 := hidden (reads_drawn r3.out q)
              clear hC hcC hxC hsb
              generalize wC.drewN q = W at hW hcW hxW r3 ⊢
              go_wp2_with fail
              refine (lwhole hW.out 0).mono ?_
              rintro e wE ⟨g5, rfl, hE5, r5, _, bE⟩
              have hcE := hidden (hcW.out.below bE)
              have hxE := hidden (hxW.out.below bE)
              have hsb := hidden (sameBytes_any _ _ _ _ wE (r3.out.below bE (Nat.le_refl _)) r5 (by rw [rep_len]; decide))
              replace hE5 := hidden hE5
              clear hW hcW hxW r3 r5 bE
              go_wp2_with fail
              refine hsb.out.mono ?_
              rintro e wF ⟨rfl, q2, rfl⟩
              simp only [decide_true]
              have hW := hidden (hE5.out.drawn q2)
              have hcW := hidden (hcE.out.drawn q2)
              have hxW := hidden (hxE.out.drawn q2)
              clear hsb hE5 hcE hxE
              go_wp2
              go_roundw
              case rel => exact ⟨k + 1, by go_num, by omega, hW.out, hcW.out, hxW.out⟩
              case measure => simp [RowKit.intOf]; omega
            · obtain rfl : k = 8 := by omega
              have hlow := hidden h.out.low
              have hcx := calls_any hx.out.at_
              rw [show (newDk 8).calls = 0 from rfl] at hcx
              replace hcx := hidden hcx
              clear h hc hx
              go_wp2_with (go_at_call 22; refine hcx.out.mono ?_; rintro e w' ⟨rfl, rfl⟩)
              go_ret
              exact ⟨rfl, hlow.out⟩
end Go.Proofs.YtnafnlkpeeoikaaDoor
