import Derived.Test.YtaojahjgfgmpfaaDoorAllocKnow
import Derived.Test.YtaojahjgfgmpfaaDoorPbArg
import Derived.Test.YtaojahjgfgmpfaaDoorNumber
import Derived.Test.YtaojahjgfgmpfaaDoorLaidOn
namespace Go.Proofs.YtaojahjgfgmpfaaDoor
open Go Go.RowKit
set_option linter.unusedVariables false

def MoreRel (len : Nat) (w0 : World) (i : Value) (w : World) : Prop := ∃ k : Nat, k ≤ len ∧ i = .int .i64 (k : Int) ∧ Below w0.heap.size w0 w
set_option maxRecDepth 100000 in
set_option maxHeartbeats 12800000 in
theorem walk_allocMore (p : PbX) (a b : Int) (A : Nat → Addr) (w : World) (hp : PbIs w p) (a0 : -9223372036854775808 ≤ a) (a1 : a ≤ 9223372036854775807) (b0 : -9223372036854775808 ≤ b) (b1 : b ≤ 9223372036854775807) (hS : SentsOn [2, 4, 20] w A) :
    Calls Tryd.prog 8 #[pbA p.lv p.cv p.n, .int .i64 a, .int .i64 b] w fun r w' => r = .returned (.bool true) ∧ Below w.heap.size w w' := by
  obtain ⟨lv, cv, L, C, n⟩ := p
  obtain ⟨hpr, hnd⟩ := hp
  simp only at hpr hnd
  have hb0 := below_pb w pbTy lv cv n
  have hpb := pbAt_new w pbTy lv cv n
  have hbx := hidden (fun W (hW : Below (w.alloc (pbO pbTy lv cv n)).heap.size (w.alloc (pbO pbTy lv cv n)) W) => hb0.trans (hW.mono hb0.size))
  have hc := hidden (fun W (hW : Below (w.alloc (pbO pbTy lv cv n)).heap.size (w.alloc (pbO pbTy lv cv n)) W) => (hpb.below hW (Nat.le_refl _)).cells)
  have hE := hidden (fun W (hW : Below (w.alloc (pbO pbTy lv cv n)).heap.size (w.alloc (pbO pbTy lv cv n)) W) => hS.on.below (hbx.out W hW) (Nat.le_refl _))
  have hR := hidden (fun W (hW : Below (w.alloc (pbO pbTy lv cv n)).heap.size (w.alloc (pbO pbTy lv cv n)) W) => hpr.below (hbx.out W hW) (Nat.le_refl _))
  have hF := hidden (law20_first A _ (hE.out _ (Below.refl _ _)))
  have hVa := hidden (fun W hW => ltValid_any A lv cv L C n W (hR.out W hW) ((hE.out W hW).sub (by simp)))
  have hBe := hidden (fun W hW bud hb => best_any A lv cv L C n bud W (hR.out W hW) (hE.out W hW) hb)
  unfold BeAt at hBe
  have nA := hidden (fun W => number_any a 800 W a0 a1 (by decide) (by decide))
  have nB := hidden (fun W => number_any b 800 W b0 b1 (by decide) (by decide))
  have hA9 : 0 ≤ a % 800 ∧ a % 800 < 800 := by omega
  have hB9 : 0 ≤ b % 800 ∧ b % 800 < 800 := by omega
  obtain ⟨la, lc, rfl⟩ := row_slice hpr.lots
  obtain ⟨ca, cc, rfl⟩ := reads_slice hpr.caps
  clear hpr hS hb0 hpb a0 a1 b0 b1
  generalize a % 800 = x at *
  generalize b % 800 = z at *
  obtain ⟨d0, d1, d2⟩ := hc.out _ (Below.refl _ _)
  go_enter Tryd.func8, Tryd.ntmps8
  go_wp2_with fail
  generalize w.alloc (pbO pbTy (.slice la L.length lc) (.slice ca C.length cc) n) = wP at *
  (with_reducible refine hF.out.mono ?_)
  rintro r w1 ⟨rfl, hb1⟩
  obtain ⟨c0, c1, c2⟩ := hc.out _ hb1
  have hV2 := hidden (hVa.out _ hb1)
  replace hb1 := hidden hb1
  clear hF d0 d1 d2 hVa
  by_cases hok : OkP L C n
  · rw [pbC_ok hok, errOf_fine] at hV2
    obtain ⟨y, hy⟩ : ∃ y, x + z = y := ⟨_, rfl⟩
    have hyb : 0 ≤ y ∧ y ≤ 1600 := by omega
    have ex := be_code hok (show 0 ≤ x by omega) (show x ≤ 100000 by omega)
    have ey := be_code hok (show 0 ≤ y by omega) (show y ≤ 100000 by omega)
    have hB1 := hidden (fun W hW => hBe.out W hW x (by unfold In64; omega))
    have hB3 := hidden (fun W hW => hBe.out W hW y (by unfold In64; omega))
    rw [ex] at hB1
    rw [ey] at hB3
    clear hBe ex ey
    go_wp2_with fail
    (with_reducible refine hV2.out.mono ?_)
    rintro r w2 ⟨rfl, hb2⟩
    replace hb2 := hidden (hb1.out.trans (hb2.mono hb1.out.size))
    obtain ⟨c0, c1, c2⟩ := hc.out _ hb2.out
    have hB1a := hidden (hB1.out _ hb2.out)
    clear hV2 hb1
    have hsame := hidden (be_same hok (x := x) (y := y) (by omega) (by omega))
    have hways : (∃ e, e = errAt (A 20) ∧ errOf A (if wo L C (full L) < n then 121 else 0) = e) ∨ (¬ wo L C (full L) < n ∧ errOf A (if wo L C (full L) < n then 121 else 0) = .nilIface) := by
      by_cases h : wo L C (full L) < n
      · exact .inl ⟨_, rfl, by rw [if_pos h]; rfl⟩
      · exact .inr ⟨h, by rw [if_neg h]; rfl⟩
    generalize beW L C n x = wt1 at *
    generalize beW L C n y = wt3 at *
    generalize beR L C n x = R1 at *
    generalize beR L C n y = R3 at *
    obtain ⟨⟨Rst1, T1, K1, k1⟩, S1⟩ := R1
    obtain ⟨⟨Rst3, T3, K3, k3⟩, S3⟩ := R3
    simp only at hB1 hB3 hB1a hsame
    rcases hways with ⟨e20, rfl, hcode⟩ | ⟨hm, hcode⟩
    all_goals
      rw [hcode] at hB1 hB3 hB1a
      clear hcode
      go_wp2_with (first
        | (go_at_call 23; (with_reducible refine (nA.out _).mono ?_); rintro e w' ⟨rfl, rfl⟩)
        | (go_at_call 23; (with_reducible refine (nB.out _).mono ?_); rintro e w' ⟨rfl, rfl⟩))
      (with_reducible refine hB1a.out.mono ?_)
      rintro e w4 ⟨v1, rfl, hr1, ho1, hd1⟩
      obtain ⟨va1, vc1, rfl⟩ := reads_slice hr1
      have hd1' := hidden (hb2.out.trans ((below_alloc20 hd1 (reO (.slice va1 T1.length vc1) wt1 K1 S1 k1)).mono hb2.out.size))
      have hz1 := heap_alloc_new w4 (reO (.slice va1 T1.length vc1) wt1 K1 S1 k1)
      have hr1b := hr1.below ((Below.refl _ w4).alloc (Nat.le_refl _) (reO (.slice va1 T1.length vc1) wt1 K1 S1 k1)) (Nat.le_refl _)
      have hB2a := hidden (hB1.out _ hd1'.out)
      obtain ⟨c0, c1, c2⟩ := hc.out _ hd1'.out
      replace hz1 := hidden hz1
      replace hr1b := hidden hr1b
      clear hr1 ho1 hd1 hB1a hb2 nA nB
      go_wp2_with fail
      (with_reducible refine hB2a.out.mono ?_)
      rintro e w5 ⟨v2, rfl, hr2, ho2, hd2⟩
      obtain ⟨va2, vc2, rfl⟩ := reads_slice hr2
      have hq2 := hidden (below_alloc20 hd2 (reO (.slice va2 T1.length vc2) wt1 K1 S1 k1))
      have hd2' := hidden (hd1'.out.trans (hq2.out.mono hd1'.out.size))
      have hz2 := hidden (heap_alloc_new w5 (reO (.slice va2 T1.length vc2) wt1 K1 S1 k1))
      have hr2b := hidden (hr2.below ((Below.refl _ w5).alloc (Nat.le_refl _) (reO (.slice va2 T1.length vc2) wt1 K1 S1 k1)) (Nat.le_refl _))
      have hB3a := hidden (hB3.out _ hd2'.out)
      obtain ⟨c0, c1, c2⟩ := hc.out _ hd2'.out
      clear hr2 ho2 hd2 hB2a hd1' hB1 hB3
      go_wp2_with fail
      (with_reducible refine hB3a.out.mono ?_)
      rintro e w6 ⟨v3, rfl, hr3, ho3, hd3⟩
      obtain ⟨va3, vc3, rfl⟩ := reads_slice hr3
      have hq3 := hidden (below_alloc20 hd3 (reO (.slice va3 T3.length vc3) wt3 K3 S3 k3))
      have hd3' := hidden (hbx.out _ (hd2'.out.trans (hq3.out.mono hd2'.out.size)))
      have hz3 := hidden (heap_alloc_new w6 (reO (.slice va3 T3.length vc3) wt3 K3 S3 k3))
      have hy1 := hidden (row_later hz1.out (hq2.out.trans (hq3.out.mono hq2.out.size)))
      have hy2 := hidden (row_later hz2.out hq3.out)
      have hr1c := hidden (hr1b.out.below (hq2.out.trans (hq3.out.mono hq2.out.size)) (Nat.le_refl _))
      have hr2c := hidden (hr2b.out.below hq3.out (Nat.le_refl _))
      clear hr3 ho3 hd3 hB3a hd2' hz1 hz2 hr1b hr2b hq2 hq3 c0 c1 c2
    · go_wp2
      go_ret
      exact ⟨rfl, hd3'.out⟩
    · replace hsame := hidden (hsame.out hm)
      have hT8 : (T1.length : Int) ≤ 9223372036854775807 := by have := reads_cap hr1c.out; unfold maxLen at this; omega
      have hnow := hidden (fun W (hW : Below (w6.alloc (reO (.slice va3 T3.length vc3) wt3 K3 S3 k3)).heap.size (w6.alloc (reO (.slice va3 T3.length vc3) wt3 K3 S3 k3)) W) => And.intro (re_cells (row_later hy1.out hW)).1 (And.intro (re_cells (row_later hy2.out hW)).1 (And.intro (re_cells (row_later hz3.out hW)).1 (And.intro (hr1c.out.below hW (Nat.le_refl _)) (hr2c.out.below hW (Nat.le_refl _))))))
      have hend := hidden (fun W (hW : Below (w6.alloc (reO (.slice va3 T3.length vc3) wt3 K3 S3 k3)).heap.size (w6.alloc (reO (.slice va3 T3.length vc3) wt3 K3 S3 k3)) W) => hd3'.out.trans (hW.mono hd3'.out.size))
      obtain ⟨⟨x0, x1, x2, x3, x4⟩, ⟨y0, y1, y2, y3, y4⟩, ⟨z0, z1, z2, z3, z4⟩, _⟩ := hnow.out _ (Below.refl _ _)
      clear hy1 hy2 hz3 hr1c hr2c hd3'
      go_wp2_with fail
      go_loopw [16] (fun i wr => MoreRel T1.length (w6.alloc (reO (.slice va3 T3.length vc3) wt3 K3 S3 k3)) i wr) (fun i _ => T1.length - (RowKit.intOf i).toNat)
      case atStart => exact ⟨0, by omega, rfl, Below.refl _ _⟩
      case round =>
        obtain ⟨k, hk, rfl, hW⟩ := hrel
        clear x0 x1 x2 x3 x4 y0 y1 y2 y3 y4 z0 z1 z2 z3 z4
        obtain ⟨⟨x0, x1, x2, x3, x4⟩, ⟨y0, y1, y2, y3, y4⟩, ⟨z0, z1, z2, z3, z4⟩, rA, rB⟩ := hnow.out _ hW
        by_cases hlt : k < T1.length
        · have hltI : (k : Int) < (T1.length : Int) := by omega
          obtain ⟨b1, o1, rfl, q1⟩ := rA.cell k hlt
          obtain ⟨b2, o2, rfl, q2⟩ := rB.cell k hlt
          have hN := hidden (fun m => below_drewN (m := m) hW)
          clear rA rB hW hnow hend hsame
          generalize T1.getD k 0 = tk at *
          go_wp2_with fail
          go_quiet (fail)
          go_wp2
          go_roundw
          case rel => exact ⟨k + 1, hlt, by go_num, hN.out _⟩
          case measure => simp [RowKit.intOf]; omega
        · obtain rfl : k = T1.length := by omega
          have he := hidden (hend.out _ hW)
          clear rA rB hW hnow hend
          cases hS1 : S1
          · subst hS1
            clear hsame
            go_wp2
            go_ret
            exact ⟨rfl, he.out⟩
          · subst hS1
            cases hS3 : S3
            · subst hS3
              clear hsame
              go_wp2
              go_ret
              exact ⟨rfl, he.out⟩
            · subst hS3
              obtain rfl := hsame.out rfl rfl
              clear hsame
              go_wp2
              go_ret
              exact ⟨rfl, he.out⟩
  · have hne := errOf_pb A hok
    generalize errOf A (pbC L C n) = ev at *
    rcases hne with rfl | rfl
    all_goals
      clear hBe hR hE hok nA nB
      go_wp2_with fail
      (with_reducible refine hV2.out.mono ?_)
      rintro r w2 ⟨rfl, hb2⟩
      have hend := hidden (hbx.out _ (hb1.out.trans (hb2.mono hb1.out.size)))
      clear hV2 hb2 hb1 hc
      go_wp2
      go_ret
      exact ⟨rfl, hend.out⟩
end Go.Proofs.YtaojahjgfgmpfaaDoor
