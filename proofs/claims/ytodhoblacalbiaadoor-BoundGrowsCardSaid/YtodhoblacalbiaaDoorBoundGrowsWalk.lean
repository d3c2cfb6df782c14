import Derived.Test.YtodhoblacalbiaaDoorBoundLaw
import Derived.Test.YtodhoblacalbiaaDoorPbArg
import Derived.Test.YtodhoblacalbiaaDoorLaidOn
namespace Go.Proofs.YtodhoblacalbiaaDoor
open Go.RowKit
set_option linter.unusedVariables false

set_option maxRecDepth 100000 in
set_option maxHeartbeats 12800000 in
theorem walk_boundGrows (p : PbX) (f a b : Int) (A : Nat → Addr) (w : World) (hp : PbIs w p) (f0 : -9223372036854775808 ≤ f) (f1 : f ≤ 9223372036854775807) (a0 : -9223372036854775808 ≤ a) (a1 : a ≤ 9223372036854775807) (b0 : -9223372036854775808 ≤ b) (b1 : b ≤ 9223372036854775807) (hS : SentsOn [2, 4] w A) :
    Calls Tryd.prog 4 #[pbA p.lv p.cv p.n, .int .i64 f, .int .i64 a, .int .i64 b] w fun r w' => r = .returned (.bool true) ∧ Below w.heap.size w w' := by
  obtain ⟨lv, cv, L, C, n⟩ := p
  obtain ⟨hpr, hnd⟩ := hp
  simp only at hpr hnd
  have hb0 := below_pb w pbTy lv cv n
  have hpb := pbAt_new w pbTy lv cv n
  have hbx := hidden (fun W (hW : Below (w.alloc (pbO pbTy lv cv n)).heap.size (w.alloc (pbO pbTy lv cv n)) W) => hb0.trans (hW.mono hb0.size))
  have hc := hidden (fun W (hW : Below (w.alloc (pbO pbTy lv cv n)).heap.size (w.alloc (pbO pbTy lv cv n)) W) => (hpb.below hW (Nat.le_refl _)).cells)
  have hE := hidden (fun W (hW : Below (w.alloc (pbO pbTy lv cv n)).heap.size (w.alloc (pbO pbTy lv cv n)) W) => hS.on.below (hbx.out W hW) (Nat.le_refl _))
  have hR := hidden (fun W (hW : Below (w.alloc (pbO pbTy lv cv n)).heap.size (w.alloc (pbO pbTy lv cv n)) W) => hpr.below (hbx.out W hW) (Nat.le_refl _))
  have hF := hidden (law19_first A _ (hE.out _ (Below.refl _ _)))
  have hVa := hidden (fun W hW => ltValid_any A lv cv L C n W (hR.out W hW) (hE.out W hW))
  have hLe := hidden (fun W hW k left hok hk h0 h1 => least_yes A lv cv L C n k left W (hR.out W hW) (hE.out W hW) hok hk h0 h1)
  have nA := hidden (fun W => number_any a 1000000000 W a0 a1 (by decide) (by decide))
  have nB := hidden (fun W => number_any b 1000000000 W b0 b1 (by decide) (by decide))
  have hA9 : 0 ≤ a % 1000000000 ∧ a % 1000000000 < 1000000000 := by omega
  have hB9 : 0 ≤ b % 1000000000 ∧ b % 1000000000 < 1000000000 := by omega
  obtain ⟨la, lc, rfl⟩ := row_slice hpr.lots
  have hlen := hpr.len.1
  have nF := hidden (fun W (h : 1 ≤ L.length) (h8 : L.length ≤ 8) => number_any f (L.length : Int) W f0 f1 (by omega) (by omega))
  clear hpr hS hb0 hpb a0 a1 b0 b1 f0 f1
  generalize a % 1000000000 = x at *
  generalize b % 1000000000 = z at *
  have d0 := (hc.out _ (Below.refl _ _)).1
  have d1 := (hc.out _ (Below.refl _ _)).2.1
  have d2 := (hc.out _ (Below.refl _ _)).2.2
  go_enter Tryd.func4, Tryd.ntmps4
  go_wp2_with fail
  generalize w.alloc (pbO pbTy (.slice la L.length lc) cv n) = wP at *
  (with_reducible refine hF.out.mono ?_)
  rintro r w1 ⟨rfl, hb1⟩
  obtain ⟨c0, c1, c2⟩ := hc.out _ hb1
  have hV2 := hidden (hVa.out _ hb1)
  replace hb1 := hidden hb1
  clear hF d0 d1 d2 hVa
  by_cases h20 : (L.length : Int) ≤ 20
  · by_cases hok : OkP L C n
    · rw [pbC_ok hok, errOf_fine] at hV2
      have nF1 := hidden (fun W => nF.out W hok.1.1.1 hok.1.1.2)
      have hL8 := hok.1.1
      obtain ⟨F, hF⟩ : ∃ F : Nat, f % (L.length : Int) = (F : Int) := ⟨(f % (L.length : Int)).toNat, by have := Int.emod_nonneg f (show (L.length : Int) ≠ 0 by omega); omega⟩
      have hFl : F < L.length := by have := Int.emod_lt_of_pos f (show 0 < (L.length : Int) by omega); omega
      rw [hF] at nF1
      clear hF nF
      have hL1 := hidden (fun W hW => hLe.out W hW F x hok (Nat.le_of_lt hFl) (by omega) (by omega))
      have hL2 := hidden (fun W hW => hLe.out W hW F (x + z) hok (Nat.le_of_lt hFl) (by omega) (by omega))
      have hL3 := hidden (fun W hW => show Calls Tryd.prog 8 #[pbA (.slice la L.length lc) cv n, .int .i64 ((F : Int) + 1), .int .i64 x] W fun e w' => e = .returned (.tuple #[.int .i64 (lsV L (F + 1) x), .bool (lsB L (F + 1) x)]) ∧ Below W.heap.size W w' from hLe.out W hW (F + 1) x hok hFl (by omega) (by omega))
      have hL4 := hidden (fun W hW => hLe.out W hW F (2 * x) hok (Nat.le_of_lt hFl) (by omega) (by omega))
      have hways : (x = 0 ∧ lsB L F x = true ∧ lsB L (F + 1) x = true) ∨ (0 < x ∧ (lsB L F x = true ∧ lsB L F (x + z) = true ∧ lsB L F (2 * x) = true) ∧ (lsV L F x ≤ lsV L F (x + z) ∧ lsV L F (2 * x) ≤ 2 * lsV L F x ∧ 0 ≤ lsV L F x ∧ lsV L F x ≤ 1000000000000000000) ∧ lsB L (F + 1) x = false) ∨ (0 < x ∧ (lsB L F x = true ∧ lsB L F (x + z) = true ∧ lsB L F (2 * x) = true) ∧ (lsV L F x ≤ lsV L F (x + z) ∧ lsV L F (2 * x) ≤ 2 * lsV L F x ∧ 0 ≤ lsV L F x ∧ lsV L F x ≤ 1000000000000000000) ∧ lsB L (F + 1) x = true ∧ lsV L F x ≤ lsV L (F + 1) x) ∨ (0 < x ∧ lsB L F x = false ∧ lsB L F (x + z) = false ∧ lsB L (F + 1) x = false) := by
        by_cases hx0 : x = 0
        · exact .inl ⟨hx0, (ls_zero F (by omega)).1, (ls_zero (F + 1) (by omega)).1⟩
        · rcases grows_ways hok hFl (x := x) (y := x + z) (by omega) (by omega) (by omega) (by omega) with ⟨q1, q2, q3 | ⟨q3, q4⟩⟩ | ⟨q1, q2, q3⟩
          · exact .inr (.inl ⟨by omega, q1, q2, q3⟩)
          · exact .inr (.inr (.inl ⟨by omega, q1, q2, q3, q4⟩))
          · exact .inr (.inr (.inr ⟨by omega, q1, q2, q3⟩))
      have hFI : (F : Int) < (L.length : Int) := by omega
      have hLI : (L.length : Int) ≤ 8 := by omega
      clear hLe hR hE hok
      generalize lsB L F x = v1 at *
      generalize lsB L F (x + z) = v2 at *
      generalize lsB L (F + 1) x = v3 at *
      generalize lsB L F (2 * x) = v4 at *
      generalize lsV L F x = n1 at *
      generalize lsV L F (x + z) = n2 at *
      generalize lsV L (F + 1) x = n3 at *
      generalize lsV L F (2 * x) = n4 at *
      go_wp2_with fail
      (with_reducible refine hV2.out.mono ?_)
      rintro r w2 ⟨rfl, hb2⟩
      replace hb2 := hidden (hb1.out.trans (hb2.mono hb1.out.size))
      obtain ⟨c0, c1, c2⟩ := hc.out _ hb2.out
      clear hV2 hb1
      go_wp2_with (first
        | (go_at_call 7; (with_reducible refine (nF1.out _).mono ?_); rintro e w' ⟨rfl, rfl⟩)
        | (go_at_call 7; (with_reducible refine (nA.out _).mono ?_); rintro e w' ⟨rfl, rfl⟩)
        | (go_at_call 7; (with_reducible refine (nB.out _).mono ?_); rintro e w' ⟨rfl, rfl⟩))
      (with_reducible refine (hL1.out _ hb2.out).mono ?_)
      rintro r w3 ⟨rfl, hb3⟩
      replace hb3 := hidden (hb2.out.trans (hb3.mono hb2.out.size))
      obtain ⟨c0, c1, c2⟩ := hc.out _ hb3.out
      clear hb2 hL1 nA nB nF1
      go_wp2_with fail
      (with_reducible refine (hL2.out _ hb3.out).mono ?_)
      rintro r w4 ⟨rfl, hb4⟩
      replace hb4 := hidden (hb3.out.trans (hb4.mono hb3.out.size))
      obtain ⟨c0, c1, c2⟩ := hc.out _ hb4.out
      clear hb3 hL2
      go_wp2_with fail
      (with_reducible refine (hL3.out _ hb4.out).mono ?_)
      rintro r w5 ⟨rfl, hb5⟩
      replace hb5 := hidden (hb4.out.trans (hb5.mono hb4.out.size))
      obtain ⟨c0, c1, c2⟩ := hc.out _ hb5.out
      clear hb4 hL3
      go_wp2_with fail
      (with_reducible refine (hL4.out _ hb5.out).mono ?_)
      rintro r w6 ⟨rfl, hb6⟩
      replace hb6 := hidden (hb5.out.trans (hb6.mono hb5.out.size))
      clear hb5 hL4
      have hend := hidden (hbx.out _ hb6.out)
      clear hb6 hc c0 c1 c2
      rcases hways with ⟨q0, q1, q2⟩ | ⟨q0, ⟨q1, q2, q3⟩, ⟨q4, q5, q6, q7⟩, q8⟩ | ⟨q0, ⟨q1, q2, q3⟩, ⟨q4, q5, q6, q7⟩, q8, q9⟩ | ⟨q0, q1, q2, q3⟩
      · subst q0
        subst q1
        subst q2
        cases v2
        all_goals
          go_wp2
          go_ret
          exact ⟨rfl, hend.out⟩
      · subst q1
        subst q2
        subst q3
        subst q8
        have hw : IntKind.i64.wrap (2 * n1) = 2 * n1 := by rw [IntKind.wrap_i64]; omega
        go_wp2
        go_ret
        exact ⟨rfl, hend.out⟩
      · subst q1
        subst q2
        subst q3
        subst q8
        have hw : IntKind.i64.wrap (2 * n1) = 2 * n1 := by rw [IntKind.wrap_i64]; omega
        go_wp2
        go_ret
        exact ⟨rfl, hend.out⟩
      · subst q1
        subst q2
        subst q3
        go_wp2
        go_ret
        exact ⟨rfl, hend.out⟩
    · have hne := errOf_pb A hok
      generalize errOf A (pbC L C n) = ev at *
      rcases hne with rfl | rfl
      all_goals
        clear hLe hR hE hok nF nA nB
        go_wp2_with fail
        (with_reducible refine hV2.out.mono ?_)
        rintro r w2 ⟨rfl, hb2⟩
        have hend := hidden (hbx.out _ (hb1.out.trans (hb2.mono hb1.out.size)))
        clear hV2 hb2 hb1 hc
        go_wp2
        go_ret
        exact ⟨rfl, hend.out⟩
  · have hend := hidden (hbx.out _ hb1.out)
    clear hLe hR hE nF nA nB hV2 hc hb1
    go_wp2
    go_ret
    exact ⟨rfl, hend.out⟩
end Go.Proofs.YtodhoblacalbiaaDoor
