import Derived.Test.YtlgpckgedkbpiaaDoorFx2
import Derived.Test.YtlgpckgedkbpiaaDoorIsSelf
import Derived.Test.YtlgpckgedkbpiaaDoorNumber
import Derived.Test.YtlgpckgedkbpiaaDoorLaidOn
import Derived.Deep.DeepCutAuto
namespace Go.Proofs.YtlgpckgedkbpiaaDoor
open Go.RowKit
set_option linter.unusedVariables false

/-- how a number stands to 1 and the greatest rate. -/
theorem ra_side (a : Int) : (a < 1 ∧ ¬ (1 ≤ a ∧ a ≤ 1000000000)) ∨ (1 ≤ a ∧ 1000000000 < a ∧ ¬ (1 ≤ a ∧ a ≤ 1000000000)) ∨ (1 ≤ a ∧ a ≤ 1000000000 ∧ (1 ≤ a ∧ a ≤ 1000000000)) := by omega
theorem ra_two (m a b : Int) : raV (raT (raT ra0 m a) m b) m = if m = 1 then 1000000 else if raOk m b then b else if raOk m a then a else 0 := by
  unfold raV
  by_cases h1 : m = 1
  · rw [if_pos h1, if_pos h1]
  · rw [if_neg h1, if_neg h1]
    by_cases h2 : 2 ≤ m ∧ m ≤ 6
    · rw [if_pos h2]
      have e : ((m.toNat : Nat) : Int) = m := by omega
      unfold raT
      by_cases hb : raOk m b
      · rw [if_pos hb, if_pos hb, if_pos e]
      · rw [if_neg hb, if_neg hb]
        by_cases ha : raOk m a
        · rw [if_pos ha, if_pos ha, if_pos e]
        · rw [if_neg ha, if_neg ha]; rfl
    · rw [if_neg h2, if_neg (fun q => h2 q.1), if_neg (fun q => h2 q.1)]
set_option maxRecDepth 100000 in
set_option maxHeartbeats 16000000 in
theorem walk_fxBase (m a b : Int) (A : Nat → Addr) (w : World) (m0 : -9223372036854775808 ≤ m) (m1 : m ≤ 9223372036854775807) (a0 : -9223372036854775808 ≤ a) (a1 : a ≤ 9223372036854775807) (b0 : -9223372036854775808 ≤ b) (b1 : b ≤ 9223372036854775807) (hS : Sents w A) :
    Calls Tryd.prog 4 #[.int .i64 m, .int .i64 a, .int .i64 b] w fun r w' => r = .returned (.bool true) ∧ Below w.heap.size w w' := by
  have hI := hidden (fun W (h : Below w.heap.size w W) => is_self A 103 W (hS.below h (Nat.le_refl _)) (.inr (by decide)))
  have hE := hidden (hS.on [2] (by decide))
  have hF := hidden (law13_first A w (hS.on [2, 3, 5] (by decide)))
  have hN := hidden (fun W => number_any m 9 W m0 m1 (by decide) (by decide))
  have hm2 := Int.emod_lt_of_pos m (show 0 < 9 by omega)
  have hm3 := Int.emod_nonneg m (show (9 : Int) ≠ 0 by omega)
  clear hS m0 m1 a0 a1 b0 b1
  generalize m % 9 = n at *
  go_enter Tryd.func4, Tryd.ntmps4
  go_wp2_with fail
  refine hF.out.mono ?_
  rintro r w1 ⟨rfl, hb⟩
  clear hF
  go_wp2_with fail
  refine (hN.out _).mono ?_
  rintro r w2 ⟨rfl, rfl⟩
  clear hN
  have hlt := hidden hb.size
  have hr := hidden (raAt_new w1 raTy)
  replace hb := hidden (hb.alloc hb.size (.cells #[.int .i64 0, .int .i64 0, .int .i64 0, .int .i64 0, .int .i64 0, .int .i64 0, .int .i64 0] raTy))
  go_wp2_with fail
  (with_reducible refine (raSet_any A _ w1.heap.size ra0 (n - 1) a hr.out (hE.out.below hb.out (Nat.le_refl _))).mono ?_)
  rintro r w3 ⟨rfl, hr3, ht⟩
  replace hb := hidden (hb.out.trans (ht.below (fun j hj => by rw [hj]; exact hlt.out) hb.out.size))
  replace hr := hidden hr3
  clear hr3 ht
  go_wp2_with fail
  (with_reducible refine (raSet_any A _ w1.heap.size _ (n - 1) b hr.out (hE.out.below hb.out (Nat.le_refl _))).mono ?_)
  rintro r w4 ⟨rfl, hr3, ht⟩
  replace hb := hidden (hb.out.trans (ht.below (fun j hj => by rw [hj]; exact hlt.out) hb.out.size))
  replace hr := hidden hr3
  clear hr3 ht hE hlt
  have hG := hidden (fun W (h : Below w4.heap.size w4 W) => raGet_any W w1.heap.size _ (n - 1) (hr.out.below h))
  have hG1 := hidden (fun W (h : Below w4.heap.size w4 W) => raGet_any W w1.heap.size _ 1 (hr.out.below h))
  rw [(raB_base _).1, (raB_base _).2] at hG1
  unfold raB at hG
  rw [ra_two] at hG
  clear hr
  have e103 : errOf A 103 = errAt (A 2) := rfl
  have e0 : errOf A 0 = .nilIface := rfl
  have fin1 : ∀ x, ¬ raOk (n - 1) x → errOf A (raC (n - 1) x) = errAt (A 2) := fun x q => by rw [show raC (n - 1) x = 103 from if_neg q]; rfl
  have fin2 : ∀ x, raOk (n - 1) x → errOf A (raC (n - 1) x) = .nilIface := fun x q => by rw [show raC (n - 1) x = 0 from if_pos q]; rfl
  rw [e103] at hI
  clear e103 e0
  by_cases hin : 2 ≤ n - 1 ∧ n - 1 ≤ 6
  · have hok : ∀ x, (1 ≤ x ∧ x ≤ 1000000000) → raOk (n - 1) x := fun x q => ⟨hin, q⟩
    have hno : ∀ x, ¬ (1 ≤ x ∧ x ≤ 1000000000) → ¬ raOk (n - 1) x := fun x q z => q z.2
    obtain ⟨i1, i2⟩ := hin
    have n1 : ((n - 1) == 1) = false := by simp; omega
    rw [if_neg (show ¬ n - 1 = 1 by omega)] at hG
    rcases ra_side a with ⟨t1, qa⟩ | ⟨t1, t2, qa⟩ | ⟨t1, t2, qa⟩
    iterate 2
      · have ha := hno a qa
        rw [if_neg ha] at hG
        rw [fin1 a ha]
        rcases ra_side b with ⟨s1, qb⟩ | ⟨s1, s2, qb⟩ | ⟨s1, s2, qb⟩
        iterate 2
          · have hb2 := hno b qb
            rw [if_neg hb2] at hG
            rw [fin1 b hb2]
            clear ha hb2 qa qb hok hno fin1 fin2
            go_wp2_with fail
            (with_reducible refine (hI.out _ hb.out).mono ?_)
            rintro e w5 ⟨rfl, hb5⟩
            replace hb := hidden (hb.out.trans (hb5.mono hb.out.size))
            go_wp2_with fail
            (with_reducible refine (hG.out _ hb5).mono ?_)
            rintro e w6 ⟨rfl, rfl⟩
            go_wp2_with fail
            (with_reducible refine (hG1.out _ hb5).mono ?_)
            rintro e w6 ⟨rfl, rfl⟩
            go_wp2
            go_ret
            exact ⟨rfl, hb.out⟩
        · have hb2 := hok b qb
          rw [if_pos hb2] at hG
          rw [fin2 b hb2]
          have bz : (b != 0) = true := by simp; omega
          clear ha hb2 qa qb hok hno fin1 fin2
          go_wp2_with fail
          (with_reducible refine (hI.out _ hb.out).mono ?_)
          rintro e w5 ⟨rfl, hb5⟩
          replace hb := hidden (hb.out.trans (hb5.mono hb.out.size))
          go_wp2_with fail
          (with_reducible refine (hG.out _ hb5).mono ?_)
          rintro e w6 ⟨rfl, rfl⟩
          go_wp2_with fail
          (with_reducible refine (hG1.out _ hb5).mono ?_)
          rintro e w6 ⟨rfl, rfl⟩
          go_wp2
          go_ret
          exact ⟨rfl, hb.out⟩
    · have ha := hok a qa
      rw [if_pos ha] at hG
      rw [fin2 a ha]
      have az : (a != 0) = true := by simp; omega
      rcases ra_side b with ⟨s1, qb⟩ | ⟨s1, s2, qb⟩ | ⟨s1, s2, qb⟩
      iterate 2
        · have hb2 := hno b qb
          rw [if_neg hb2] at hG
          rw [fin1 b hb2]
          clear ha hb2 qa qb hok hno fin1 fin2
          go_wp2_with fail
          (with_reducible refine (hG.out _ (Below.refl _ _)).mono ?_)
          rintro e w6 ⟨rfl, rfl⟩
          go_wp2_with fail
          (with_reducible refine (hG1.out _ (Below.refl _ _)).mono ?_)
          rintro e w6 ⟨rfl, rfl⟩
          go_wp2
          go_ret
          exact ⟨rfl, hb.out⟩
      · have hb2 := hok b qb
        rw [if_pos hb2] at hG
        rw [fin2 b hb2]
        have bz : (b != 0) = true := by simp; omega
        clear ha hb2 qa qb hok hno fin1 fin2
        go_wp2_with fail
        (with_reducible refine (hG.out _ (Below.refl _ _)).mono ?_)
        rintro e w6 ⟨rfl, rfl⟩
        go_wp2_with fail
        (with_reducible refine (hG1.out _ (Below.refl _ _)).mono ?_)
        rintro e w6 ⟨rfl, rfl⟩
        go_wp2
        go_ret
        exact ⟨rfl, hb.out⟩
  · have ha : ∀ x, ¬ raOk (n - 1) x := fun x q => hin q.1
    rw [if_neg (ha a), if_neg (ha b)] at hG
    rw [fin1 a (ha a), fin1 b (ha b)]
    clear fin1 fin2 ha
    have hn : n = 0 ∨ n = 1 ∨ n = 2 ∨ n = 8 := by omega
    clear hin hm2 hm3
    rcases hn with rfl | rfl | rfl | rfl
    all_goals
      go_wp2_with fail
      (with_reducible refine (hI.out _ hb.out).mono ?_)
      rintro e w5 ⟨rfl, hb5⟩
      replace hb := hidden (hb.out.trans (hb5.mono hb.out.size))
      go_wp2_with fail
      refine (hG.out _ hb5).mono ?_
      rintro e w6 ⟨rfl, rfl⟩
      go_wp2_with fail
      (with_reducible refine (hG1.out _ hb5).mono ?_)
      rintro e w6 ⟨rfl, rfl⟩
      go_wp2
      go_ret
      exact ⟨rfl, hb.out⟩
end Go.Proofs.YtlgpckgedkbpiaaDoor
