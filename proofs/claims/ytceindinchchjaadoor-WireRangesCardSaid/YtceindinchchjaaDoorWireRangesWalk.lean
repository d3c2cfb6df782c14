import Derived.Test.YtceindinchchjaaDoorLaw
namespace Go.Proofs.YtceindinchchjaaDoor
open Go.RowKit

set_option maxHeartbeats 1600000 in
theorem walk_wireRanges (n low high : Int) (v : Value) (more : List Int) (A : Nat → Addr) (w : World) (hn0 : -9223372036854775808 ≤ n) (hn1 : n ≤ 9223372036854775807)
    (_ : -9223372036854775808 ≤ low) (_ : low ≤ 9223372036854775807) (_ : -9223372036854775808 ≤ high) (_ : high ≤ 9223372036854775807)
    (hr : Reads .u8 w v more) (hby : ∀ x ∈ more, 0 ≤ x ∧ x ≤ 255) (hS : Sents w A) :
    Calls Tryd.prog 5 #[.int .i64 n, .int .i64 low, .int .i64 high, v] w fun e w' => e = .returned (.bool true) ∧ Below w.heap.size w w' := by
  have hr' := hidden hr
  obtain ⟨a, len, cap, rfl, en, hnc, hcm, _, _⟩ := hr
  subst en
  unfold maxLen at hcm
  by_cases h50 : 50 < more.length
  · have h50' : (50 : Int) < (more.length : Int) := by omega
    clear h50 hby
    go_enter Tryd.func5, Tryd.ntmps5
    go_wp2_with fail
    refine (law_first _).mono ?_
    rintro e w1 ⟨rfl, hb⟩
    go_wp2
    go_ret
    exact ⟨rfl, hb⟩
  · have h50' : ¬ (50 : Int) < (more.length : Int) := by omega
    have hS' := hidden hS
    have hby' := hidden hby
    have hml := hidden (show more.length ≤ 50 by omega)
    clear h50 hby hS
    go_enter Tryd.func5, Tryd.ntmps5
    go_wp2_with fail
    refine (law_first _).mono ?_
    rintro e w1 ⟨rfl, hb1⟩
    have hb1' := hidden hb1
    clear hb1
    have hl := hidden (reads_new (k := .i64) (w := w1) (e := 2) #[.int .i64 n] [n] 1 rfl rfl (by decide))
    go_wp2_with fail
    refine (put_any _ _ [] [n] _ (Reads.nil _ _) hl.out (by decide) (by simp) (by intro x hx; simp at hx; omega)).mono ?_
    rintro e w2 ⟨v2, rfl, hown2, hb2⟩
    have hE : [] ++ encs [n] = enc (zz n).toNat := by simp [encs]
    rw [hE] at hown2
    have hEl := enc_ten (zz n).toNat (by have := zz_hi n hn0 hn1; omega)
    have hEb := enc_byte (zz n).toNat
    have hnum := hidden (fun l h t => numOf_enc (A 0) (A 1) (A 2) n l h t hn0 hn1)
    clear hE
    generalize hEq : enc (zz n).toNat = E at *
    have hb2' := hidden ((hb1'.out.alloc hb1'.out.size (.cells #[.int .i64 n] 2)).trans (hb2.mono (by have := hb1'.out.size; simp; omega)))
    have hr2 := hidden (reads_of_own (k := .u8) hown2)
    clear hown2 hb2 hEq
    obtain ⟨a2, c2, hv2⟩ : ∃ a c, v2 = .slice a E.length c := by
      obtain ⟨a', l', c', e1, e2, _⟩ := hr2.out
      exact ⟨a', c', by rw [e1, e2]⟩
    rw [hv2] at hr2
    rw [hv2]
    clear hv2
    go_wp2_with fail
    refine (bytes_any _ E w2 hr2.out (by omega)).mono ?_
    rintro e w3 ⟨v3, rfl, hown3, hb3⟩
    have hb3' := hidden (hb2'.out.trans (hb3.mono hb2'.out.size))
    have hs3 := hb3.size
    have hr3 := hidden (hr'.out.below hb3'.out (Nat.le_refl _))
    clear hb3
    go_wp2_with (at_builtin; refine wpList_app rfl _ _ 22 rfl 5 Tryd.underlying22 infoB rfl (by decide) w2.heap.size _ _ _ rfl hown3 rfl hr3.out ?_ ?_ hs3 ?_)
    · omega
    · omega
    intro v4 w4 hown4 hb4
    have hb4' := hidden (hb3'.out.trans (hb4.mono hb2'.out.size))
    have e4 : cb E ++ more.map (Value.int .u8) = cb (E ++ more) := by simp [cb]
    rw [e4] at hown4
    have hr4 := hidden (reads_of_own (k := .u8) hown4)
    have hEm : (E ++ more).length ≤ 100 := by have := hml.out; rw [List.length_append]; omega
    clear hown3 hown4 e4 hb4 hs3
    go_wp2_with fail
    refine (newReader_any _ (E ++ more) w4 hr4.out (by omega)).mono ?_
    rintro e w5 ⟨g, rfl, hR, hb5⟩
    have hb5' := hidden (hb4'.out.trans (hb5.mono hb4'.out.size))
    have hbb := hidden (show ∀ x ∈ E ++ more, 0 ≤ x ∧ x ≤ 255 by intro x hx; rcases List.mem_append.1 hx with h | h; exact hEb x h; exact hby'.out x h)
    have hR' := hidden hR
    have hs4 := hidden hb4'.out.size
    have hEL := hidden hEm
    clear hR hb5 hEb hEm
    by_cases hin : low ≤ n ∧ n ≤ high
    · obtain ⟨hi1, hi2⟩ := hin
      go_wp2_with fail
      refine (num_good w4.heap.size g 0 E.length (E ++ more) low high n (A 0) (A 1) (A 2) w5 hR'.out (by have := hEL.out; omega) hbb.out (errs_of (hS'.out.below hb5'.out (Nat.le_refl _))) (by rw [List.drop_zero, hnum.out, if_pos ⟨hi1, hi2⟩])).mono ?_
      rintro e w6 ⟨rfl, hR6, hg6⟩
      rw [Nat.zero_add] at hR6
      have hb6' := hidden (below_grown hb5'.out hg6 hR'.out.1 hs4.out)
      have hR6' := hidden hR6
      clear hg6 hR6
      go_wp2_with fail
      refine (err_none _ _ _ _ w6 hR6'.out).mono ?_
      rintro e w7 ⟨rfl, rfl⟩
      go_wp2_with fail
      refine (at_any _ _ _ _ _ w6 hR6'.out).mono ?_
      rintro e w7 ⟨rfl, rfl⟩
      go_wp2_with fail
      refine (left_none _ _ _ _ w6 hR6'.out (by have := hEL.out; omega)).mono ?_
      rintro e w7 ⟨rfl, m, rfl⟩
      have hl : ((E.length : Int) + (more.length : Int) - (E.length : Int) == (more.length : Int)) = true := by rw [beq_iff_eq]; omega
      go_wp2
      go_ret
      exact ⟨rfl, below_drewN hb6'.out⟩
    · have hbad := hidden (show numOf (A 0) (A 1) (A 2) ((E ++ more).drop 0) low high = .inr (A 2) by rw [List.drop_zero, hnum.out, if_neg hin])
      have hin' : n < low ∨ (low ≤ n ∧ high < n) := by omega
      have main : ∀ (w5 : World) (hb5' : Below w.heap.size w w5) (hR' : Rdr w5 w4.heap.size g (E ++ more) 0 none), Calls Tryd.prog 14 #[.pointer (some ⟨g, 0, none⟩), .int .i64 low, .int .i64 high] w5 fun e w' => e = .returned (.int .i64 0) ∧ Rdr w' w4.heap.size g (E ++ more) 0 (some (A 2)) ∧ w5.grownBy w' (some g) := fun w5 hb5' hR' =>
        num_bad w4.heap.size g 0 (E ++ more) low high (A 0) (A 1) (A 2) (A 2) w5 hR' (by have := hEL.out; omega) hbb.out (errs_of (hS'.out.below hb5' (Nat.le_refl _))) hbad.out
      have main' := hidden main
      clear hin hbad main
      rcases hin' with hin | ⟨hin1, hin2⟩
      all_goals
        go_wp2_with fail
        refine (main'.out w5 hb5'.out hR'.out).mono ?_
        rintro e w6 ⟨rfl, hR6, hg6⟩
        have hb6' := hidden (below_grown hb5'.out hg6 hR'.out.1 hs4.out)
        have hR6' := hidden hR6
        clear hg6 hR6
        go_wp2_with fail
        refine (num_stopped _ _ _ _ _ _ _ w6 hR6'.out).mono ?_
        rintro e w7 ⟨rfl, rfl⟩
        go_wp2_with fail
        refine (bool_stopped _ _ _ _ _ w6 hR6'.out).mono ?_
        rintro e w7 ⟨rfl, rfl⟩
        go_wp2_with fail
        refine (at_any _ _ _ _ _ w6 hR6'.out).mono ?_
        rintro e w7 ⟨rfl, rfl⟩
        go_wp2_with fail
        refine (err_some _ _ _ _ _ w6 hR6'.out).mono ?_
        rintro e w7 ⟨ga, rfl, hga, rfl⟩
        have hga' := hidden hga
        clear hga
        go_wp2_with fail
        refine (fault_placed _ _ _ (by decide)).mono ?_
        rintro e w8 ⟨rfl, hb8⟩
        have hb8' := hidden (hb6'.out.trans (hb8.mono hb6'.out.size))
        have hf := hidden (faultIs_at A 2 ga 0 w8 (hS'.out.below hb8'.out (Nat.le_refl _)) (by decide) (by
          unfold AtIn
          rw [hb8.block ga (Array.getElem?_eq_some_iff.1 hga'.out).1]; exact hga'.out))
        clear hb8
        go_wp2_with fail
        refine (same_any _ _ _ _ _ _ _ w8 hf.out).mono ?_
        rintro e w9 ⟨rfl, hb9⟩
        have hb9' := hidden (hb8'.out.trans (hb9.mono hb8'.out.size))
        clear hb9
        go_wp2
        go_ret
        exact ⟨rfl, hb9'.out⟩
end Go.Proofs.YtceindinchchjaaDoor
