/-
  The document's reader of numbers from 0 to 2^62.
-/
import Derived.Test.YtongpgnnhpbcpaaGreatDoorRecRef
import Derived.Test.YtongpgnnhpbcpaaGreatDoorOpRd
namespace Go.Proofs.YtongpgnnhpbcpaaGreatDoor
open Go.RowKit
set_option linter.unusedVariables false

def RNumG (g : Nat) (bv : Value) (xs : List Int) (s : RdG) (w : World) (e : Ending) (w' : World) : Prop :=
  e = .returned (.int .i64 (rdN25 xs s).1) ∧ RefR w' g bv xs (rdN25 xs s).2.p (rdN25 xs s).2.bad ∧ Trd (· = g) w w'
theorem refNumG_stopped (w : World) (g : Nat) (bv : Value) (xs : List Int) (p c : Nat) (h : RefR w g bv xs p (some c)) :
    Calls Tryz.prog 41 #[.pointer (some ⟨g, 0, none⟩), .int .i64 0, .int .i64 4611686018427387904] w (RNumG g bv xs ⟨p, some c⟩ w) := by
  have hO := hidden (refROk_any w g bv xs p (some c) h)
  have h' := hidden h
  clear h
  go_enter Tryz.func41, Tryz.ntmps41
  go_wp2_with fail
  refine hO.out.mono ?_
  rintro e w1 ⟨rfl, rfl⟩
  go_wp2
  go_ret
  exact ⟨rfl, h'.out, Trd.refl _ _⟩
set_option maxRecDepth 100000 in
set_option maxHeartbeats 6400000 in
theorem refNumG_first (w : World) (g : Nat) (bv : Value) (xs : List Int) (p : Nat) (h : RefR w g bv xs p none) (hx : xs.length ≤ 1000000) (hbyte : ∀ x ∈ xs, 0 ≤ x ∧ x ≤ 255) :
    Calls Tryz.prog 41 #[.pointer (some ⟨g, 0, none⟩), .int .i64 0, .int .i64 4611686018427387904] w (RNumG g bv xs ⟨p, none⟩ w) := by
  have hO := hidden (refROk_any w g bv xs p none h)
  have c0 := h.c0
  have c1 := h.c1
  have f1 := h.fr 1
  have hp := h.le
  obtain ⟨ab, cbv, rfl⟩ := reads_slice h.rd
  have hF := hidden (fun c => refFail_any w g _ xs p c h)
  have h' := hidden h
  replace hbyte := hidden hbyte
  have hxI : (xs.length : Int) ≤ 1000000 := by omega
  clear h
  go_enter Tryz.func41, Tryz.ntmps41
  go_wp2_with fail
  refine hO.out.mono ?_
  rintro e w1 ⟨rfl, rfl⟩
  go_wp2_with fail
  go_loopw [7, 8] (fun z i wr => RNumRel xs p w z i wr) (fun _ i _ => xs.length - (RowKit.intOf i).toNat)
  case atStart => exact ⟨0, 0, rfl, rfl, by omega, by omega, by simp, by simp, rfl⟩
  case round =>
    obtain ⟨k, b, rfl, rfl, hk9, hk, hb, hd, rfl⟩ := hrel
    replace hd := hidden hd
    replace hb := hidden hb
    by_cases hlt : p + k < xs.length
    · obtain ⟨bl, ol, rfl, hc⟩ := h'.out.rd.cell (p + k) hlt
      have hby := hbyte.out (xs.getD (p + k) 0) (by rw [List.getD_eq_getElem?_getD, List.getElem?_eq_getElem hlt]; exact List.getElem_mem hlt)
      have hdrop := hidden (show xs.drop (p + k) = xs.getD (p + k) 0 :: xs.drop (p + k + 1) by rw [List.drop_eq_getElem_cons hlt, List.getD_eq_getElem?_getD, List.getElem?_eq_getElem hlt]; rfl)
      generalize xs.getD (p + k) 0 = x at hc hby hdrop
      have hne : ¬ (xs.length : Int) ≤ (p : Int) + (k : Int) := by omega
      have hsub : (p : Int) + (k : Int) - (p : Int) = (k : Int) := by omega
      have hpk : (p : Int) + (k : Int) ≤ 1000000 := by omega
      have hpk0 : (0 : Int) ≤ (p : Int) + (k : Int) := by omega
      have hpn : ((p : Int) + (k : Int)).toNat = p + k := by omega
      by_cases hbad : (k = 9 ∧ 1 < x) ∨ (0 < k ∧ x = 0)
      · have hfin := hidden (show rdN25 xs ⟨p, none⟩ = (0, ⟨p, some 1⟩) by
          unfold rdN25 numG
          rw [hd.out, hdrop.out, dec_shape _ _ _ _ hbad])
        have hF1 := hidden (hF.out 1)
        clear hF
        rcases Nat.lt_or_ge k 9 with h9 | h9
        · have h9' : ((k : Int) == 9) = false := by rw [beq_eq_false_iff_ne]; omega
          have hx0 : x = 0 := by omega
          have hk0 : (0 : Int) < (k : Int) := by omega
          subst hx0
          clear hbad
          go_wp2_with fail
          refine hF1.out.mono ?_
          rintro e w2 ⟨rfl, h2, ht⟩
          replace h2 := hidden h2
          replace ht := hidden ht
          go_wp2
          go_ret
          exact ⟨ret_int (by rw [hfin.out]), by rw [hfin.out]; exact h2.out, ht.out⟩
        · have hk9' : k = 9 := by omega
          have h9' : ((k : Int) == 9) = true := by rw [beq_iff_eq]; omega
          have hk0 : (0 : Int) < (k : Int) := by omega
          replace hk9' := hidden hk9'
          rcases Int.lt_or_le 1 x with hx1 | hx1
          · clear hbad h9
            go_wp2_with fail
            refine hF1.out.mono ?_
            rintro e w2 ⟨rfl, h2, ht⟩
            replace h2 := hidden h2
            replace ht := hidden ht
            go_wp2
            go_ret
            exact ⟨ret_int (by rw [hfin.out]), by rw [hfin.out]; exact h2.out, ht.out⟩
          · have hx0 : x = 0 := by have := hk9'.out; omega
            subst hx0
            clear hbad h9
            go_wp2_with fail
            refine hF1.out.mono ?_
            rintro e w2 ⟨rfl, h2, ht⟩
            replace h2 := hidden h2
            replace ht := hidden ht
            go_wp2
            go_ret
            exact ⟨ret_int (by rw [hfin.out]), by rw [hfin.out]; exact h2.out, ht.out⟩
      · by_cases h128 : x < 128
        · have hj := or_join b k x hk9 hb.out hby.1 (by omega)
          have hrd := hidden (show rdN25 xs ⟨p, none⟩ = match (if 0 ≤ uz ((b + x.toNat % 128 * 128 ^ k : Nat) : Int) ∧ uz ((b + x.toNat % 128 * 128 ^ k : Nat) : Int) ≤ 4611686018427387904 then (Sum.inl (uz ((b + x.toNat % 128 * 128 ^ k : Nat) : Int), k + 1) : (Int × Nat) ⊕ Nat) else .inr 2) with | .inl (x, n) => (x, ⟨p + n, none⟩) | .inr c => (0, ⟨p, some c⟩) by
            unfold rdN25 numG
            rw [hd.out, hdrop.out, dec_ok _ _ _ _ (by omega) (by omega) hby.1 h128]
            rfl)
          have hj1 := hidden hj.1
          have hj2 := hj.2
          clear hj
          generalize b + x.toNat % 128 * 128 ^ k = r at hj1 hj2 hrd
          have hr0 : (0 : Int) ≤ (r : Int) := by omega
          have hr1 : (r : Int) ≤ 18446744073709551615 := by omega
          have hm1 := mask127 x hby.1 hby.2
          have hm2 := wrap_mod128 x
          have hj3 := hj1.out
          have han := and_oneN r hj2
          have hmv := hidden (h'.out.move (n := p + (k + 1)) (by omega))
          have hF2 := hidden (hF.out 2)
          clear hF
          have hcast : ((p + (k + 1) : Nat) : Int) = (p : Int) + (k : Int) + 1 := by omega
          rw [hcast] at hmv
          rcases Nat.mod_two_eq_zero_or_one r with h2 | h2
          · rw [h2] at han
            have huz : uz (r : Int) = (r : Int) / 2 := by unfold uz; rw [if_pos (by omega)]
            rw [huz] at hrd
            have hq0 : (0 : Int) ≤ (r : Int) / 2 := by omega
            by_cases hq : (r : Int) / 2 ≤ 4611686018427387904
            · have hfin := hidden (show rdN25 xs ⟨p, none⟩ = ((r : Int) / 2, ⟨p + (k + 1), none⟩) by rw [hrd.out, if_pos ⟨hq0, hq⟩])
              clear hd hcast h2 huz hrd hF2
              rcases Nat.lt_or_ge k 9 with h9 | h9
              · have h9' : ((k : Int) == 9) = false := by rw [beq_eq_false_iff_ne]; omega
                rcases Nat.eq_zero_or_pos k with hk0 | hk0
                · have hk0' : ¬ (0 : Int) < (k : Int) := by omega
                  clear hk0 h9 hbad hb
                  go_wp2
                  go_ret
                  exact ⟨ret_int (by rw [hfin.out]), by rw [hfin.out]; exact hmv.out.1, hmv.out.2⟩
                · have hk0' : (0 : Int) < (k : Int) := by omega
                  have hx0 : (x == 0) = false := by rw [beq_eq_false_iff_ne]; omega
                  clear hk0 h9 hbad hb
                  go_wp2
                  go_ret
                  exact ⟨ret_int (by rw [hfin.out]), by rw [hfin.out]; exact hmv.out.1, hmv.out.2⟩
              · have h9' : ((k : Int) == 9) = true := by rw [beq_iff_eq]; omega
                have hx1 : ¬ 1 < x := by omega
                have hk0' : (0 : Int) < (k : Int) := by omega
                have hx0 : (x == 0) = false := by rw [beq_eq_false_iff_ne]; omega
                clear h9 hbad hb
                go_wp2
                go_ret
                exact ⟨ret_int (by rw [hfin.out]), by rw [hfin.out]; exact hmv.out.1, hmv.out.2⟩
            · have hfin := hidden (show rdN25 xs ⟨p, none⟩ = (0, ⟨p, some 2⟩) by rw [hrd.out, if_neg (fun h => hq h.2)])
              clear hd hcast h2 huz hrd hmv
              rcases Nat.lt_or_ge k 9 with h9 | h9
              · have h9' : ((k : Int) == 9) = false := by rw [beq_eq_false_iff_ne]; omega
                rcases Nat.eq_zero_or_pos k with hk0 | hk0
                · have hk0' : ¬ (0 : Int) < (k : Int) := by omega
                  clear hk0 h9 hbad hb
                  go_wp2_with fail
                  refine hF2.out.mono ?_
                  rintro e w2 ⟨rfl, h2, ht⟩
                  replace h2 := hidden h2
                  replace ht := hidden ht
                  go_wp2
                  go_ret
                  exact ⟨ret_int (by rw [hfin.out]), by rw [hfin.out]; exact h2.out, ht.out⟩
                · have hk0' : (0 : Int) < (k : Int) := by omega
                  have hx0 : (x == 0) = false := by rw [beq_eq_false_iff_ne]; omega
                  clear hk0 h9 hbad hb
                  go_wp2_with fail
                  refine hF2.out.mono ?_
                  rintro e w2 ⟨rfl, h2, ht⟩
                  replace h2 := hidden h2
                  replace ht := hidden ht
                  go_wp2
                  go_ret
                  exact ⟨ret_int (by rw [hfin.out]), by rw [hfin.out]; exact h2.out, ht.out⟩
              · have h9' : ((k : Int) == 9) = true := by rw [beq_iff_eq]; omega
                have hx1 : ¬ 1 < x := by omega
                have hk0' : (0 : Int) < (k : Int) := by omega
                have hx0 : (x == 0) = false := by rw [beq_eq_false_iff_ne]; omega
                clear h9 hbad hb
                go_wp2_with fail
                refine hF2.out.mono ?_
                rintro e w2 ⟨rfl, h2, ht⟩
                replace h2 := hidden h2
                replace ht := hidden ht
                go_wp2
                go_ret
                exact ⟨ret_int (by rw [hfin.out]), by rw [hfin.out]; exact h2.out, ht.out⟩
          · rw [h2] at han
            have hxr : bits .xor .i64 (-1) ((r : Int) / 2) = uz (r : Int) := by
              rw [ones_xor_i64 _ (by omega) (by omega)]; unfold uz; rw [if_neg (by omega)]
            have hu1 := uz_lo (r : Int) hr0 hr1
            have hu2 := uz_hi (r : Int) hr0 hr1
            have hun : uz (r : Int) < 0 := by unfold uz; rw [if_neg (by omega)]; omega
            have hfin := hidden (show rdN25 xs ⟨p, none⟩ = (0, ⟨p, some 2⟩) by rw [hrd.out, if_neg (by omega)])
            clear hd hcast h2 hrd hmv
            rcases Nat.lt_or_ge k 9 with h9 | h9
            · have h9' : ((k : Int) == 9) = false := by rw [beq_eq_false_iff_ne]; omega
              rcases Nat.eq_zero_or_pos k with hk0 | hk0
              · have hk0' : ¬ (0 : Int) < (k : Int) := by omega
                clear hk0 h9 hbad hb
                go_wp2_with fail
                refine hF2.out.mono ?_
                rintro e w2 ⟨rfl, h2, ht⟩
                replace h2 := hidden h2
                replace ht := hidden ht
                go_wp2
                go_ret
                exact ⟨ret_int (by rw [hfin.out]), by rw [hfin.out]; exact h2.out, ht.out⟩
              · have hk0' : (0 : Int) < (k : Int) := by omega
                have hx0 : (x == 0) = false := by rw [beq_eq_false_iff_ne]; omega
                clear hk0 h9 hbad hb
                go_wp2_with fail
                refine hF2.out.mono ?_
                rintro e w2 ⟨rfl, h2, ht⟩
                replace h2 := hidden h2
                replace ht := hidden ht
                go_wp2
                go_ret
                exact ⟨ret_int (by rw [hfin.out]), by rw [hfin.out]; exact h2.out, ht.out⟩
            · have h9' : ((k : Int) == 9) = true := by rw [beq_iff_eq]; omega
              have hx1 : ¬ 1 < x := by omega
              have hk0' : (0 : Int) < (k : Int) := by omega
              have hx0 : (x == 0) = false := by rw [beq_eq_false_iff_ne]; omega
              clear h9 hbad hb
              go_wp2_with fail
              refine hF2.out.mono ?_
              rintro e w2 ⟨rfl, h2, ht⟩
              replace h2 := hidden h2
              replace ht := hidden ht
              go_wp2
              go_ret
              exact ⟨ret_int (by rw [hfin.out]), by rw [hfin.out]; exact h2.out, ht.out⟩
        · have h128' : 128 ≤ x := by omega
          have h9 : k < 9 := by
            rcases Nat.lt_or_ge k 9 with h | h
            · exact h
            · omega
          have h9' : ((k : Int) == 9) = false := by rw [beq_eq_false_iff_ne]; omega
          have hstep := hidden (rnum_step (xs := xs) h9 hlt hb.out h128' hd.out hdrop.out)
          have hx0 : (x == 0) = false := by rw [beq_eq_false_iff_ne]; omega
          have hm1 := mask127 x hby.1 hby.2
          have hm2 := wrap_mod128 x
          clear hbad
          rcases Nat.eq_zero_or_pos k with hk0 | hk0
          · have hk0' : ¬ (0 : Int) < (k : Int) := by omega
            clear hk0
            go_wp2
            go_roundw
            case rel => exact ⟨k + 1, _, by go_num, by rw [hstep.out.1], by omega, by omega, hstep.out.2.1, hstep.out.2.2, rfl⟩
            case measure => simp [RowKit.intOf]; omega
          · have hk0' : (0 : Int) < (k : Int) := by omega
            clear hk0
            go_wp2
            go_roundw
            case rel => exact ⟨k + 1, _, by go_num, by rw [hstep.out.1], by omega, by omega, hstep.out.2.1, hstep.out.2.2, rfl⟩
            case measure => simp [RowKit.intOf]; omega
    · have hne : (xs.length : Int) ≤ (p : Int) + (k : Int) := by omega
      have hfin := hidden (show rdN25 xs ⟨p, none⟩ = (0, ⟨p, some 0⟩) by
        unfold rdN25 numG
        rw [hd.out, List.drop_eq_nil_of_le (by omega)]; rfl)
      have hF1 := hidden (hF.out 0)
      clear hF hlt
      go_wp2_with fail
      refine hF1.out.mono ?_
      rintro e w2 ⟨rfl, h2, ht⟩
      replace h2 := hidden h2
      replace ht := hidden ht
      go_wp2
      go_ret
      exact ⟨ret_int (by rw [hfin.out]), by rw [hfin.out]; exact h2.out, ht.out⟩
theorem refNumG_next (w : World) (g : Nat) (bv : Value) (xs : List Int) (s : RdG) (h : RefR w g bv xs s.p s.bad) (hx : xs.length ≤ 1000000) (hbyte : ∀ x ∈ xs, 0 ≤ x ∧ x ≤ 255) :
    Calls Tryz.prog 41 #[.pointer (some ⟨g, 0, none⟩), .int .i64 0, .int .i64 4611686018427387904] w (RNumG g bv xs s w) := by
  obtain ⟨p, bad⟩ := s
  cases bad with
  | none => exact refNumG_first w g bv xs p h hx hbyte
  | some c => exact refNumG_stopped w g bv xs p c h
end Go.Proofs.YtongpgnnhpbcpaaGreatDoor
