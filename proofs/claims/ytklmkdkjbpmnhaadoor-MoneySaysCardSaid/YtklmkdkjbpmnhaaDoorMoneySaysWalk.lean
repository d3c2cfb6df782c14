import Derived.Test.YtklmkdkjbpmnhaaDoorMoneyLaw
import Derived.Test.YtklmkdkjbpmnhaaDoorRefMoney
namespace Go.Proofs.YtklmkdkjbpmnhaaDoor
open Go.RowKit

theorem less_code (i : Bool) (a b c : Int) (up : Bool) : (capC i a b c up == 103) = false ∨ ((capC i a b c up == 103) = true ∧ (capV i a b c up != 0) = false) := by
  cases i
  · exact .inr ⟨rfl, rfl⟩
  · left
    rw [beq_eq_false_iff_ne]
    unfold capC amtC
    rw [if_pos rfl]
    split <;> decide

set_option maxRecDepth 100000 in
set_option maxHeartbeats 8000000 in
theorem walk_moneySays (a b c : Int) (up : Bool) (v : Value) (z : List Int) (A : Nat → Addr) (w : World) (ha : -9223372036854775808 ≤ a) (ha2 : a ≤ 9223372036854775807) (hb : -9223372036854775808 ≤ b) (hb2 : b ≤ 9223372036854775807) (hc : -9223372036854775808 ≤ c) (hc2 : c ≤ 9223372036854775807)
    (h : Reads .i64 w v z) (hz : ∀ x ∈ z, -9223372036854775808 ≤ x ∧ x ≤ 9223372036854775807) (hS : Sents w A) :
    Calls Tryd.prog 3 #[.int .i64 a, .int .i64 b, .int .i64 c, .bool up, v] w fun e w' => e = .returned (.bool true) ∧ Below w.heap.size w w' := by
  have hB := hidden (Below.refl w.heap.size w)
  have hS' := hidden (fun w' (hb : Below w.heap.size w w') => hS.below hb (Nat.le_refl _))
  have hE := hidden (fun w' (hb : Below w.heap.size w w') => (hS.below hb (Nat.le_refl _)).on [2, 3] (by decide))
  have hr := hidden (fun w' (hb : Below w.heap.size w w') => h.below hb (Nat.le_refl _))
  obtain ⟨s, n, cp, rfl, en, hnc, hcm, hn, _⟩ := h
  subst en
  have hzz := hidden hz
  clear hn hz hS
  by_cases hlen : z.length ≤ 30
  · have k1 := hidden (capC_ok (win a 1000000000000 && win b 1000000000) a b 10000 false)
    have k2 := hidden (capC_ok (win a 1000000000000000 && win b 1000000000) a b 1000000 false)
    have k3 := hidden (capC_ok (win a 1000000000000000 && win b 10000) a (10000 - b) 10000 false)
    have k4 := hidden (capC_ok (win a 1000000000000000 && win b 10000) a b 10000 up)
    have k5 := hidden (capC_ok (win a 1000000000000000 && win b 10000 && win c 40000) a (b * c) 3600000 false)
    have k6 := hidden (totC_ok z)
    rcases less_code (win a 1000000000000000 && win b 10000) a (10000 - b) 10000 false with hl | ⟨hl, hl2⟩
    all_goals
      go_enter Tryd.func3, Tryd.ntmps3
      go_wp2_with (first
        | (go_at_call 8; refine (law3_first A _ (hE.out _ hB.out)).mono ?_; rintro e w' ⟨rfl, k, hk⟩; replace hB := hidden (below_drew_eq hB.out hk); clear hk)
        | (go_at_call 9; refine (worth_any A _ _ _ (hE.out _ hB.out) ha ha2 hb hb2).mono ?_; rintro e w' ⟨rfl, k, hk⟩; replace hB := hidden (below_drew_eq hB.out hk); clear hk)
        | (go_at_call 12; refine (base_any A _ _ _ (hE.out _ hB.out) ha ha2 hb hb2).mono ?_; rintro e w' ⟨rfl, k, hk⟩; replace hB := hidden (below_drew_eq hB.out hk); clear hk)
        | (go_at_call 14; refine (less_any A _ _ _ (hE.out _ hB.out) ha ha2 hb hb2).mono ?_; rintro e w' ⟨rfl, k, hk⟩; replace hB := hidden (below_drew_eq hB.out hk); clear hk)
        | (go_at_call 16; refine (part_any A _ _ _ _ (hE.out _ hB.out) ha ha2 hb hb2).mono ?_; rintro e w' ⟨rfl, k, hk⟩; replace hB := hidden (below_drew_eq hB.out hk); clear hk)
        | (go_at_call 18; refine (interest_any A _ _ _ _ (hE.out _ hB.out) ha ha2 hb hb2 hc hc2).mono ?_; rintro e w' ⟨rfl, k, hk⟩; replace hB := hidden (below_drew_eq hB.out hk); clear hk)
        | (go_at_call 20; refine (total_any A _ z _ (hE.out _ hB.out) (hr.out _ hB.out) (by omega) hzz.out).mono ?_; rintro e w' ⟨rfl, k, hk⟩; replace hB := hidden (below_drew_eq hB.out hk); clear hk)
        | (go_at_call 10; refine (refWorth_any _ _ _ ha ha2 hb hb2).mono ?_; rintro e w' ⟨rfl, rfl⟩)
        | (go_at_call 13; refine (refBase_any _ _ _ ha ha2 hb hb2).mono ?_; rintro e w' ⟨rfl, rfl⟩)
        | (go_at_call 15; refine (refLess_any _ _ _ ha ha2 hb hb2).mono ?_; rintro e w' ⟨rfl, rfl⟩)
        | (go_at_call 17; refine (refPart_any _ _ _ _ ha ha2 hb hb2).mono ?_; rintro e w' ⟨rfl, rfl⟩)
        | (go_at_call 19; refine (refInterest_any _ _ _ _ ha ha2 hb hb2 hc hc2).mono ?_; rintro e w' ⟨rfl, rfl⟩)
        | (go_at_call 21; refine (refTotal_any _ z _ (hr.out _ hB.out) (by omega) hzz.out).mono ?_; rintro e w' ⟨rfl, rfl⟩)
        | (go_at_call 11; refine (is_any A _ _ _ (hS'.out _ hB.out) (by first | exact k1.out | exact k2.out | exact k3.out | exact k4.out | exact k5.out | exact k6.out)).mono ?_; rintro e w' ⟨rfl, hbw⟩; replace hB := hidden (hB.out.trans (hbw.mono hB.out.size)); clear hbw))
      go_ret
      exact ⟨rfl, hB.out⟩
  · go_enter Tryd.func3, Tryd.ntmps3
    go_wp2_with (go_at_call 8; refine (law3_first A _ (hE.out _ hB.out)).mono ?_; rintro e w' ⟨rfl, k, hk⟩; replace hB := hidden (below_drew_eq hB.out hk); clear hk)
    go_ret
    exact ⟨rfl, hB.out⟩
end Go.Proofs.YtklmkdkjbpmnhaaDoor
