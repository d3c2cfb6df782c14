import Derived.Test.YtemjfncfhipjoaaFixLaw
namespace Go.Proofs.Ytemjfncfhipjoaa
open Go.RowKit

set_option maxRecDepth 100000 in
set_option maxHeartbeats 8000000 in
theorem walk_fixSays (a b c d : Int) (up : Bool) (v : Value) (z : List Int) (w : World) (ha : -9223372036854775808 ≤ a) (ha2 : a ≤ 9223372036854775807) (hb : -9223372036854775808 ≤ b) (hb2 : b ≤ 9223372036854775807) (hc : -9223372036854775808 ≤ c) (hc2 : c ≤ 9223372036854775807) (hd : -9223372036854775808 ≤ d) (hd2 : d ≤ 9223372036854775807)
    (h : Reads .i64 w v z) (hz : ∀ x ∈ z, -9223372036854775808 ≤ x ∧ x ≤ 9223372036854775807) :
    Calls Try.prog 3 #[.int .i64 a, .int .i64 b, .int .i64 c, .int .i64 d, .bool up, v] w fun e w' => e = .returned (.bool true) ∧ Below w.heap.size w w' := by
  have hr := hidden h
  obtain ⟨s, n, cp, rfl, en, hnc, hcm, hn, _⟩ := h
  subst en
  have hzz := hidden hz
  clear hn hz
  by_cases hlen : z.length ≤ 40
  · have hr' := hidden (show ∀ k, Reads .i64 (w.drewN k) (.slice s z.length cp) z from fun k => hr.out.same fun i _ => rfl)
    have ua0 : 0 ≤ IntKind.u64.wrap a := by rw [IntKind.wrap_u64]; omega
    have ua1 : IntKind.u64.wrap a ≤ 18446744073709551615 := by rw [IntKind.wrap_u64]; omega
    have ub0 : 0 ≤ IntKind.u64.wrap b := by rw [IntKind.wrap_u64]; omega
    have ub1 : IntKind.u64.wrap b ≤ 18446744073709551615 := by rw [IntKind.wrap_u64]; omega
    go_enter Try.func3, Try.ntmps3
    go_wp2_with (first
      | (go_at_call 8; refine (law2_first _).mono ?_; rintro e w' ⟨rfl, k, rfl⟩)
      | (go_at_call 9; refine (add_any _ _ _ ha ha2 hb hb2).mono ?_; rintro e w' ⟨rfl, rfl⟩)
      | (go_at_call 11; refine (sub_any _ _ _ ha ha2 hb hb2).mono ?_; rintro e w' ⟨rfl, rfl⟩)
      | (go_at_call 13; refine (mul_any _ _ _ ha ha2 hb hb2).mono ?_; rintro e w' ⟨rfl, rfl⟩)
      | (go_at_call 15; refine (div_any _ _ _ _ _ ha ha2 hb hb2 hc2).mono ?_; rintro e w' ⟨rfl, k, rfl⟩)
      | (go_at_call 17; refine (sum_any _ z _ (hr'.out _) (by omega) hzz.out).mono ?_; rintro e w' ⟨rfl, rfl⟩)
      | (go_at_call 19; refine (wide_any _ _ _ (by omega) (by omega) (by omega) (by omega)).mono ?_; rintro e w' ⟨rfl, rfl⟩)
      | (go_at_call 10; refine (refAdd_any _ _ _ ha ha2 hb hb2).mono ?_; rintro e w' ⟨rfl, rfl⟩)
      | (go_at_call 12; refine (refSub_any _ _ _ ha ha2 hb hb2).mono ?_; rintro e w' ⟨rfl, rfl⟩)
      | (go_at_call 14; refine (refMul_any _ _ _ ha ha2 hb hb2).mono ?_; rintro e w' ⟨rfl, rfl⟩)
      | (go_at_call 16; refine (refDiv_any _ _ _ _ _ ha ha2 hb hb2 hc2).mono ?_; rintro e w' ⟨rfl, rfl⟩)
      | (go_at_call 18; refine (refSum_any _ z _ (hr'.out _) (by omega) hzz.out).mono ?_; rintro e w' ⟨rfl, rfl⟩)
      | (go_at_call 20; refine (refWide_any _ _ _ (by omega) (by omega) (by omega) (by omega)).mono ?_; rintro e w' ⟨rfl, rfl⟩)
      | (go_at_call 21; refine (fixCmp_any _ _ _ _ _ ha ha2 hb hb2 hc hc2 hd hd2).mono ?_; rintro e w' ⟨rfl, hbw⟩)
      | (go_at_call 22; refine (refCmp_any _ _ _ _ _ ha ha2 hb hb2 hc hc2 hd hd2).mono ?_; rintro e w' ⟨rfl, rfl⟩))
    go_ret
    exact ⟨rfl, (below_drewN (Below.refl _ _)).trans hbw⟩
  · go_enter Try.func3, Try.ntmps3
    go_wp2_with (go_at_call 8; refine (law2_first _).mono ?_; rintro e w' ⟨rfl, k, rfl⟩)
    go_ret
    exact ⟨rfl, below_drewN (Below.refl _ _)⟩
end Go.Proofs.Ytemjfncfhipjoaa
