import Derived.Test.YtmihpgccdknhfaaDoorRefFix
namespace Go.Proofs.YtmihpgccdknhfaaDoor
open Go.RowKit

theorem cmpv_of {x y r : Int} (h : (x < y ∧ r = -1) ∨ (x = y ∧ r = 0) ∨ (y < x ∧ r = 1)) : r = cmpv x y := by
  rcases h with ⟨h, rfl⟩ | ⟨h, rfl⟩ | ⟨h, rfl⟩
  · exact (cmpv_lt h).symm
  · exact (cmpv_eq h).symm
  · exact (cmpv_gt h).symm

set_option maxHeartbeats 4000000 in
theorem refCmp_walk (a b c d A B C D H L K M p s : Int) (n1 n2 l m : Bool) (w : World) (ha : -9223372036854775808 ≤ a) (ha2 : a ≤ 9223372036854775807) (hb : -9223372036854775808 ≤ b) (hb2 : b ≤ 9223372036854775807) (hc : -9223372036854775808 ≤ c) (hc2 : c ≤ 9223372036854775807) (hd : -9223372036854775808 ≤ d) (hd2 : d ≤ 9223372036854775807)
    (hA : (a.natAbs : Int) = A) (hB : (b.natAbs : Int) = B) (hC : (c.natAbs : Int) = C) (hD : (d.natAbs : Int) = D) (hA0 : 0 ≤ A) (hA1 : A ≤ 9223372036854775808) (hB0 : 0 ≤ B) (hB1 : B ≤ 9223372036854775808) (hC0 : 0 ≤ C) (hC1 : C ≤ 9223372036854775808) (hD0 : 0 ≤ D) (hD1 : D ≤ 9223372036854775808)
    (g1 : hi64 (A * B) = H) (g2 : lo64 (A * B) = L) (g3 : hi64 (C * D) = K) (g4 : lo64 (C * D) = M)
    (H0 : 0 ≤ H) (H1 : H ≤ 18446744073709551615) (L0 : 0 ≤ L) (L1 : L ≤ 18446744073709551615) (K0 : 0 ≤ K) (K1 : K ≤ 18446744073709551615) (M0 : 0 ≤ M) (M1 : M ≤ 18446744073709551615)
    (b1 : (!decide (a < 0) == decide (b < 0)) = n1) (b2 : (!decide (c < 0) == decide (d < 0)) = n2)
    (gl : (L != 0) = l) (gm : (M != 0) = m) (hl : Hid ((l = true → L ≠ 0) ∧ (l = false → L = 0))) (hm : Hid ((m = true → M ≠ 0) ∧ (m = false → M = 0)))
    (hp : Hid ((n1 = true → p = -(H * 18446744073709551616 + L)) ∧ (n1 = false → p = H * 18446744073709551616 + L)))
    (hs : Hid ((n2 = true → s = -(K * 18446744073709551616 + M)) ∧ (n2 = false → s = K * 18446744073709551616 + M))) :
    Calls Tryd.prog 67 #[.int .i64 a, .int .i64 b, .int .i64 c, .int .i64 d] w fun e w' => e = .returned (.int .i64 (cmpv p s)) ∧ w = w' := by
  cases n1 <;> cases n2
  all_goals
    go_enter Tryd.func67, Tryd.ntmps67
    go_wp2_with (first
      | (go_at_call 49; refine (refSize_any _ _ (by omega) (by omega)).mono ?_; rintro e w' ⟨rfl, rfl⟩)
      | (go_at_call 48; refine (refWide_any _ _ _ (by omega) (by omega) (by omega) (by omega)).mono ?_; rintro e w' ⟨rfl, rfl⟩))
    all_goals
      go_ret
      refine ⟨ret_int (cmpv_of ?_), rfl⟩
      have hp := hp.out
      have hs := hs.out
      have hl := hl.out
      have hm := hm.out
      clear b1 b2 g1 g2 g3 g4 hA hB hC hD gl gm
      cases l <;> cases m <;> simp at * <;> omega

theorem refCmp_any (a b c d : Int) (w : World) (ha : -9223372036854775808 ≤ a) (ha2 : a ≤ 9223372036854775807) (hb : -9223372036854775808 ≤ b) (hb2 : b ≤ 9223372036854775807) (hc : -9223372036854775808 ≤ c) (hc2 : c ≤ 9223372036854775807) (hd : -9223372036854775808 ≤ d) (hd2 : d ≤ 9223372036854775807) :
    Calls Tryd.prog 67 #[.int .i64 a, .int .i64 b, .int .i64 c, .int .i64 d] w fun e w' => e = .returned (.int .i64 (cmpv (a * b) (c * d))) ∧ w = w' := by
  obtain ⟨A, hA⟩ : ∃ x : Int, (a.natAbs : Int) = x := ⟨_, rfl⟩
  obtain ⟨B, hB⟩ : ∃ x : Int, (b.natAbs : Int) = x := ⟨_, rfl⟩
  obtain ⟨C, hC⟩ : ∃ x : Int, (c.natAbs : Int) = x := ⟨_, rfl⟩
  obtain ⟨D, hD⟩ : ∃ x : Int, (d.natAbs : Int) = x := ⟨_, rfl⟩
  have m1 := mul_le_half (show 0 ≤ A by omega) (show 0 ≤ B by omega) (show A ≤ 9223372036854775808 by omega) (show B ≤ 9223372036854775808 by omega)
  have m2 := mul_le_half (show 0 ≤ C by omega) (show 0 ≤ D by omega) (show C ≤ 9223372036854775808 by omega) (show D ≤ 9223372036854775808 by omega)
  have s1 := mul_signed hA hB
  have s2 := mul_signed hC hD
  have e1 : A * B = hi64 (A * B) * 18446744073709551616 + lo64 (A * B) := by unfold hi64 lo64; omega
  have e2 : C * D = hi64 (C * D) * 18446744073709551616 + lo64 (C * D) := by unfold hi64 lo64; omega
  refine refCmp_walk a b c d A B C D _ _ _ _ (a * b) (c * d) _ _ _ _ w ha ha2 hb hb2 hc hc2 hd hd2 hA hB hC hD (by omega) (by omega) (by omega) (by omega) (by omega) (by omega) (by omega) (by omega) rfl rfl rfl rfl
    (by unfold hi64; omega) (by unfold hi64; omega) (by unfold lo64; omega) (by unfold lo64; omega) (by unfold hi64; omega) (by unfold hi64; omega) (by unfold lo64; omega) (by unfold lo64; omega) rfl rfl rfl rfl ?_ ?_ ?_ ?_
  · exact ⟨fun h => by simpa using h, fun h => by simpa using h⟩
  · exact ⟨fun h => by simpa using h, fun h => by simpa using h⟩
  · exact ⟨fun h => by rw [← s1, if_pos h]; omega, fun h => by rw [← s1, if_neg (by rw [h]; simp)]; exact e1⟩
  · exact ⟨fun h => by rw [← s2, if_pos h]; omega, fun h => by rw [← s2, if_neg (by rw [h]; simp)]; exact e2⟩
end Go.Proofs.YtmihpgccdknhfaaDoor
