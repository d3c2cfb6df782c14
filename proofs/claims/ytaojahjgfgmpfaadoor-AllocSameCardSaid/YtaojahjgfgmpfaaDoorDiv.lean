import Derived.Test.YtaojahjgfgmpfaaDoorBits
namespace Go.Proofs.YtaojahjgfgmpfaaDoor
open Go.RowKit

/-- A wide number over one that is above its upper part: the quotient, and what is left. -/
theorem div64_any (hi lo y : Int) (w : World) (h0 : 0 ≤ hi) (h1 : hi < y) (l0 : 0 ≤ lo) (l1 : lo ≤ 18446744073709551615) (hy : y ≤ 18446744073709551615) :
    Calls Tryd.prog 87 #[.int .u64 hi, .int .u64 lo, .int .u64 y] w fun e w' => e = .returned (.tuple #[.int .u64 ((hi * 18446744073709551616 + lo) / y), .int .u64 ((hi * 18446744073709551616 + lo) % y)]) ∧ ∃ n, w' = w.drewN n := by
  have y1 : 0 < y := by omega
  by_cases hz : hi = 0
  · subst hz
    rw [Int.zero_mul, Int.zero_add]
    exact div64_zero lo y w y1 l0 l1 hy
  · obtain ⟨s, hs⟩ : ∃ s : Nat, (s : Int) = 64 - Lib.bitLen y.toNat := ⟨64 - Lib.bitLen y.toNat, by have := bitLen_spec y.toNat (by omega) (by omega); omega⟩
    obtain ⟨s63, Y0, Y1⟩ := lead_norm y1 hy hs
    have hl := lead_any y w y1 hy
    rw [← hs] at hl
    have e1 : IntKind.u64.wrap (y * 2 ^ s) = y * 2 ^ s := by rw [IntKind.wrap_u64]; omega
    have e2 := norm_or h0 h1 l0 l1 s63 Y1
    obtain ⟨e3, L0, L1⟩ := norm_low (lo := lo) s63
    have e4 := norm_all (hi := hi) (lo := lo) (s := s)
    obtain ⟨u0, uY⟩ := norm_lt h0 h1 l0 l1 s63 Y1
    have hP := pow_pos' s
    obtain ⟨f1, f2⟩ := shift_div (X := hi * 18446744073709551616 + lo) (y := y) hP
    rw [f1, f2, e4]
    clear f1 f2 e4
    obtain ⟨Y, hYd⟩ : ∃ x, y * 2 ^ s = x := ⟨_, rfl⟩
    obtain ⟨u, hud⟩ : ∃ x, hi * 2 ^ s + lo / 2 ^ (64 - s) = x := ⟨_, rfl⟩
    obtain ⟨L, hLd⟩ : ∃ x, lo * 2 ^ s - lo / 2 ^ (64 - s) * 18446744073709551616 = x := ⟨_, rfl⟩
    replace e1 := e1.trans hYd
    replace e2 := e2.trans hud
    replace e3 := e3.trans hLd
    rw [hYd] at Y0 Y1 uY
    rw [hud] at u0 uY
    rw [hLd] at L0 L1
    rw [hYd, hud, hLd]
    clear hYd hud hLd
    obtain ⟨y1v, hy1⟩ : ∃ x, Y / 4294967296 = x := ⟨_, rfl⟩
    obtain ⟨y0v, hy0⟩ : ∃ x, Y % 4294967296 = x := ⟨_, rfl⟩
    obtain ⟨n1, hn1⟩ : ∃ x, L / 4294967296 = x := ⟨_, rfl⟩
    obtain ⟨n0, hn0⟩ : ∃ x, L % 4294967296 = x := ⟨_, rfl⟩
    have hYs : Y = y1v * 4294967296 + y0v := by omega
    have hLs : L = n1 * 4294967296 + n0 := by omega
    have N0 : 0 ≤ u * 4294967296 + n1 := by omega
    obtain ⟨q0, q1, q2, q3, q4, q5, q6⟩ := digit_start (u := u) (n := n1) (y1 := y1v) (y0 := y0v) u0 (by omega) (by omega) (by omega) (by omega) (by omega) (by omega) (by omega)
    have V0 := Int.emod_nonneg (u * 4294967296 + n1) (show Y ≠ 0 by omega)
    have V1 := Int.emod_lt_of_pos (u * 4294967296 + n1) (show 0 < Y by omega)
    obtain ⟨D1a, D1b⟩ := quo_small (N := u * 4294967296 + n1) (Y := Y) (B := 4294967296) (by omega) N0 (by omega)
    have x1 := wrap_rest (u := u) (n1 := n1) (Y := Y) (by omega) (by omega) rfl
    obtain ⟨t1, t2⟩ := two_digits (u := u) (n1 := n1) (n0 := n0) (Y := Y) (by omega)
    rw [hLs, t1, t2]
    clear t1 t2
    obtain ⟨D1, hD1⟩ : ∃ x, (u * 4294967296 + n1) / Y = x := ⟨_, rfl⟩
    obtain ⟨V, hV⟩ : ∃ x, (u * 4294967296 + n1) % Y = x := ⟨_, rfl⟩
    rw [hD1] at D1a D1b x1 ⊢
    rw [hV] at V0 V1 x1 ⊢
    have M0 : 0 ≤ V * 4294967296 + n0 := by omega
    obtain ⟨p0, p1, p2, p3, p4, p5, p6⟩ := digit_start (u := V) (n := n0) (y1 := y1v) (y0 := y0v) V0 (by omega) (by omega) (by omega) (by omega) (by omega) (by omega) (by omega)
    have X0 := Int.emod_nonneg (V * 4294967296 + n0) (show Y ≠ 0 by omega)
    have X1 := Int.emod_lt_of_pos (V * 4294967296 + n0) (show 0 < Y by omega)
    obtain ⟨D0a, D0b⟩ := quo_small (N := V * 4294967296 + n0) (Y := Y) (B := 4294967296) (by omega) M0 (by omega)
    have x2 := wrap_rest (u := V) (n1 := n0) (Y := Y) (by omega) (by omega) rfl
    rw [← hYs] at q6 p6
    refine (div64_walk hi lo y Y u L y1v y0v n1 n0 _ _ D1 V _ _ _ _ s w (by omega) h1 s63 hl e1 e2 e3 hy1 ((and_low32 (by omega) Y1).trans hy0) hn1 ((and_low32 L0 L1).trans hn0)
      rfl rfl u0 (by omega) q0 q1 q2 q3 q4 q5 (by omega) (by omega) (by omega) (by omega) (by omega) (by omega) (by omega) (by omega)
      hYs uY Y1 q6 rfl hD1.symm (wrap3.trans x1) V0 V1 rfl rfl p0 p1 p2 p3 p4 p5 p6 rfl rfl (wrap3.trans x2) X0 (by omega) D1a D1b D0a D0b).mono ?_
    rintro e w' ⟨rfl, rfl⟩
    exact ⟨rfl, 0, rfl⟩
end Go.Proofs.YtaojahjgfgmpfaaDoor
