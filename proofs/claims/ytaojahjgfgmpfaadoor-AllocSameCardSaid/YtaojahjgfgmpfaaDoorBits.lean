/-
  What math/bits answers: the length of a number, its leading zeros, a wide number over one.
-/
import Derived.Test.YtaojahjgfgmpfaaDoorProg
import Derived.Test.YtaojahjgfgmpfaaDoorDivMath
import Derived.Test.YtaojahjgfgmpfaaDoorRet
import Derived.WalkKit
import Derived.WalkSpells
import Derived.WalkLawsBesides
import Derived.Outline
import Derived.Below
import Derived.Deep.QuietTactic
import Derived.BigQuiet
import Derived.LoopTactic
import Derived.Lib.Walk
import Derived.Lib.Strings
import Derived.Lib.Slices
import Derived.Lib.Small
namespace Go.Proofs.YtaojahjgfgmpfaaDoor
open Go.RowKit

set_option maxHeartbeats 4000000 in
set_option maxRecDepth 100000 in
theorem len64_any (x : Int) (w : World) (h0 : 0 ≤ x) (h1 : x ≤ 18446744073709551615) :
    Calls Tryd.prog 93 #[.int .u64 x] w fun e w' => e = .returned (.int .i64 (Lib.bitLen x.toNat)) ∧ w = w' := by
  have hsz := Lib.len8tab_size
  go_enter Tryd.func93, Tryd.ntmps93
  go_wp2
  all_goals (go_ret; refine ⟨congrArg Ending.returned (congrArg (Value.int IntKind.i64) ?_), rfl⟩)
  · exact tab_end (c := 56) _ _ (by omega) (by rw [show (x / 4294967296 / 65536 / 256).toNat = x.toNat / 72057594037927936 from by omega]; exact Lib.bitLen_shift56 _ (by omega) (by omega))
  · exact tab_end (c := 48) _ _ (by omega) (by rw [show (x / 4294967296 / 65536).toNat = x.toNat / 281474976710656 from by omega]; exact Lib.bitLen_shift48 _ (by omega) (by omega))
  · exact tab_end (c := 40) _ _ (by omega) (by rw [show (x / 4294967296 / 256).toNat = x.toNat / 1099511627776 from by omega]; exact Lib.bitLen_shift40 _ (by omega) (by omega))
  · exact tab_end (c := 32) _ _ (by omega) (by rw [show (x / 4294967296).toNat = x.toNat / 4294967296 from by omega]; exact Lib.bitLen_shift32 _ (by omega) (by omega))
  · exact tab_end (c := 24) _ _ (by omega) (by rw [show (x / 65536 / 256).toNat = x.toNat / 16777216 from by omega]; exact Lib.bitLen_shift24 _ (by omega) (by omega))
  · exact tab_end (c := 16) _ _ (by omega) (by rw [show (x / 65536).toNat = x.toNat / 65536 from by omega]; exact Lib.bitLen_shift16 _ (by omega) (by omega))
  · exact tab_end (c := 8) _ _ (by omega) (by rw [show (x / 256).toNat = x.toNat / 256 from by omega]; exact Lib.bitLen_shift8 _ (by omega) (by omega))
  · exact tab_end0 _ _ rfl

theorem lead_any (x : Int) (w : World) (h0 : 0 < x) (h1 : x ≤ 18446744073709551615) :
    Calls Tryd.prog 91 #[.int .u64 x] w fun e w' => e = .returned (.int .i64 (64 - Lib.bitLen x.toNat)) ∧ w = w' := by
  have hb := bitLen_spec x.toNat (by omega) (by omega)
  have hb1 := hb.1
  have hb2 := hb.2.1
  clear hb
  go_enter Tryd.func91, Tryd.ntmps91
  go_wp2_with (go_at_call 93; refine (len64_any _ _ (by omega) (by omega)).mono ?_; rintro e w' ⟨rfl, rfl⟩)
  go_ret
  exact ⟨rfl, rfl⟩

/-- the guess of a digit, and what it leaves. -/
def Digit (u y1 Y N : Int) (q r : Value) : Prop := ∃ Q R : Int, q = .int .u64 Q ∧ r = .int .u64 R ∧ 0 ≤ Q ∧ Q ≤ 8589934591 ∧ R = u - Q * y1 ∧ 0 ≤ R ∧ R < 4294967296 ∧ N / Y ≤ Q

set_option maxHeartbeats 4000000 in
theorem div64_zero (lo y : Int) (w : World) (h1 : 0 < y) (l0 : 0 ≤ lo) (l1 : lo ≤ 18446744073709551615) (hy : y ≤ 18446744073709551615) :
    Calls Tryd.prog 87 #[.int .u64 0, .int .u64 lo, .int .u64 y] w fun e w' => e = .returned (.tuple #[.int .u64 (lo / y), .int .u64 (lo % y)]) ∧ ∃ n, w' = w.drewN n := by
  have y2 : y ≠ 0 := by omega
  have y3 : ¬ y ≤ 0 := by omega
  go_enter Tryd.func87, Tryd.ntmps87
  go_wp2
  go_quiet (fail)
  go_wp2
  go_ret2
  exact ⟨ret_ii rfl rfl, _, rfl⟩

set_option maxHeartbeats 16000000 in
theorem div64_walk (hi lo y Y u L y1 y0 n1 n0 q r D1 V p t D0 X : Int) (s : Nat) (w : World) (h0 : 0 < hi) (h1 : hi < y) (hs : s ≤ 63)
    (hL : Hid (Calls Tryd.prog 91 #[.int .u64 y] w fun e w' => e = .returned (.int .i64 s) ∧ w = w'))
    (e1 : IntKind.u64.wrap (y * 2 ^ s) = Y) (e2 : bits .or .u64 (IntKind.u64.wrap (hi * 2 ^ s)) (lo / 2 ^ (64 - s)) = u) (e3 : IntKind.u64.wrap (lo * 2 ^ s) = L)
    (g1 : Y / 4294967296 = y1) (g2 : bits .and .u64 Y 4294967295 = y0) (g3 : L / 4294967296 = n1) (g4 : bits .and .u64 L 4294967295 = n0)
    (g5 : u / y1 = q) (g6 : u - q * y1 = r)
    (u0 : 0 ≤ u) (u1 : u ≤ 18446744073709551615) (q0 : 0 ≤ q) (q1 : q ≤ 8589934591) (r0 : 0 ≤ r) (r1 : r < 4294967296) (m0 : 0 ≤ q * y1) (m1 : q * y1 ≤ 18446744073709551615)
    (a1 : 2147483648 ≤ y1) (a2 : y1 < 4294967296) (b1 : 0 ≤ y0) (b2 : y0 < 4294967296) (c1 : 0 ≤ n1) (c2 : n1 < 4294967296) (c3 : 0 ≤ n0) (c4 : n0 < 4294967296)
    (hY : Hid (Y = y1 * 4294967296 + y0)) (uY : u < Y) (y64 : Y < 18446744073709551616) (hq : Hid ((u * 4294967296 + n1) / Y ≤ q)) (hr : Hid (u - q * y1 = r))
    (hD1 : Hid (D1 = (u * 4294967296 + n1) / Y)) (v1 : IntKind.u64.wrap (IntKind.u64.wrap (IntKind.u64.wrap (u * 4294967296) + n1) - IntKind.u64.wrap (D1 * Y)) = V)
    (V0 : 0 ≤ V) (VY : V < Y) (v2 : V / y1 = p) (v3 : V - p * y1 = t) (p0 : 0 ≤ p) (p1 : p ≤ 8589934591) (t0 : 0 ≤ t) (t1 : t < 4294967296) (k0 : 0 ≤ p * y1) (k1 : p * y1 ≤ 18446744073709551615)
    (hp : Hid ((V * 4294967296 + n0) / Y ≤ p)) (ht : Hid (V - p * y1 = t)) (hD0 : Hid (D0 = (V * 4294967296 + n0) / Y))
    (x1 : IntKind.u64.wrap (IntKind.u64.wrap (IntKind.u64.wrap (V * 4294967296) + n0) - IntKind.u64.wrap (D0 * Y)) = X) (_X0 : 0 ≤ X) (_X1 : X ≤ 18446744073709551615)
    (z0 : 0 ≤ D1) (z1 : D1 < 4294967296) (z2 : 0 ≤ D0) (z3 : D0 < 4294967296) :
    Calls Tryd.prog 87 #[.int .u64 hi, .int .u64 lo, .int .u64 y] w fun e w' => e = .returned (.tuple #[.int .u64 (D1 * 4294967296 + D0), .int .u64 (X / 2 ^ s)]) ∧ w = w' := by
  go_enter Tryd.func87, Tryd.ntmps87
  go_wp2_with (go_at_call 91; refine hL.out.mono ?_; rintro e w' ⟨rfl, rfl⟩)
  go_loop [15, 16] (fun a b => Digit u y1 Y (u * 4294967296 + n1) a b) (fun a _ => (intOf a).toNat)
  case atStart => exact ⟨q, r, by simp [g5], rfl, q0, q1, hr.out.symm, r0, r1, hq.out⟩
  case round =>
    clear g5 g6
    obtain ⟨Q, R, rfl, rfl, Q0, Q1, hR, R0, R1, hQ⟩ := hrel
    replace hR := hidden hR
    replace hQ := hidden hQ
    by_cases hA : 4294967296 ≤ Q ∨ (Q < 4294967296 ∧ 4294967296 * R + n1 < Q * y0)
    · have hgt : u * 4294967296 + n1 < Q * Y := by
        rcases hA with hA | ⟨_, hA⟩
        · exact digit_over hA uY u0 (by assumption)
        · rw [hY.out]; exact digit_test.1 (by rw [hR.out] at hA; exact hA)
      have hQ' := hidden (digit_less (q := Q) (by omega) rfl hgt)
      have hQp : 0 < Q := by
        rcases hA with hA | ⟨_, hA⟩
        · omega
        · by_cases h : Q = 0
          · subst h; omega
          · omega
      have hR' := hidden (show R + y1 = u - (Q - 1) * y1 by rw [hR.out]; grind)
      clear hgt
      by_cases hb : 4294967296 ≤ R + y1
      · have hdone : Q - 1 = D1 := (digit_done (by omega) rfl hQ'.out (by rw [hY.out]; exact digit_break hb hR'.out (by omega) (by have := hY.out; omega) (by omega) b1 b2 (by assumption))).trans hD1.out.symm
        rcases hA with hA | ⟨hA, hB⟩
        · clear hR hQ hQ' hR'
          go_wp2_with fail
          go_loop [18, 16] (fun a b => Digit V y1 Y (V * 4294967296 + n0) a b) (fun a _ => (intOf a).toNat)
          case atStart => exact ⟨p, t, by simp, rfl, p0, p1, ht.out.symm, t0, t1, hp.out⟩
          case round =>
            obtain ⟨Q, R, rfl, rfl, Q0, Q1, hR, R0, R1, hQ⟩ := hrel
            replace hR := hidden hR
            replace hQ := hidden hQ
            by_cases hA : 4294967296 ≤ Q ∨ (Q < 4294967296 ∧ 4294967296 * R + n0 < Q * y0)
            · have hgt : V * 4294967296 + n0 < Q * Y := by
                rcases hA with hA | ⟨_, hA⟩
                · exact digit_over hA VY V0 (by assumption)
                · rw [hY.out]; exact digit_test.1 (by rw [hR.out] at hA; exact hA)
              have hQ' := hidden (digit_less (q := Q) (by omega) rfl hgt)
              have hQp : 0 < Q := by
                rcases hA with hA | ⟨_, hA⟩
                · omega
                · by_cases h : Q = 0
                  · subst h; omega
                  · omega
              have hR' := hidden (show R + y1 = V - (Q - 1) * y1 by rw [hR.out]; grind)
              clear hgt
              by_cases hb : 4294967296 ≤ R + y1
              · have hdone : Q - 1 = D0 := (digit_done (by omega) rfl hQ'.out (by rw [hY.out]; exact digit_break hb hR'.out (by omega) (by have := hY.out; omega) (by omega) b1 b2 (by assumption))).trans hD0.out.symm
                rcases hA with hA | ⟨hA, hB⟩
                · clear hR hQ hQ' hR'
                  go_wp2_with fail
                  go_ret2
                  exact ⟨ret_ii rfl rfl, rfl⟩
                · obtain ⟨f1, f2⟩ := mul_bd32 Q0 hA b1 b2
                  clear hR hQ hQ' hR'
                  go_wp2_with fail
                  go_ret2
                  exact ⟨ret_ii rfl rfl, rfl⟩
              · rcases hA with hA | ⟨hA, hB⟩
                · go_wp2
                  go_round
                  case rel => exact ⟨Q - 1, R + y1, rfl, rfl, by omega, by omega, hR'.out, by omega, by omega, hQ'.out⟩
                  case measure => simp [intOf]; omega
                · obtain ⟨f1, f2⟩ := mul_bd32 Q0 hA b1 b2
                  go_wp2
                  go_round
                  case rel => exact ⟨Q - 1, R + y1, rfl, rfl, by omega, by omega, hR'.out, by omega, by omega, hQ'.out⟩
                  case measure => simp [intOf]; omega
            · have hle : Q * Y ≤ V * 4294967296 + n0 := by
                apply Int.not_lt.1
                intro h
                apply hA
                by_cases h32 : 4294967296 ≤ Q
                · exact .inl h32
                · refine .inr ⟨by omega, ?_⟩
                  rw [hR.out]
                  exact digit_test.2 (by rw [hY.out] at h; exact h)
              obtain rfl : Q = D0 := (digit_done (by omega) rfl hQ.out hle).trans hD0.out.symm
              obtain ⟨hA1, hA2⟩ : Q < 4294967296 ∧ Q * y0 ≤ 4294967296 * R + n0 := by omega
              obtain ⟨f1, f2⟩ := mul_bd32 Q0 hA1 b1 b2
              clear hle hA hR hQ
              go_wp2_with fail
              go_ret2
              exact ⟨ret_ii rfl rfl, rfl⟩
        · obtain ⟨f1, f2⟩ := mul_bd32 Q0 hA b1 b2
          clear hR hQ hQ' hR'
          go_wp2_with fail
          go_loop [18, 16] (fun a b => Digit V y1 Y (V * 4294967296 + n0) a b) (fun a _ => (intOf a).toNat)
          case atStart => exact ⟨p, t, by simp, rfl, p0, p1, ht.out.symm, t0, t1, hp.out⟩
          case round =>
            obtain ⟨Q, R, rfl, rfl, Q0, Q1, hR, R0, R1, hQ⟩ := hrel
            replace hR := hidden hR
            replace hQ := hidden hQ
            by_cases hA : 4294967296 ≤ Q ∨ (Q < 4294967296 ∧ 4294967296 * R + n0 < Q * y0)
            · have hgt : V * 4294967296 + n0 < Q * Y := by
                rcases hA with hA | ⟨_, hA⟩
                · exact digit_over hA VY V0 (by assumption)
                · rw [hY.out]; exact digit_test.1 (by rw [hR.out] at hA; exact hA)
              have hQ' := hidden (digit_less (q := Q) (by omega) rfl hgt)
              have hQp : 0 < Q := by
                rcases hA with hA | ⟨_, hA⟩
                · omega
                · by_cases h : Q = 0
                  · subst h; omega
                  · omega
              have hR' := hidden (show R + y1 = V - (Q - 1) * y1 by rw [hR.out]; grind)
              clear hgt
              by_cases hb : 4294967296 ≤ R + y1
              · have hdone : Q - 1 = D0 := (digit_done (by omega) rfl hQ'.out (by rw [hY.out]; exact digit_break hb hR'.out (by omega) (by have := hY.out; omega) (by omega) b1 b2 (by assumption))).trans hD0.out.symm
                rcases hA with hA | ⟨hA, hB⟩
                · clear hR hQ hQ' hR'
                  go_wp2_with fail
                  go_ret2
                  exact ⟨ret_ii rfl rfl, rfl⟩
                · obtain ⟨f1, f2⟩ := mul_bd32 Q0 hA b1 b2
                  clear hR hQ hQ' hR'
                  go_wp2_with fail
                  go_ret2
                  exact ⟨ret_ii rfl rfl, rfl⟩
              · rcases hA with hA | ⟨hA, hB⟩
                · go_wp2
                  go_round
                  case rel => exact ⟨Q - 1, R + y1, rfl, rfl, by omega, by omega, hR'.out, by omega, by omega, hQ'.out⟩
                  case measure => simp [intOf]; omega
                · obtain ⟨f1, f2⟩ := mul_bd32 Q0 hA b1 b2
                  go_wp2
                  go_round
                  case rel => exact ⟨Q - 1, R + y1, rfl, rfl, by omega, by omega, hR'.out, by omega, by omega, hQ'.out⟩
                  case measure => simp [intOf]; omega
            · have hle : Q * Y ≤ V * 4294967296 + n0 := by
                apply Int.not_lt.1
                intro h
                apply hA
                by_cases h32 : 4294967296 ≤ Q
                · exact .inl h32
                · refine .inr ⟨by omega, ?_⟩
                  rw [hR.out]
                  exact digit_test.2 (by rw [hY.out] at h; exact h)
              obtain rfl : Q = D0 := (digit_done (by omega) rfl hQ.out hle).trans hD0.out.symm
              obtain ⟨hA1, hA2⟩ : Q < 4294967296 ∧ Q * y0 ≤ 4294967296 * R + n0 := by omega
              obtain ⟨f1, f2⟩ := mul_bd32 Q0 hA1 b1 b2
              clear hle hA hR hQ
              go_wp2_with fail
              go_ret2
              exact ⟨ret_ii rfl rfl, rfl⟩
      · rcases hA with hA | ⟨hA, hB⟩
        · go_wp2
          go_round
          case rel => exact ⟨Q - 1, R + y1, rfl, rfl, by omega, by omega, hR'.out, by omega, by omega, hQ'.out⟩
          case measure => simp [intOf]; omega
        · obtain ⟨f1, f2⟩ := mul_bd32 Q0 hA b1 b2
          go_wp2
          go_round
          case rel => exact ⟨Q - 1, R + y1, rfl, rfl, by omega, by omega, hR'.out, by omega, by omega, hQ'.out⟩
          case measure => simp [intOf]; omega
    · have hle : Q * Y ≤ u * 4294967296 + n1 := by
        apply Int.not_lt.1
        intro h
        apply hA
        by_cases h32 : 4294967296 ≤ Q
        · exact .inl h32
        · refine .inr ⟨by omega, ?_⟩
          rw [hR.out]
          exact digit_test.2 (by rw [hY.out] at h; exact h)
      obtain rfl : Q = D1 := (digit_done (by omega) rfl hQ.out hle).trans hD1.out.symm
      obtain ⟨hA1, hA2⟩ : Q < 4294967296 ∧ Q * y0 ≤ 4294967296 * R + n1 := by omega
      obtain ⟨f1, f2⟩ := mul_bd32 Q0 hA1 b1 b2
      clear hle hA hR hQ
      go_wp2_with fail
      go_loop [18, 16] (fun a b => Digit V y1 Y (V * 4294967296 + n0) a b) (fun a _ => (intOf a).toNat)
      case atStart => exact ⟨p, t, by simp, rfl, p0, p1, ht.out.symm, t0, t1, hp.out⟩
      case round =>
        obtain ⟨Q, R, rfl, rfl, Q0, Q1, hR, R0, R1, hQ⟩ := hrel
        replace hR := hidden hR
        replace hQ := hidden hQ
        by_cases hA : 4294967296 ≤ Q ∨ (Q < 4294967296 ∧ 4294967296 * R + n0 < Q * y0)
        · have hgt : V * 4294967296 + n0 < Q * Y := by
            rcases hA with hA | ⟨_, hA⟩
            · exact digit_over hA VY V0 (by assumption)
            · rw [hY.out]; exact digit_test.1 (by rw [hR.out] at hA; exact hA)
          have hQ' := hidden (digit_less (q := Q) (by omega) rfl hgt)
          have hQp : 0 < Q := by
            rcases hA with hA | ⟨_, hA⟩
            · omega
            · by_cases h : Q = 0
              · subst h; omega
              · omega
          have hR' := hidden (show R + y1 = V - (Q - 1) * y1 by rw [hR.out]; grind)
          clear hgt
          by_cases hb : 4294967296 ≤ R + y1
          · have hdone : Q - 1 = D0 := (digit_done (by omega) rfl hQ'.out (by rw [hY.out]; exact digit_break hb hR'.out (by omega) (by have := hY.out; omega) (by omega) b1 b2 (by assumption))).trans hD0.out.symm
            rcases hA with hA | ⟨hA, hB⟩
            · clear hR hQ hQ' hR'
              go_wp2_with fail
              go_ret2
              exact ⟨ret_ii rfl rfl, rfl⟩
            · obtain ⟨f1, f2⟩ := mul_bd32 Q0 hA b1 b2
              clear hR hQ hQ' hR'
              go_wp2_with fail
              go_ret2
              exact ⟨ret_ii rfl rfl, rfl⟩
          · rcases hA with hA | ⟨hA, hB⟩
            · go_wp2
              go_round
              case rel => exact ⟨Q - 1, R + y1, rfl, rfl, by omega, by omega, hR'.out, by omega, by omega, hQ'.out⟩
              case measure => simp [intOf]; omega
            · obtain ⟨f1, f2⟩ := mul_bd32 Q0 hA b1 b2
              go_wp2
              go_round
              case rel => exact ⟨Q - 1, R + y1, rfl, rfl, by omega, by omega, hR'.out, by omega, by omega, hQ'.out⟩
              case measure => simp [intOf]; omega
        · have hle : Q * Y ≤ V * 4294967296 + n0 := by
            apply Int.not_lt.1
            intro h
            apply hA
            by_cases h32 : 4294967296 ≤ Q
            · exact .inl h32
            · refine .inr ⟨by omega, ?_⟩
              rw [hR.out]
              exact digit_test.2 (by rw [hY.out] at h; exact h)
          obtain rfl : Q = D0 := (digit_done (by omega) rfl hQ.out hle).trans hD0.out.symm
          obtain ⟨hA1, hA2⟩ : Q < 4294967296 ∧ Q * y0 ≤ 4294967296 * R + n0 := by omega
          obtain ⟨f1, f2⟩ := mul_bd32 Q0 hA1 b1 b2
          clear hle hA hR hQ
          go_wp2_with fail
          go_ret2
          exact ⟨ret_ii rfl rfl, rfl⟩
end Go.Proofs.YtaojahjgfgmpfaaDoor
