/-
  What math/bits answers: the length of a number, its leading zeros, a wide number over one.
  What each call of package fix answers.
  What Sum answers, and how two products stand.
-/
import Derived.Test.YtlanggdmdpjfbaaDoorProg
import Derived.Test.YtlanggdmdpjfbaaDoorFixMath
import Derived.Test.YtlanggdmdpjfbaaDoorRet
import Derived.WalkKit
import Derived.WalkSpells
import Derived.WalkLawsBesides
import Derived.Outline
import Derived.Below
import Derived.Deep.QuietTactic
import Derived.BigQuiet
import Derived.LoopTactic
import Derived.Lib.Walk
import Derived.Lib.Strings
import Derived.Lib.Slices
import Derived.Lib.Small
import Derived.Test.YtlanggdmdpjfbaaDoorBase
namespace Go.Proofs.YtlanggdmdpjfbaaDoor
open Go.RowKit

set_option maxHeartbeats 4000000 in
set_option maxRecDepth 100000 in
theorem len64_any (x : Int) (w : World) (h0 : 0 ≤ x) (h1 : x ≤ 18446744073709551615) :
    Calls Tryd.prog 79 #[.int .u64 x] w fun e w' => e = .returned (.int .i64 (Lib.bitLen x.toNat)) ∧ w = w' := by
  have hsz := Lib.len8tab_size
  go_enter Tryd.func79, Tryd.ntmps79
  go_wp2
  all_goals (go_ret; refine ⟨congrArg Ending.returned (congrArg (Value.int IntKind.i64) ?_), rfl⟩)
  · exact tab_end (c := 56) _ _ (by omega) (by rw [show (x / 4294967296 / 65536 / 256).toNat = x.toNat / 72057594037927936 from by omega]; exact Lib.bitLen_shift56 _ (by omega) (by omega))
  · exact tab_end (c := 48) _ _ (by omega) (by rw [show (x / 4294967296 / 65536).toNat = x.toNat / 281474976710656 from by omega]; exact Lib.bitLen_shift48 _ (by omega) (by omega))
  · exact tab_end (c := 40) _ _ (by omega) (by rw [show (x / 4294967296 / 256).toNat = x.toNat / 1099511627776 from by omega]; exact Lib.bitLen_shift40 _ (by omega) (by omega))
  · exact tab_end (c := 32) _ _ (by omega) (by rw [show (x / 4294967296).toNat = x.toNat / 4294967296 from by omega]; exact Lib.bitLen_shift32 _ (by omega) (by omega))
  · exact tab_end (c := 24) _ _ (by omega) (by rw [show (x / 65536 / 256).toNat = x.toNat / 16777216 from by omega]; exact Lib.bitLen_shift24 _ (by omega) (by omega))
  · exact tab_end (c := 16) _ _ (by omega) (by rw [show (x / 65536).toNat = x.toNat / 65536 from by omega]; exact Lib.bitLen_shift16 _ (by omega) (by omega))
  · exact tab_end (c := 8) _ _ (by omega) (by rw [show (x / 256).toNat = x.toNat / 256 from by omega]; exact Lib.bitLen_shift8 _ (by omega) (by omega))
  · exact tab_end0 _ _ rfl

theorem lead_any (x : Int) (w : World) (h0 : 0 < x) (h1 : x ≤ 18446744073709551615) :
    Calls Tryd.prog 76 #[.int .u64 x] w fun e w' => e = .returned (.int .i64 (64 - Lib.bitLen x.toNat)) ∧ w = w' := by
  have hb := bitLen_spec x.toNat (by omega) (by omega)
  have hb1 := hb.1
  have hb2 := hb.2.1
  clear hb
  go_enter Tryd.func76, Tryd.ntmps76
  go_wp2_with (go_at_call 79; refine (len64_any _ _ (by omega) (by omega)).mono ?_; rintro e w' ⟨rfl, rfl⟩)
  go_ret
  exact ⟨rfl, rfl⟩

/-- the guess of a digit, and what it leaves. -/
def Digit (u y1 Y N : Int) (q r : Value) : Prop := ∃ Q R : Int, q = .int .u64 Q ∧ r = .int .u64 R ∧ 0 ≤ Q ∧ Q ≤ 8589934591 ∧ R = u - Q * y1 ∧ 0 ≤ R ∧ R < 4294967296 ∧ N / Y ≤ Q

set_option maxHeartbeats 4000000 in
theorem div64_zero (lo y : Int) (w : World) (h1 : 0 < y) (l0 : 0 ≤ lo) (l1 : lo ≤ 18446744073709551615) (hy : y ≤ 18446744073709551615) :
    Calls Tryd.prog 71 #[.int .u64 0, .int .u64 lo, .int .u64 y] w fun e w' => e = .returned (.tuple #[.int .u64 (lo / y), .int .u64 (lo % y)]) ∧ ∃ n, w' = w.drewN n := by
  have y2 : y ≠ 0 := by omega
  have y3 : ¬ y ≤ 0 := by omega
  go_enter Tryd.func71, Tryd.ntmps71
  go_wp2
  go_quiet (fail)
  go_wp2
  go_ret2
  exact ⟨ret_ii rfl rfl, _, rfl⟩

set_option maxHeartbeats 16000000 in
theorem div64_walk (hi lo y Y u L y1 y0 n1 n0 q r D1 V p t D0 X : Int) (s : Nat) (w : World) (h0 : 0 < hi) (h1 : hi < y) (hs : s ≤ 63)
    (hL : Hid (Calls Tryd.prog 76 #[.int .u64 y] w fun e w' => e = .returned (.int .i64 s) ∧ w = w'))
    (e1 : IntKind.u64.wrap (y * 2 ^ s) = Y) (e2 : bits .or .u64 (IntKind.u64.wrap (hi * 2 ^ s)) (lo / 2 ^ (64 - s)) = u) (e3 : IntKind.u64.wrap (lo * 2 ^ s) = L)
    (g1 : Y / 4294967296 = y1) (g2 : bits .and .u64 Y 4294967295 = y0) (g3 : L / 4294967296 = n1) (g4 : bits .and .u64 L 4294967295 = n0)
    (g5 : u / y1 = q) (g6 : u - q * y1 = r)
    (u0 : 0 ≤ u) (u1 : u ≤ 18446744073709551615) (q0 : 0 ≤ q) (q1 : q ≤ 8589934591) (r0 : 0 ≤ r) (r1 : r < 4294967296) (m0 : 0 ≤ q * y1) (m1 : q * y1 ≤ 18446744073709551615)
    (a1 : 2147483648 ≤ y1) (a2 : y1 < 4294967296) (b1 : 0 ≤ y0) (b2 : y0 < 4294967296) (c1 : 0 ≤ n1) (c2 : n1 < 4294967296) (c3 : 0 ≤ n0) (c4 : n0 < 4294967296)
    (hY : Hid (Y = y1 * 4294967296 + y0)) (uY : u < Y) (y64 : Y < 18446744073709551616) (hq : Hid ((u * 4294967296 + n1) / Y ≤ q)) (hr : Hid (u - q * y1 = r))
    (hD1 : Hid (D1 = (u * 4294967296 + n1) / Y)) (v1 : IntKind.u64.wrap (IntKind.u64.wrap (IntKind.u64.wrap (u * 4294967296) + n1) - IntKind.u64.wrap (D1 * Y)) = V)
    (V0 : 0 ≤ V) (VY : V < Y) (v2 : V / y1 = p) (v3 : V - p * y1 = t) (p0 : 0 ≤ p) (p1 : p ≤ 8589934591) (t0 : 0 ≤ t) (t1 : t < 4294967296) (k0 : 0 ≤ p * y1) (k1 : p * y1 ≤ 18446744073709551615)
    (hp : Hid ((V * 4294967296 + n0) / Y ≤ p)) (ht : Hid (V - p * y1 = t)) (hD0 : Hid (D0 = (V * 4294967296 + n0) / Y))
    (x1 : IntKind.u64.wrap (IntKind.u64.wrap (IntKind.u64.wrap (V * 4294967296) + n0) - IntKind.u64.wrap (D0 * Y)) = X) (_X0 : 0 ≤ X) (_X1 : X ≤ 18446744073709551615)
    (z0 : 0 ≤ D1) (z1 : D1 < 4294967296) (z2 : 0 ≤ D0) (z3 : D0 < 4294967296) :
    Calls Tryd.prog 71 #[.int .u64 hi, .int .u64 lo, .int .u64 y] w fun e w' => e = .returned (.tuple #[.int .u64 (D1 * 4294967296 + D0), .int .u64 (X / 2 ^ s)]) ∧ w = w' := by
  go_enter Tryd.func71, Tryd.ntmps71
  go_wp2_with (go_at_call 76; refine hL.out.mono ?_; rintro e w' ⟨rfl, rfl⟩)
  go_loop [15, 16] (fun a b => Digit u y1 Y (u * 4294967296 + n1) a b) (fun a _ => (intOf a).toNat)
  case atStart => exact ⟨q, r, by simp [g5], rfl, q0, q1, hr.out.symm, r0, r1, hq.out⟩
  case round =>
    clear g5 g6
    obtain ⟨Q, R, rfl, rfl, Q0, Q1, hR, R0, R1, hQ⟩ := hrel
    replace hR := hidden hR
    replace hQ := hidden hQ
    by_cases hA : 4294967296 ≤ Q ∨ (Q < 4294967296 ∧ 4294967296 * R + n1 < Q * y0)
    · have hgt : u * 4294967296 + n1 < Q * Y := by
        rcases hA with hA | ⟨_, hA⟩
        · exact digit_over hA uY u0 (by assumption)
        · rw [hY.out]; exact digit_test.1 (by rw [hR.out] at hA; exact hA)
      have hQ' := hidden (digit_less (q := Q) (by omega) rfl hgt)
      have hQp : 0 < Q := by
        rcases hA with hA | ⟨_, hA⟩
        · omega
        · by_cases h : Q = 0
          · subst h; omega
          · omega
      have hR' := hidden (show R + y1 = u - (Q - 1) * y1 by rw [hR.out]; grind)
      clear hgt
      by_cases hb : 4294967296 ≤ R + y1
      · have hdone : Q - 1 = D1 := (digit_done (by omega) rfl hQ'.out (by rw [hY.out]; exact digit_break hb hR'.out (by omega) (by have := hY.out; omega) (by omega) b1 b2 (by assumption))).trans hD1.out.symm
        rcases hA with hA | ⟨hA, hB⟩
        · clear hR hQ hQ' hR'
          go_wp2_with fail
          go_loop [18, 16] (fun a b => Digit V y1 Y (V * 4294967296 + n0) a b) (fun a _ => (intOf a).toNat)
          case atStart => exact ⟨p, t, by simp, rfl, p0, p1, ht.out.symm, t0, t1, hp.out⟩
          case round =>
            obtain ⟨Q, R, rfl, rfl, Q0, Q1, hR, R0, R1, hQ⟩ := hrel
            replace hR := hidden hR
            replace hQ := hidden hQ
            by_cases hA : 4294967296 ≤ Q ∨ (Q < 4294967296 ∧ 4294967296 * R + n0 < Q * y0)
            · have hgt : V * 4294967296 + n0 < Q * Y := by
                rcases hA with hA | ⟨_, hA⟩
                · exact digit_over hA VY V0 (by assumption)
                · rw [hY.out]; exact digit_test.1 (by rw [hR.out] at hA; exact hA)
              have hQ' := hidden (digit_less (q := Q) (by omega) rfl hgt)
              have hQp : 0 < Q := by
                rcases hA with hA | ⟨_, hA⟩
                · omega
                · by_cases h : Q = 0
                  · subst h; omega
                  · omega
              have hR' := hidden (show R + y1 = V - (Q - 1) * y1 by rw [hR.out]; grind)
              clear hgt
              by_cases hb : 4294967296 ≤ R + y1
              · have hdone : Q - 1 = D0 := (digit_done (by omega) rfl hQ'.out (by rw [hY.out]; exact digit_break hb hR'.out (by omega) (by have := hY.out; omega) (by omega) b1 b2 (by assumption))).trans hD0.out.symm
                rcases hA with hA | ⟨hA, hB⟩
                · clear hR hQ hQ' hR'
                  go_wp2_with fail
                  go_ret2
                  exact ⟨ret_ii rfl rfl, rfl⟩
                · obtain ⟨f1, f2⟩ := mul_bd32 Q0 hA b1 b2
                  clear hR hQ hQ' hR'
                  go_wp2_with fail
                  go_ret2
                  exact ⟨ret_ii rfl rfl, rfl⟩
              · rcases hA with hA | ⟨hA, hB⟩
                · go_wp2
                  go_round
                  case rel => exact ⟨Q - 1, R + y1, rfl, rfl, by omega, by omega, hR'.out, by omega, by omega, hQ'.out⟩
                  case measure => simp [intOf]; omega
                · obtain ⟨f1, f2⟩ := mul_bd32 Q0 hA b1 b2
                  go_wp2
                  go_round
                  case rel => exact ⟨Q - 1, R + y1, rfl, rfl, by omega, by omega, hR'.out, by omega, by omega, hQ'.out⟩
                  case measure => simp [intOf]; omega
            · have hle : Q * Y ≤ V * 4294967296 + n0 := by
                apply Int.not_lt.1
                intro h
                apply hA
                by_cases h32 : 4294967296 ≤ Q
                · exact .inl h32
                · refine .inr ⟨by omega, ?_⟩
                  rw [hR.out]
                  exact digit_test.2 (by rw [hY.out] at h; exact h)
              obtain rfl : Q = D0 := (digit_done (by omega) rfl hQ.out hle).trans hD0.out.symm
              obtain ⟨hA1, hA2⟩ : Q < 4294967296 ∧ Q * y0 ≤ 4294967296 * R + n0 := by omega
              obtain ⟨f1, f2⟩ := mul_bd32 Q0 hA1 b1 b2
              clear hle hA hR hQ
              go_wp2_with fail
              go_ret2
              exact ⟨ret_ii rfl rfl, rfl⟩
        · obtain ⟨f1, f2⟩ := mul_bd32 Q0 hA b1 b2
          clear hR hQ hQ' hR'
          go_wp2_with fail
          go_loop [18, 16] (fun a b => Digit V y1 Y (V * 4294967296 + n0) a b) (fun a _ => (intOf a).toNat)
          case atStart => exact ⟨p, t, by simp, rfl, p0, p1, ht.out.symm, t0, t1, hp.out⟩
          case round =>
            obtain ⟨Q, R, rfl, rfl, Q0, Q1, hR, R0, R1, hQ⟩ := hrel
            replace hR := hidden hR
            replace hQ := hidden hQ
            by_cases hA : 4294967296 ≤ Q ∨ (Q < 4294967296 ∧ 4294967296 * R + n0 < Q * y0)
            · have hgt : V * 4294967296 + n0 < Q * Y := by
                rcases hA with hA | ⟨_, hA⟩
                · exact digit_over hA VY V0 (by assumption)
                · rw [hY.out]; exact digit_test.1 (by rw [hR.out] at hA; exact hA)
              have hQ' := hidden (digit_less (q := Q) (by omega) rfl hgt)
              have hQp : 0 < Q := by
                rcases hA with hA | ⟨_, hA⟩
                · omega
                · by_cases h : Q = 0
                  · subst h; omega
                  · omega
              have hR' := hidden (show R + y1 = V - (Q - 1) * y1 by rw [hR.out]; grind)
              clear hgt
              by_cases hb : 4294967296 ≤ R + y1
              · have hdone : Q - 1 = D0 := (digit_done (by omega) rfl hQ'.out (by rw [hY.out]; exact digit_break hb hR'.out (by omega) (by have := hY.out; omega) (by omega) b1 b2 (by assumption))).trans hD0.out.symm
                rcases hA with hA | ⟨hA, hB⟩
                · clear hR hQ hQ' hR'
                  go_wp2_with fail
                  go_ret2
                  exact ⟨ret_ii rfl rfl, rfl⟩
                · obtain ⟨f1, f2⟩ := mul_bd32 Q0 hA b1 b2
                  clear hR hQ hQ' hR'
                  go_wp2_with fail
                  go_ret2
                  exact ⟨ret_ii rfl rfl, rfl⟩
              · rcases hA with hA | ⟨hA, hB⟩
                · go_wp2
                  go_round
                  case rel => exact ⟨Q - 1, R + y1, rfl, rfl, by omega, by omega, hR'.out, by omega, by omega, hQ'.out⟩
                  case measure => simp [intOf]; omega
                · obtain ⟨f1, f2⟩ := mul_bd32 Q0 hA b1 b2
                  go_wp2
                  go_round
                  case rel => exact ⟨Q - 1, R + y1, rfl, rfl, by omega, by omega, hR'.out, by omega, by omega, hQ'.out⟩
                  case measure => simp [intOf]; omega
            · have hle : Q * Y ≤ V * 4294967296 + n0 := by
                apply Int.not_lt.1
                intro h
                apply hA
                by_cases h32 : 4294967296 ≤ Q
                · exact .inl h32
                · refine .inr ⟨by omega, ?_⟩
                  rw [hR.out]
                  exact digit_test.2 (by rw [hY.out] at h; exact h)
              obtain rfl : Q = D0 := (digit_done (by omega) rfl hQ.out hle).trans hD0.out.symm
              obtain ⟨hA1, hA2⟩ : Q < 4294967296 ∧ Q * y0 ≤ 4294967296 * R + n0 := by omega
              obtain ⟨f1, f2⟩ := mul_bd32 Q0 hA1 b1 b2
              clear hle hA hR hQ
              go_wp2_with fail
              go_ret2
              exact ⟨ret_ii rfl rfl, rfl⟩
      · rcases hA with hA | ⟨hA, hB⟩
        · go_wp2
          go_round
          case rel => exact ⟨Q - 1, R + y1, rfl, rfl, by omega, by omega, hR'.out, by omega, by omega, hQ'.out⟩
          case measure => simp [intOf]; omega
        · obtain ⟨f1, f2⟩ := mul_bd32 Q0 hA b1 b2
          go_wp2
          go_round
          case rel => exact ⟨Q - 1, R + y1, rfl, rfl, by omega, by omega, hR'.out, by omega, by omega, hQ'.out⟩
          case measure => simp [intOf]; omega
    · have hle : Q * Y ≤ u * 4294967296 + n1 := by
        apply Int.not_lt.1
        intro h
        apply hA
        by_cases h32 : 4294967296 ≤ Q
        · exact .inl h32
        · refine .inr ⟨by omega, ?_⟩
          rw [hR.out]
          exact digit_test.2 (by rw [hY.out] at h; exact h)
      obtain rfl : Q = D1 := (digit_done (by omega) rfl hQ.out hle).trans hD1.out.symm
      obtain ⟨hA1, hA2⟩ : Q < 4294967296 ∧ Q * y0 ≤ 4294967296 * R + n1 := by omega
      obtain ⟨f1, f2⟩ := mul_bd32 Q0 hA1 b1 b2
      clear hle hA hR hQ
      go_wp2_with fail
      go_loop [18, 16] (fun a b => Digit V y1 Y (V * 4294967296 + n0) a b) (fun a _ => (intOf a).toNat)
      case atStart => exact ⟨p, t, by simp, rfl, p0, p1, ht.out.symm, t0, t1, hp.out⟩
      case round =>
        obtain ⟨Q, R, rfl, rfl, Q0, Q1, hR, R0, R1, hQ⟩ := hrel
        replace hR := hidden hR
        replace hQ := hidden hQ
        by_cases hA : 4294967296 ≤ Q ∨ (Q < 4294967296 ∧ 4294967296 * R + n0 < Q * y0)
        · have hgt : V * 4294967296 + n0 < Q * Y := by
            rcases hA with hA | ⟨_, hA⟩
            · exact digit_over hA VY V0 (by assumption)
            · rw [hY.out]; exact digit_test.1 (by rw [hR.out] at hA; exact hA)
          have hQ' := hidden (digit_less (q := Q) (by omega) rfl hgt)
          have hQp : 0 < Q := by
            rcases hA with hA | ⟨_, hA⟩
            · omega
            · by_cases h : Q = 0
              · subst h; omega
              · omega
          have hR' := hidden (show R + y1 = V - (Q - 1) * y1 by rw [hR.out]; grind)
          clear hgt
          by_cases hb : 4294967296 ≤ R + y1
          · have hdone : Q - 1 = D0 := (digit_done (by omega) rfl hQ'.out (by rw [hY.out]; exact digit_break hb hR'.out (by omega) (by have := hY.out; omega) (by omega) b1 b2 (by assumption))).trans hD0.out.symm
            rcases hA with hA | ⟨hA, hB⟩
            · clear hR hQ hQ' hR'
              go_wp2_with fail
              go_ret2
              exact ⟨ret_ii rfl rfl, rfl⟩
            · obtain ⟨f1, f2⟩ := mul_bd32 Q0 hA b1 b2
              clear hR hQ hQ' hR'
              go_wp2_with fail
              go_ret2
              exact ⟨ret_ii rfl rfl, rfl⟩
          · rcases hA with hA | ⟨hA, hB⟩
            · go_wp2
              go_round
              case rel => exact ⟨Q - 1, R + y1, rfl, rfl, by omega, by omega, hR'.out, by omega, by omega, hQ'.out⟩
              case measure => simp [intOf]; omega
            · obtain ⟨f1, f2⟩ := mul_bd32 Q0 hA b1 b2
              go_wp2
              go_round
              case rel => exact ⟨Q - 1, R + y1, rfl, rfl, by omega, by omega, hR'.out, by omega, by omega, hQ'.out⟩
              case measure => simp [intOf]; omega
        · have hle : Q * Y ≤ V * 4294967296 + n0 := by
            apply Int.not_lt.1
            intro h
            apply hA
            by_cases h32 : 4294967296 ≤ Q
            · exact .inl h32
            · refine .inr ⟨by omega, ?_⟩
              rw [hR.out]
              exact digit_test.2 (by rw [hY.out] at h; exact h)
          obtain rfl : Q = D0 := (digit_done (by omega) rfl hQ.out hle).trans hD0.out.symm
          obtain ⟨hA1, hA2⟩ : Q < 4294967296 ∧ Q * y0 ≤ 4294967296 * R + n0 := by omega
          obtain ⟨f1, f2⟩ := mul_bd32 Q0 hA1 b1 b2
          clear hle hA hR hQ
          go_wp2_with fail
          go_ret2
          exact ⟨ret_ii rfl rfl, rfl⟩
end Go.Proofs.YtlanggdmdpjfbaaDoor
namespace Go.Proofs.YtlanggdmdpjfbaaDoor
open Go.RowKit

/-- A wide number over one that is above its upper part: the quotient, and what is left. -/
theorem div64_any (hi lo y : Int) (w : World) (h0 : 0 ≤ hi) (h1 : hi < y) (l0 : 0 ≤ lo) (l1 : lo ≤ 18446744073709551615) (hy : y ≤ 18446744073709551615) :
    Calls Tryd.prog 71 #[.int .u64 hi, .int .u64 lo, .int .u64 y] w fun e w' => e = .returned (.tuple #[.int .u64 ((hi * 18446744073709551616 + lo) / y), .int .u64 ((hi * 18446744073709551616 + lo) % y)]) ∧ ∃ n, w' = w.drewN n := by
  have y1 : 0 < y := by omega
  by_cases hz : hi = 0
  · subst hz
    rw [Int.zero_mul, Int.zero_add]
    exact div64_zero lo y w y1 l0 l1 hy
  · obtain ⟨s, hs⟩ : ∃ s : Nat, (s : Int) = 64 - Lib.bitLen y.toNat := ⟨64 - Lib.bitLen y.toNat, by have := bitLen_spec y.toNat (by omega) (by omega); omega⟩
    obtain ⟨s63, Y0, Y1⟩ := lead_norm y1 hy hs
    have hl := lead_any y w y1 hy
    rw [← hs] at hl
    have e1 : IntKind.u64.wrap (y * 2 ^ s) = y * 2 ^ s := by rw [IntKind.wrap_u64]; omega
    have e2 := norm_or h0 h1 l0 l1 s63 Y1
    obtain ⟨e3, L0, L1⟩ := norm_low (lo := lo) s63
    have e4 := norm_all (hi := hi) (lo := lo) (s := s)
    obtain ⟨u0, uY⟩ := norm_lt h0 h1 l0 l1 s63 Y1
    have hP := pow_pos' s
    obtain ⟨f1, f2⟩ := shift_div (X := hi * 18446744073709551616 + lo) (y := y) hP
    rw [f1, f2, e4]
    clear f1 f2 e4
    obtain ⟨Y, hYd⟩ : ∃ x, y * 2 ^ s = x := ⟨_, rfl⟩
    obtain ⟨u, hud⟩ : ∃ x, hi * 2 ^ s + lo / 2 ^ (64 - s) = x := ⟨_, rfl⟩
    obtain ⟨L, hLd⟩ : ∃ x, lo * 2 ^ s - lo / 2 ^ (64 - s) * 18446744073709551616 = x := ⟨_, rfl⟩
    replace e1 := e1.trans hYd
    replace e2 := e2.trans hud
    replace e3 := e3.trans hLd
    rw [hYd] at Y0 Y1 uY
    rw [hud] at u0 uY
    rw [hLd] at L0 L1
    rw [hYd, hud, hLd]
    clear hYd hud hLd
    obtain ⟨y1v, hy1⟩ : ∃ x, Y / 4294967296 = x := ⟨_, rfl⟩
    obtain ⟨y0v, hy0⟩ : ∃ x, Y % 4294967296 = x := ⟨_, rfl⟩
    obtain ⟨n1, hn1⟩ : ∃ x, L / 4294967296 = x := ⟨_, rfl⟩
    obtain ⟨n0, hn0⟩ : ∃ x, L % 4294967296 = x := ⟨_, rfl⟩
    have hYs : Y = y1v * 4294967296 + y0v := by omega
    have hLs : L = n1 * 4294967296 + n0 := by omega
    have N0 : 0 ≤ u * 4294967296 + n1 := by omega
    obtain ⟨q0, q1, q2, q3, q4, q5, q6⟩ := digit_start (u := u) (n := n1) (y1 := y1v) (y0 := y0v) u0 (by omega) (by omega) (by omega) (by omega) (by omega) (by omega) (by omega)
    have V0 := Int.emod_nonneg (u * 4294967296 + n1) (show Y ≠ 0 by omega)
    have V1 := Int.emod_lt_of_pos (u * 4294967296 + n1) (show 0 < Y by omega)
    obtain ⟨D1a, D1b⟩ := quo_small (N := u * 4294967296 + n1) (Y := Y) (B := 4294967296) (by omega) N0 (by omega)
    have x1 := wrap_rest (u := u) (n1 := n1) (Y := Y) (by omega) (by omega) rfl
    obtain ⟨t1, t2⟩ := two_digits (u := u) (n1 := n1) (n0 := n0) (Y := Y) (by omega)
    rw [hLs, t1, t2]
    clear t1 t2
    obtain ⟨D1, hD1⟩ : ∃ x, (u * 4294967296 + n1) / Y = x := ⟨_, rfl⟩
    obtain ⟨V, hV⟩ : ∃ x, (u * 4294967296 + n1) % Y = x := ⟨_, rfl⟩
    rw [hD1] at D1a D1b x1 ⊢
    rw [hV] at V0 V1 x1 ⊢
    have M0 : 0 ≤ V * 4294967296 + n0 := by omega
    obtain ⟨p0, p1, p2, p3, p4, p5, p6⟩ := digit_start (u := V) (n := n0) (y1 := y1v) (y0 := y0v) V0 (by omega) (by omega) (by omega) (by omega) (by omega) (by omega) (by omega)
    have X0 := Int.emod_nonneg (V * 4294967296 + n0) (show Y ≠ 0 by omega)
    have X1 := Int.emod_lt_of_pos (V * 4294967296 + n0) (show 0 < Y by omega)
    obtain ⟨D0a, D0b⟩ := quo_small (N := V * 4294967296 + n0) (Y := Y) (B := 4294967296) (by omega) M0 (by omega)
    have x2 := wrap_rest (u := V) (n1 := n0) (Y := Y) (by omega) (by omega) rfl
    rw [← hYs] at q6 p6
    refine (div64_walk hi lo y Y u L y1v y0v n1 n0 _ _ D1 V _ _ _ _ s w (by omega) h1 s63 hl e1 e2 e3 hy1 ((and_low32 (by omega) Y1).trans hy0) hn1 ((and_low32 L0 L1).trans hn0)
      rfl rfl u0 (by omega) q0 q1 q2 q3 q4 q5 (by omega) (by omega) (by omega) (by omega) (by omega) (by omega) (by omega) (by omega)
      hYs uY Y1 q6 rfl hD1.symm (wrap3.trans x1) V0 V1 rfl rfl p0 p1 p2 p3 p4 p5 p6 rfl rfl (wrap3.trans x2) X0 (by omega) D1a D1b D0a D0b).mono ?_
    rintro e w' ⟨rfl, rfl⟩
    exact ⟨rfl, 0, rfl⟩
end Go.Proofs.YtlanggdmdpjfbaaDoor
namespace Go.Proofs.YtlanggdmdpjfbaaDoor
open Go.RowKit


theorem add_any (a b : Int) (w : World) (ha : -9223372036854775808 ≤ a) (ha2 : a ≤ 9223372036854775807) (hb : -9223372036854775808 ≤ b) (hb2 : b ≤ 9223372036854775807) :
    Calls Tryd.prog 68 #[.int .i64 a, .int .i64 b] w fun e w' => e = .returned (.tuple #[.int .i64 (cap64 (a + b)), .bool (in64 (a + b))]) ∧ w = w' := by
  go_enter Tryd.func68, Tryd.ntmps68
  go_wp2
  · rename_i h
    have hn : in64 (a + b) = false := add_no ha ha2 hb hb2 h
    go_ret2
    exact ⟨ret_ib (cap64_no hn).symm hn.symm, rfl⟩
  · rename_i h
    have hn := add_yes ha ha2 hb hb2 h
    go_ret2
    exact ⟨ret_ib (hn.2.trans (cap64_yes hn.1).symm) hn.1.symm, rfl⟩

theorem halves_any (n : Int) (w : World) (_h0 : 0 ≤ n) (_h1 : n ≤ 18446744073709551615) :
    Calls Tryd.prog 75 #[.int .u64 n] w fun e w' => e = .returned (.tuple #[.int .u64 (n / 4294967296), .int .u64 (n % 4294967296)]) ∧ w = w' := by
  go_enter Tryd.func75, Tryd.ntmps75
  go_wp2
  go_ret2
  exact ⟨rfl, rfl⟩

theorem wide_any (a b : Int) (w : World) (ha : 0 ≤ a) (ha2 : a ≤ 18446744073709551615) (hb : 0 ≤ b) (hb2 : b ≤ 18446744073709551615) :
    Calls Tryd.prog 69 #[.int .u64 a, .int .u64 b] w fun e w' => e = .returned (.tuple #[.int .u64 (hi64 (a * b)), .int .u64 (lo64 (a * b))]) ∧ w = w' := by
  have hp := halves_mul a b
  unfold hi64 lo64
  rw [hp]
  clear hp
  have a1 : 0 ≤ a / 4294967296 := by omega
  have a2 : a / 4294967296 ≤ 4294967295 := by omega
  have a3 : 0 ≤ a % 4294967296 := by omega
  have a4 : a % 4294967296 ≤ 4294967295 := by omega
  have b1 : 0 ≤ b / 4294967296 := by omega
  have b2 : b / 4294967296 ≤ 4294967295 := by omega
  have b3 : 0 ≤ b % 4294967296 := by omega
  have b4 : b % 4294967296 ≤ 4294967295 := by omega
  have p1 := mul_le_half a3 b3 a4 b4
  have p2 := mul_le_half a1 b3 a2 b4
  have p3 := mul_le_half a3 b1 a4 b2
  have p4 := mul_le_half a1 b1 a2 b2
  go_enter Tryd.func69, Tryd.ntmps69
  go_wp2_with (go_at_call 75; refine (halves_any _ _ (by omega) (by omega)).mono ?_; rintro e w' ⟨rfl, rfl⟩)
  go_ret2
  exact ⟨ret_ii (wide_hi _ _ _ _ p1.1 p2.1 p3.1) (wide_lo _ _ _ _ p1.1 p2.1 p3.1), rfl⟩

theorem size_any (n : Int) (w : World) (h : -9223372036854775808 ≤ n) (h2 : n ≤ 9223372036854775807) :
    Calls Tryd.prog 70 #[.int .i64 n] w fun e w' => e = .returned (.int .u64 n.natAbs) ∧ w = w' := by
  by_cases hn : n < 0
  · go_enter Tryd.func70, Tryd.ntmps70
    go_wp2
    go_ret
    exact ⟨ret_int (by simp only [IntKind.wrap_u64]; omega), rfl⟩
  · go_enter Tryd.func70, Tryd.ntmps70
    go_wp2
    go_ret
    exact ⟨ret_int (by omega), rfl⟩

theorem signed_any (n : Int) (neg : Bool) (w : World) (h : 0 ≤ n) (h2 : n ≤ 18446744073709551615) :
    Calls Tryd.prog 72 #[.int .u64 n, .bool neg] w fun e w' => e = .returned (.tuple #[.int .i64 (cap64 (if neg = true then -n else n)), .bool (in64 (if neg = true then -n else n))]) ∧ w = w' := by
  cases neg
  · by_cases hn : n < 9223372036854775808
    · have hi := in64_mk (x := n) (by omega)
      have hc := cap64_yes hi
      go_enter Tryd.func72, Tryd.ntmps72
      go_wp2
      go_ret2
      exact ⟨ret_ib rfl rfl, rfl⟩
    · have hi := (in64_no n).2 (by omega)
      have hc := cap64_no hi
      go_enter Tryd.func72, Tryd.ntmps72
      go_wp2
      go_ret2
      exact ⟨ret_ib rfl rfl, rfl⟩
  · by_cases hn : n ≤ 9223372036854775808
    · have hi := in64_mk (x := -n) (by omega)
      have hc := cap64_yes hi
      go_enter Tryd.func72, Tryd.ntmps72
      go_wp2
      go_ret2
      exact ⟨ret_ib (by unfold wrap64; omega) rfl, rfl⟩
    · have hi := (in64_no (-n)).2 (by omega)
      have hc := cap64_no hi
      go_enter Tryd.func72, Tryd.ntmps72
      go_wp2
      go_ret2
      exact ⟨ret_ib rfl rfl, rfl⟩

set_option maxHeartbeats 1000000 in
theorem div_no (a b c : Int) (up : Bool) (w : World) (hc : c ≤ 0) :
    Calls Tryd.prog 58 #[.int .i64 a, .int .i64 b, .int .i64 c, .bool up] w fun e w' => e = .returned (.tuple #[.int .i64 0, .bool false]) ∧ w = w' := by
  go_enter Tryd.func58, Tryd.ntmps58
  go_wp2
  go_ret2
  exact ⟨rfl, rfl⟩

set_option maxHeartbeats 4000000 in
theorem div_walk (a b c A B H L q m : Int) (up bel : Bool) (w : World) (ha : -9223372036854775808 ≤ a) (ha2 : a ≤ 9223372036854775807) (hb : -9223372036854775808 ≤ b) (hb2 : b ≤ 9223372036854775807) (hc : 0 < c) (hc2 : c ≤ 9223372036854775807)
    (hA : (a.natAbs : Int) = A) (hB : (b.natAbs : Int) = B) (hA0 : 0 ≤ A) (hA1 : A ≤ 9223372036854775808) (hB0 : 0 ≤ B) (hB1 : B ≤ 9223372036854775808)
    (hH : hi64 (A * B) = H) (hL : lo64 (A * B) = L) (h1 : 0 ≤ H) (h2 : H < c) (h3 : 0 ≤ L) (h4 : L ≤ 18446744073709551615) (hP : H * 18446744073709551616 + L = A * B)
    (hq : A * B / c = q) (hm : A * B % c = m) (q0 : 0 ≤ q) (q1 : q ≤ 18446744073709551615) (m0 : 0 ≤ m) (hbel : (!decide (a < 0) == decide (b < 0)) = bel)
    (R : Int) (hR : Hid (cap64 (if bel = true then -(if 0 < m ∧ up ≠ bel ∧ q < 18446744073709551615 then q + 1 else q) else (if 0 < m ∧ up ≠ bel ∧ q < 18446744073709551615 then q + 1 else q)) = cap64 R ∧ in64 (if bel = true then -(if 0 < m ∧ up ≠ bel ∧ q < 18446744073709551615 then q + 1 else q) else (if 0 < m ∧ up ≠ bel ∧ q < 18446744073709551615 then q + 1 else q)) = in64 R)) :
    Calls Tryd.prog 58 #[.int .i64 a, .int .i64 b, .int .i64 c, .bool up] w fun e w' => e = .returned (.tuple #[.int .i64 (cap64 R), .bool (in64 R)]) ∧ ∃ n, w' = w.drewN n := by
  by_cases hm1 : 0 < m
  · by_cases hq1 : q < 18446744073709551615
    all_goals cases up <;> cases bel
    all_goals
      go_enter Tryd.func58, Tryd.ntmps58
      go_wp2_with (first
        | (go_at_call 70; refine (size_any _ _ (by omega) (by omega)).mono ?_; rintro e w' ⟨rfl, rfl⟩)
        | (go_at_call 69; refine (wide_any _ _ _ (by omega) (by omega) (by omega) (by omega)).mono ?_; rintro e w' ⟨rfl, rfl⟩)
        | (go_at_call 71; refine (div64_any _ _ _ _ (by omega) (by omega) (by omega) (by omega) (by omega)).mono ?_; rintro e w' ⟨rfl, k, rfl⟩)
        | (go_at_call 72; refine (signed_any _ _ _ (by omega) (by omega)).mono ?_; rintro e w' ⟨rfl, rfl⟩))
      go_ret2
      have h := hR.out
      simp [hm1, hq1] at h
      first
        | exact ⟨ret_ib h.1 h.2, _, rfl⟩
        | (rw [if_neg (by omega)] at h; exact ⟨ret_ib h.1 h.2, _, rfl⟩)
  · cases up <;> cases bel
    all_goals
      go_enter Tryd.func58, Tryd.ntmps58
      go_wp2_with (first
        | (go_at_call 70; refine (size_any _ _ (by omega) (by omega)).mono ?_; rintro e w' ⟨rfl, rfl⟩)
        | (go_at_call 69; refine (wide_any _ _ _ (by omega) (by omega) (by omega) (by omega)).mono ?_; rintro e w' ⟨rfl, rfl⟩)
        | (go_at_call 71; refine (div64_any _ _ _ _ (by omega) (by omega) (by omega) (by omega) (by omega)).mono ?_; rintro e w' ⟨rfl, k, rfl⟩)
        | (go_at_call 72; refine (signed_any _ _ _ (by omega) (by omega)).mono ?_; rintro e w' ⟨rfl, rfl⟩))
      go_ret2
      have h := hR.out
      simp at h
      first
        | exact ⟨ret_ib h.1 h.2, _, rfl⟩
        | (rw [if_neg (by omega)] at h; exact ⟨ret_ib h.1 h.2, _, rfl⟩)

theorem div_over (a b c A B : Int) (up : Bool) (w : World) (ha : -9223372036854775808 ≤ a) (ha2 : a ≤ 9223372036854775807) (hb : -9223372036854775808 ≤ b) (hb2 : b ≤ 9223372036854775807) (hc : 0 < c) (hc2 : c ≤ 9223372036854775807)
    (hA : (a.natAbs : Int) = A) (hB : (b.natAbs : Int) = B) (hA0 : 0 ≤ A) (hA1 : A ≤ 9223372036854775808) (hB0 : 0 ≤ B) (hB1 : B ≤ 9223372036854775808) (H : Int)
    (hH : hi64 (A * B) = H) (h2 : c ≤ H) (_h3 : H ≤ 9223372036854775807) :
    Calls Tryd.prog 58 #[.int .i64 a, .int .i64 b, .int .i64 c, .bool up] w fun e w' => e = .returned (.tuple #[.int .i64 0, .bool false]) ∧ w = w' := by
  go_enter Tryd.func58, Tryd.ntmps58
  go_wp2_with (first
    | (go_at_call 70; refine (size_any _ _ (by omega) (by omega)).mono ?_; rintro e w' ⟨rfl, rfl⟩)
    | (go_at_call 69; refine (wide_any _ _ _ (by omega) (by omega) (by omega) (by omega)).mono ?_; rintro e w' ⟨rfl, rfl⟩))
  go_ret2
  exact ⟨rfl, rfl⟩

theorem div_pos (a b c : Int) (up : Bool) (w : World) (ha : -9223372036854775808 ≤ a) (ha2 : a ≤ 9223372036854775807) (hb : -9223372036854775808 ≤ b) (hb2 : b ≤ 9223372036854775807) (hc : 0 < c) (hc2 : c ≤ 9223372036854775807) :
    Calls Tryd.prog 58 #[.int .i64 a, .int .i64 b, .int .i64 c, .bool up] w fun e w' => e = .returned (.tuple #[.int .i64 (cap64 (divq a b c up)), .bool (in64 (divq a b c up))]) ∧ ∃ n, w' = w.drewN n := by
  have hd := divq_size a b c up hc
  obtain ⟨A, hA⟩ : ∃ x : Int, (a.natAbs : Int) = x := ⟨_, rfl⟩
  obtain ⟨B, hB⟩ : ∃ x : Int, (b.natAbs : Int) = x := ⟨_, rfl⟩
  have hA0 : 0 ≤ A := by omega
  have hA1 : A ≤ 9223372036854775808 := by omega
  have hB0 : 0 ≤ B := by omega
  have hB1 : B ≤ 9223372036854775808 := by omega
  have hm := mul_le_half hA0 hB0 hA1 hB1
  rw [hA, hB] at hd
  have hP : hi64 (A * B) * 18446744073709551616 + lo64 (A * B) = A * B := by unfold hi64 lo64; omega
  have h1 : 0 ≤ hi64 (A * B) := by unfold hi64; omega
  have h2 : hi64 (A * B) ≤ 9223372036854775807 := by unfold hi64; omega
  have h3 : 0 ≤ lo64 (A * B) := by unfold lo64; omega
  have h4 : lo64 (A * B) ≤ 18446744073709551615 := by unfold lo64; omega
  by_cases hg : hi64 (A * B) < c
  · have q0 : 0 ≤ A * B / c := Int.ediv_nonneg hm.1 (by omega)
    have q1 : A * B / c < 18446744073709551616 := Int.ediv_lt_of_lt_mul hc (by omega)
    have m0 := Int.emod_nonneg (A * B) (show c ≠ 0 by omega)
    refine div_walk a b c A B _ _ _ _ up _ w ha ha2 hb hb2 hc hc2 hA hB hA0 hA1 hB0 hB1 rfl rfl h1 hg h3 h4 hP rfl rfl q0 (by omega) m0 rfl (divq a b c up) ?_
    exact div_end hd q0 m0
  · have hbig : in64 (divq a b c up) = false := by
      have hq : 18446744073709551616 ≤ A * B / c := (Int.le_ediv_iff_mul_le hc).2 (by omega)
      rw [in64_no, hd]
      unfold sizeq
      split <;> split <;> (first | omega | (split <;> omega))
    refine (div_over a b c A B up w ha ha2 hb hb2 hc hc2 hA hB hA0 hA1 hB0 hB1 _ rfl (by omega) h2).mono ?_
    rintro e w' ⟨rfl, rfl⟩
    exact ⟨ret_ib (cap64_no hbig).symm hbig.symm, 0, rfl⟩

/-- Div, whatever it is given. -/
def divOk (a b c : Int) (up : Bool) : Bool := decide (0 < c) && in64 (divq a b c up)
def divAns (a b c : Int) (up : Bool) : Int := if divOk a b c up = true then divq a b c up else 0
theorem div_any (a b c : Int) (up : Bool) (w : World) (ha : -9223372036854775808 ≤ a) (ha2 : a ≤ 9223372036854775807) (hb : -9223372036854775808 ≤ b) (hb2 : b ≤ 9223372036854775807) (hc2 : c ≤ 9223372036854775807) :
    Calls Tryd.prog 58 #[.int .i64 a, .int .i64 b, .int .i64 c, .bool up] w fun e w' => e = .returned (.tuple #[.int .i64 (divAns a b c up), .bool (divOk a b c up)]) ∧ ∃ n, w' = w.drewN n := by
  by_cases hc : 0 < c
  · have e1 : divOk a b c up = in64 (divq a b c up) := by simp [divOk, hc]
    have e2 : divAns a b c up = cap64 (divq a b c up) := by unfold divAns cap64; rw [e1]
    rw [e1, e2]
    exact div_pos a b c up w ha ha2 hb hb2 hc hc2
  · have e1 : divOk a b c up = false := by simp [divOk, hc]
    have e2 : divAns a b c up = 0 := by unfold divAns; rw [e1]; rfl
    rw [e1, e2]
    refine (div_no a b c up w (by omega)).mono ?_
    rintro e w' ⟨rfl, rfl⟩
    exact ⟨rfl, 0, rfl⟩
end Go.Proofs.YtlanggdmdpjfbaaDoor
namespace Go.Proofs.YtlanggdmdpjfbaaDoor
open Go.RowKit

def total (l : List Int) : Int := l.foldl (· + ·) 0
theorem total_snoc (l : List Int) (x : Int) : total (l ++ [x]) = total l + x := by simp [total]
theorem take_snoc0 (xs : List Int) (k : Nat) (h : k < xs.length) : xs.take (k + 1) = xs.take k ++ [xs.getD k 0] := by
  rw [List.take_succ_eq_append_getElem h, List.getD_eq_getElem?_getD, List.getElem?_eq_getElem h]; rfl

def SumRel (xs : List Int) (s r i : Value) : Prop :=
  ∃ (k : Nat) (S R : Int), i = .int .i64 (k : Int) ∧ k ≤ xs.length ∧ s = .int .i64 S ∧ r = .int .i64 R ∧ -9223372036854775808 ≤ S ∧ S ≤ 9223372036854775807 ∧ -(k : Int) ≤ R ∧ R ≤ k ∧ total (xs.take k) = S + R * 18446744073709551616

theorem sum_step {T S R n : Int} (h : T = S + R * 18446744073709551616) (S0 : -9223372036854775808 ≤ S) (S1 : S ≤ 9223372036854775807) (n0 : -9223372036854775808 ≤ n) (n1 : n ≤ 9223372036854775807) :
    (in64 (S + n) = true → wrap64 (S + n) = S + n ∧ T + n = (S + n) + R * 18446744073709551616) ∧
    (in64 (S + n) = false → 0 < n → T + n = wrap64 (S + n) + (R + 1) * 18446744073709551616) ∧
    (in64 (S + n) = false → ¬ 0 < n → T + n = wrap64 (S + n) + (R - 1) * 18446744073709551616) := by
  rw [in64_iff, in64_no]; unfold wrap64; omega

theorem wrap64_bd (x : Int) : -9223372036854775808 ≤ wrap64 x ∧ wrap64 x ≤ 9223372036854775807 := by unfold wrap64; omega

set_option maxHeartbeats 1000000 in
theorem sum_any (v : Value) (xs : List Int) (w : World) (h : Reads .i64 w v xs) (hx : xs.length ≤ 1000000000) (hb : ∀ x ∈ xs, -9223372036854775808 ≤ x ∧ x ≤ 9223372036854775807) :
    Calls Tryd.prog 57 #[v] w fun e w' => e = .returned (.tuple #[.int .i64 (cap64 (total xs)), .bool (in64 (total xs))]) ∧ w = w' := by
  have hr := hidden h
  obtain ⟨a, n, c, rfl, en, hnc, hcm, hn, _⟩ := h
  subst en
  have hbb := hidden hb
  clear hn hb
  go_enter Tryd.func57, Tryd.ntmps57
  go_wp2_with fail
  go_loop [4, 5, 12] (fun s r i => SumRel xs s r i) (fun _ _ i => xs.length - (intOf i).toNat)
  case atStart => exact ⟨0, 0, 0, rfl, Nat.zero_le _, rfl, rfl, by omega, by omega, by omega, by omega, rfl⟩
  case round =>
    obtain ⟨k, S, R, rfl, hk, rfl, rfl, S0, S1, R0, R1, hT⟩ := hrel
    replace hT := hidden hT
    by_cases hlt : k < xs.length
    · obtain ⟨bl, ol, rfl, hc⟩ := hr.out.cell k hlt
      have hx' : xs.getD k 0 ∈ xs := by rw [List.getD_eq_getElem?_getD, List.getElem?_eq_getElem hlt]; exact List.getElem_mem hlt
      obtain ⟨n0, n1⟩ := hbb.out _ hx'
      have htk := hidden (show total (xs.take (k + 1)) = total (xs.take k) + xs.getD k 0 by rw [take_snoc0 xs k hlt, total_snoc])
      clear hx'
      generalize xs.getD k 0 = x at hc htk n0 n1
      obtain ⟨st1, st2, st3⟩ := sum_step hT.out S0 S1 n0 n1
      obtain ⟨wb1, wb2⟩ := wrap64_bd (S + x)
      by_cases hi : in64 (S + x) = true
      · have hw := (st1 hi).1
        have ht := hidden (st1 hi).2
        obtain ⟨S2, S3⟩ := (in64_iff _).1 hi
        clear st1 st2 st3 wb1 wb2
        go_wp2_with (go_at_call 68; refine (add_any _ _ _ S0 S1 n0 n1).mono ?_; rintro e w' ⟨rfl, rfl⟩)
        go_round
        case rel => exact ⟨k + 1, S + x, R, by go_num, hlt, rfl, rfl, S2, S3, by omega, by omega, by rw [htk.out, ht.out]⟩
        case measure => simp [intOf]; omega
      · replace hi : in64 (S + x) = false := by simpa using hi
        by_cases hx0 : 0 < x
        · have ht := hidden (st2 hi hx0)
          clear st1 st2 st3
          go_wp2_with (go_at_call 68; refine (add_any _ _ _ S0 S1 n0 n1).mono ?_; rintro e w' ⟨rfl, rfl⟩)
          go_round
          case rel => exact ⟨k + 1, _, _, by go_num, hlt, rfl, rfl, wb1, wb2, by omega, by omega, by rw [htk.out, ht.out]⟩
          case measure => simp [intOf]; omega
        · have ht := hidden (st3 hi hx0)
          clear st1 st2 st3
          go_wp2_with (go_at_call 68; refine (add_any _ _ _ S0 S1 n0 n1).mono ?_; rintro e w' ⟨rfl, rfl⟩)
          go_round
          case rel => exact ⟨k + 1, _, _, by go_num, hlt, rfl, rfl, wb1, wb2, by omega, by omega, by rw [htk.out, ht.out]⟩
          case measure => simp [intOf]; omega
    · have e : xs.take k = xs := List.take_of_length_le (by omega)
      rw [e] at hT
      by_cases hR : R = 0
      · subst hR
        have hin := in64_mk (x := total xs) (by have := hT.out; omega)
        have hS := hidden (show total xs = S by have := hT.out; omega)
        have hin' := hidden hin
        clear hin
        go_wp2
        go_ret2
        exact ⟨ret_ib (by rw [cap64_yes hin'.out]; exact hS.out.symm) hin'.out.symm, rfl⟩
      · have hin := hidden ((in64_no (total xs)).2 (by have := hT.out; omega))
        have hne : (R != 0) = true := by simpa using hR
        clear hR
        go_wp2
        go_ret2
        exact ⟨ret_ib (cap64_no hin.out).symm hin.out.symm, rfl⟩

/-- what Compare of two numbers answers. -/
def cmpv (x y : Int) : Int := if x < y then -1 else if y < x then 1 else 0
theorem cmpv_lt {x y : Int} (h : x < y) : cmpv x y = -1 := if_pos h
theorem cmpv_gt {x y : Int} (h : y < x) : cmpv x y = 1 := by unfold cmpv; rw [if_neg (by omega), if_pos h]
theorem cmpv_eq {x y : Int} (h : x = y) : cmpv x y = 0 := by unfold cmpv; rw [if_neg (by omega), if_neg (by omega)]

theorem nanI_any (x : Int) (w : World) : Calls Tryd.prog 74 #[.int .i64 x] w fun e w' => e = .returned (.bool false) ∧ w = w' := by
  go_enter Tryd.func74, Tryd.ntmps74
  go_wp2
  go_ret
  exact ⟨rfl, rfl⟩
theorem cmpI_any (x y : Int) (w : World) :
    Calls Tryd.prog 61 #[.int .i64 x, .int .i64 y] w fun e w' => e = .returned (.int .i64 (cmpv x y)) ∧ w = w' := by
  rcases Int.lt_trichotomy x y with h | h | h
  · have hc := hidden (cmpv_lt h)
    go_enter Tryd.func61, Tryd.ntmps61
    go_wp2_with (go_at_call 74; refine (nanI_any _ _).mono ?_; rintro e w' ⟨rfl, rfl⟩)
    go_ret
    exact ⟨ret_int hc.out.symm, rfl⟩
  · subst h
    have hc := hidden (cmpv_eq (x := x) rfl)
    go_enter Tryd.func61, Tryd.ntmps61
    go_wp2_with (go_at_call 74; refine (nanI_any _ _).mono ?_; rintro e w' ⟨rfl, rfl⟩)
    go_ret
    exact ⟨ret_int hc.out.symm, rfl⟩
  · have hc := hidden (cmpv_gt h)
    have h2 : ¬ x < y := by omega
    go_enter Tryd.func61, Tryd.ntmps61
    go_wp2_with (go_at_call 74; refine (nanI_any _ _).mono ?_; rintro e w' ⟨rfl, rfl⟩)
    go_ret
    exact ⟨ret_int hc.out.symm, rfl⟩
def orv (x y : Int) : Int := if x = 0 then y else x
theorem orv_no {x y : Int} (h : x ≠ 0) : orv x y = x := if_neg h
theorem orv_yes (y : Int) : orv 0 y = y := if_pos rfl
def OrRel (x y : Int) (i : Value) : Prop := i = .int .i64 0 ∨ (i = .int .i64 1 ∧ x = 0) ∨ (i = .int .i64 2 ∧ x = 0 ∧ y = 0)
theorem cell2_new (w : World) (T : TypeId) (p q : Value) : (w.alloc (.cells #[p, q] T)).cell? ⟨w.heap.size, 0, none⟩ = some p ∧ (w.alloc (.cells #[p, q] T)).cell? ⟨w.heap.size, 0 + 1, none⟩ = some q := by
  constructor <;> rw [World.cell?_alloc_at _ _ _ _ rfl] <;> rfl

end Go.Proofs.YtlanggdmdpjfbaaDoor
