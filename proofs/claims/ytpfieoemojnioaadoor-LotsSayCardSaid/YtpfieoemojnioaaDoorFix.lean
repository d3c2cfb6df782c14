/-
  What each call of package fix answers.
-/
import Derived.Test.YtpfieoemojnioaaDoorProg
import Derived.Test.YtpfieoemojnioaaDoorRet
import Derived.Test.YtpfieoemojnioaaDoorQuoMath
import Derived.WalkKit
import Derived.WalkSpells
import Derived.WalkLawsBesides
import Derived.Outline
import Derived.Below
namespace Go.Proofs.YtpfieoemojnioaaDoor
open Go.RowKit


theorem halves_any (n : Int) (w : World) (_h0 : 0 ≤ n) (_h1 : n ≤ 18446744073709551615) :
    Calls Tryd.prog 70 #[.int .u64 n] w fun e w' => e = .returned (.tuple #[.int .u64 (n / 4294967296), .int .u64 (n % 4294967296)]) ∧ w = w' := by
  go_enter Tryd.func70, Tryd.ntmps70
  go_wp2
  go_ret2
  exact ⟨rfl, rfl⟩

theorem wide_any (a b : Int) (w : World) (ha : 0 ≤ a) (ha2 : a ≤ 18446744073709551615) (hb : 0 ≤ b) (hb2 : b ≤ 18446744073709551615) :
    Calls Tryd.prog 67 #[.int .u64 a, .int .u64 b] w fun e w' => e = .returned (.tuple #[.int .u64 (hi64 (a * b)), .int .u64 (lo64 (a * b))]) ∧ w = w' := by
  have hp := halves_mul a b
  unfold hi64 lo64
  rw [hp]
  clear hp
  have a1 : 0 ≤ a / 4294967296 := by omega
  have a2 : a / 4294967296 ≤ 4294967295 := by omega
  have a3 : 0 ≤ a % 4294967296 := by omega
  have a4 : a % 4294967296 ≤ 4294967295 := by omega
  have b1 : 0 ≤ b / 4294967296 := by omega
  have b2 : b / 4294967296 ≤ 4294967295 := by omega
  have b3 : 0 ≤ b % 4294967296 := by omega
  have b4 : b % 4294967296 ≤ 4294967295 := by omega
  have p1 := mul_le_half a3 b3 a4 b4
  have p2 := mul_le_half a1 b3 a2 b4
  have p3 := mul_le_half a3 b1 a4 b2
  have p4 := mul_le_half a1 b1 a2 b2
  go_enter Tryd.func67, Tryd.ntmps67
  go_wp2_with (go_at_call 70; refine (halves_any _ _ (by omega) (by omega)).mono ?_; rintro e w' ⟨rfl, rfl⟩)
  go_ret2
  exact ⟨ret_ii (wide_hi _ _ _ _ p1.1 p2.1 p3.1) (wide_lo _ _ _ _ p1.1 p2.1 p3.1), rfl⟩

/-- the upper 64 bits, with a sign, of a product with a sign. -/
theorem product_any (a b : Int) (w : World) (ha : -9223372036854775808 ≤ a) (ha2 : a ≤ 9223372036854775807) (hb : -9223372036854775808 ≤ b) (hb2 : b ≤ 9223372036854775807) :
    Calls Tryd.prog 61 #[.int .i64 a, .int .i64 b] w fun e w' => e = .returned (.tuple #[.int .i64 (hi64 (a * b)), .int .u64 (lo64 (a * b))]) ∧ w = w' := by
  by_cases hna : a < 0
  all_goals by_cases hnb : b < 0
  all_goals
    go_enter Tryd.func61, Tryd.ntmps61
    go_wp2_with fail
    try rw [IntKind.wrap_u64]
    try rw [IntKind.wrap_u64]
    refine (wide_any _ _ _ (by omega) (by omega) (by omega) (by omega)).mono ?_
    rintro e w' ⟨rfl, rfl⟩
    go_wp2
    go_ret2
    first
      | exact ⟨ret_ii (prod_nn ha ha2 hb hb2 hna hnb).1 (prod_nn ha ha2 hb hb2 hna hnb).2, rfl⟩
      | exact ⟨ret_ii (prod_np ha ha2 hb hb2 hna).1 (prod_np ha ha2 hb hb2 hna).2, rfl⟩
      | exact ⟨ret_ii (prod_pn ha ha2 hb hb2 hnb).1 (prod_pn ha ha2 hb hb2 hnb).2, rfl⟩
      | exact ⟨ret_ii (prod_pp ha ha2 hb hb2) rfl, rfl⟩

/-- Div, whatever it is given. -/
def divOk (a b c : Int) (up : Bool) : Bool := decide (0 < c) && in64 (divq a b c up)
def divAns (a b c : Int) (up : Bool) : Int := if divOk a b c up = true then divq a b c up else 0
end Go.Proofs.YtpfieoemojnioaaDoor
