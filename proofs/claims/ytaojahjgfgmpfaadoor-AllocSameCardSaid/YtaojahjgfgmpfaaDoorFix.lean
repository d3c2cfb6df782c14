/-
  What each call of package fix answers.
-/
import Derived.Test.YtaojahjgfgmpfaaDoorProg
import Derived.Test.YtaojahjgfgmpfaaDoorRet
import Derived.Test.YtaojahjgfgmpfaaDoorQuoMath
import Derived.Test.YtaojahjgfgmpfaaDoorDiv
import Derived.WalkKit
import Derived.WalkSpells
import Derived.WalkLawsBesides
import Derived.Outline
import Derived.Below
namespace Go.Proofs.YtaojahjgfgmpfaaDoor
open Go.RowKit


theorem halves_any (n : Int) (w : World) (_h0 : 0 ≤ n) (_h1 : n ≤ 18446744073709551615) :
    Calls Tryd.prog 90 #[.int .u64 n] w fun e w' => e = .returned (.tuple #[.int .u64 (n / 4294967296), .int .u64 (n % 4294967296)]) ∧ w = w' := by
  go_enter Tryd.func90, Tryd.ntmps90
  go_wp2
  go_ret2
  exact ⟨rfl, rfl⟩

theorem wide_any (a b : Int) (w : World) (ha : 0 ≤ a) (ha2 : a ≤ 18446744073709551615) (hb : 0 ≤ b) (hb2 : b ≤ 18446744073709551615) :
    Calls Tryd.prog 81 #[.int .u64 a, .int .u64 b] w fun e w' => e = .returned (.tuple #[.int .u64 (hi64 (a * b)), .int .u64 (lo64 (a * b))]) ∧ w = w' := by
  have hp := halves_mul a b
  unfold hi64 lo64
  rw [hp]
  clear hp
  have a1 : 0 ≤ a / 4294967296 := by omega
  have a2 : a / 4294967296 ≤ 4294967295 := by omega
  have a3 : 0 ≤ a % 4294967296 := by omega
  have a4 : a % 4294967296 ≤ 4294967295 := by omega
  have b1 : 0 ≤ b / 4294967296 := by omega
  have b2 : b / 4294967296 ≤ 4294967295 := by omega
  have b3 : 0 ≤ b % 4294967296 := by omega
  have b4 : b % 4294967296 ≤ 4294967295 := by omega
  have p1 := mul_le_half a3 b3 a4 b4
  have p2 := mul_le_half a1 b3 a2 b4
  have p3 := mul_le_half a3 b1 a4 b2
  have p4 := mul_le_half a1 b1 a2 b2
  go_enter Tryd.func81, Tryd.ntmps81
  go_wp2_with (go_at_call 90; refine (halves_any _ _ (by omega) (by omega)).mono ?_; rintro e w' ⟨rfl, rfl⟩)
  go_ret2
  exact ⟨ret_ii (wide_hi _ _ _ _ p1.1 p2.1 p3.1) (wide_lo _ _ _ _ p1.1 p2.1 p3.1), rfl⟩

/-- the upper 64 bits, with a sign, of a product with a sign. -/
theorem product_any (a b : Int) (w : World) (ha : -9223372036854775808 ≤ a) (ha2 : a ≤ 9223372036854775807) (hb : -9223372036854775808 ≤ b) (hb2 : b ≤ 9223372036854775807) :
    Calls Tryd.prog 69 #[.int .i64 a, .int .i64 b] w fun e w' => e = .returned (.tuple #[.int .i64 (hi64 (a * b)), .int .u64 (lo64 (a * b))]) ∧ w = w' := by
  by_cases hna : a < 0
  all_goals by_cases hnb : b < 0
  all_goals
    go_enter Tryd.func69, Tryd.ntmps69
    go_wp2_with fail
    try rw [IntKind.wrap_u64]
    try rw [IntKind.wrap_u64]
    refine (wide_any _ _ _ (by omega) (by omega) (by omega) (by omega)).mono ?_
    rintro e w' ⟨rfl, rfl⟩
    go_wp2
    go_ret2
    first
      | exact ⟨ret_ii (prod_nn ha ha2 hb hb2 hna hnb).1 (prod_nn ha ha2 hb hb2 hna hnb).2, rfl⟩
      | exact ⟨ret_ii (prod_np ha ha2 hb hb2 hna).1 (prod_np ha ha2 hb hb2 hna).2, rfl⟩
      | exact ⟨ret_ii (prod_pn ha ha2 hb hb2 hnb).1 (prod_pn ha ha2 hb hb2 hnb).2, rfl⟩
      | exact ⟨ret_ii (prod_pp ha ha2 hb hb2) rfl, rfl⟩

theorem size_any (n : Int) (w : World) (h : -9223372036854775808 ≤ n) (h2 : n ≤ 9223372036854775807) :
    Calls Tryd.prog 86 #[.int .i64 n] w fun e w' => e = .returned (.int .u64 n.natAbs) ∧ w = w' := by
  by_cases hn : n < 0
  · go_enter Tryd.func86, Tryd.ntmps86
    go_wp2
    go_ret
    exact ⟨ret_int (by simp only [IntKind.wrap_u64]; omega), rfl⟩
  · go_enter Tryd.func86, Tryd.ntmps86
    go_wp2
    go_ret
    exact ⟨ret_int (by omega), rfl⟩

theorem signed_any (n : Int) (neg : Bool) (w : World) (h : 0 ≤ n) (h2 : n ≤ 18446744073709551615) :
    Calls Tryd.prog 88 #[.int .u64 n, .bool neg] w fun e w' => e = .returned (.tuple #[.int .i64 (cap64 (if neg = true then -n else n)), .bool (in64 (if neg = true then -n else n))]) ∧ w = w' := by
  cases neg
  · by_cases hn : n < 9223372036854775808
    · have hi := in64_mk (x := n) (by omega)
      have hc := cap64_yes hi
      go_enter Tryd.func88, Tryd.ntmps88
      go_wp2
      go_ret2
      exact ⟨ret_ib rfl rfl, rfl⟩
    · have hi := (in64_no n).2 (by omega)
      have hc := cap64_no hi
      go_enter Tryd.func88, Tryd.ntmps88
      go_wp2
      go_ret2
      exact ⟨ret_ib rfl rfl, rfl⟩
  · by_cases hn : n ≤ 9223372036854775808
    · have hi := in64_mk (x := -n) (by omega)
      have hc := cap64_yes hi
      go_enter Tryd.func88, Tryd.ntmps88
      go_wp2
      go_ret2
      exact ⟨ret_ib (by unfold wrap64; omega) rfl, rfl⟩
    · have hi := (in64_no (-n)).2 (by omega)
      have hc := cap64_no hi
      go_enter Tryd.func88, Tryd.ntmps88
      go_wp2
      go_ret2
      exact ⟨ret_ib rfl rfl, rfl⟩

set_option maxHeartbeats 1000000 in
theorem div_no (a b c : Int) (up : Bool) (w : World) (hc : c ≤ 0) :
    Calls Tryd.prog 74 #[.int .i64 a, .int .i64 b, .int .i64 c, .bool up] w fun e w' => e = .returned (.tuple #[.int .i64 0, .bool false]) ∧ w = w' := by
  go_enter Tryd.func74, Tryd.ntmps74
  go_wp2
  go_ret2
  exact ⟨rfl, rfl⟩

set_option maxHeartbeats 4000000 in
theorem div_walk (a b c A B H L q m : Int) (up bel : Bool) (w : World) (ha : -9223372036854775808 ≤ a) (ha2 : a ≤ 9223372036854775807) (hb : -9223372036854775808 ≤ b) (hb2 : b ≤ 9223372036854775807) (hc : 0 < c) (hc2 : c ≤ 9223372036854775807)
    (hA : (a.natAbs : Int) = A) (hB : (b.natAbs : Int) = B) (hA0 : 0 ≤ A) (hA1 : A ≤ 9223372036854775808) (hB0 : 0 ≤ B) (hB1 : B ≤ 9223372036854775808)
    (hH : hi64 (A * B) = H) (hL : lo64 (A * B) = L) (h1 : 0 ≤ H) (h2 : H < c) (h3 : 0 ≤ L) (h4 : L ≤ 18446744073709551615) (hP : H * 18446744073709551616 + L = A * B)
    (hq : A * B / c = q) (hm : A * B % c = m) (q0 : 0 ≤ q) (q1 : q ≤ 18446744073709551615) (m0 : 0 ≤ m) (hbel : (!decide (a < 0) == decide (b < 0)) = bel)
    (R : Int) (hR : Hid (cap64 (if bel = true then -(if 0 < m ∧ up ≠ bel ∧ q < 18446744073709551615 then q + 1 else q) else (if 0 < m ∧ up ≠ bel ∧ q < 18446744073709551615 then q + 1 else q)) = cap64 R ∧ in64 (if bel = true then -(if 0 < m ∧ up ≠ bel ∧ q < 18446744073709551615 then q + 1 else q) else (if 0 < m ∧ up ≠ bel ∧ q < 18446744073709551615 then q + 1 else q)) = in64 R)) :
    Calls Tryd.prog 74 #[.int .i64 a, .int .i64 b, .int .i64 c, .bool up] w fun e w' => e = .returned (.tuple #[.int .i64 (cap64 R), .bool (in64 R)]) ∧ ∃ n, w' = w.drewN n := by
  by_cases hm1 : 0 < m
  · by_cases hq1 : q < 18446744073709551615
    all_goals cases up <;> cases bel
    all_goals
      go_enter Tryd.func74, Tryd.ntmps74
      go_wp2_with (first
        | (go_at_call 86; refine (size_any _ _ (by omega) (by omega)).mono ?_; rintro e w' ⟨rfl, rfl⟩)
        | (go_at_call 81; refine (wide_any _ _ _ (by omega) (by omega) (by omega) (by omega)).mono ?_; rintro e w' ⟨rfl, rfl⟩)
        | (go_at_call 87; refine (div64_any _ _ _ _ (by omega) (by omega) (by omega) (by omega) (by omega)).mono ?_; rintro e w' ⟨rfl, k, rfl⟩)
        | (go_at_call 88; refine (signed_any _ _ _ (by omega) (by omega)).mono ?_; rintro e w' ⟨rfl, rfl⟩))
      go_ret2
      have h := hR.out
      simp [hm1, hq1] at h
      first
        | exact ⟨ret_ib h.1 h.2, _, rfl⟩
        | (rw [if_neg (by omega)] at h; exact ⟨ret_ib h.1 h.2, _, rfl⟩)
  · cases up <;> cases bel
    all_goals
      go_enter Tryd.func74, Tryd.ntmps74
      go_wp2_with (first
        | (go_at_call 86; refine (size_any _ _ (by omega) (by omega)).mono ?_; rintro e w' ⟨rfl, rfl⟩)
        | (go_at_call 81; refine (wide_any _ _ _ (by omega) (by omega) (by omega) (by omega)).mono ?_; rintro e w' ⟨rfl, rfl⟩)
        | (go_at_call 87; refine (div64_any _ _ _ _ (by omega) (by omega) (by omega) (by omega) (by omega)).mono ?_; rintro e w' ⟨rfl, k, rfl⟩)
        | (go_at_call 88; refine (signed_any _ _ _ (by omega) (by omega)).mono ?_; rintro e w' ⟨rfl, rfl⟩))
      go_ret2
      have h := hR.out
      simp at h
      first
        | exact ⟨ret_ib h.1 h.2, _, rfl⟩
        | (rw [if_neg (by omega)] at h; exact ⟨ret_ib h.1 h.2, _, rfl⟩)

theorem div_over (a b c A B : Int) (up : Bool) (w : World) (ha : -9223372036854775808 ≤ a) (ha2 : a ≤ 9223372036854775807) (hb : -9223372036854775808 ≤ b) (hb2 : b ≤ 9223372036854775807) (hc : 0 < c) (hc2 : c ≤ 9223372036854775807)
    (hA : (a.natAbs : Int) = A) (hB : (b.natAbs : Int) = B) (hA0 : 0 ≤ A) (hA1 : A ≤ 9223372036854775808) (hB0 : 0 ≤ B) (hB1 : B ≤ 9223372036854775808) (H : Int)
    (hH : hi64 (A * B) = H) (h2 : c ≤ H) (_h3 : H ≤ 9223372036854775807) :
    Calls Tryd.prog 74 #[.int .i64 a, .int .i64 b, .int .i64 c, .bool up] w fun e w' => e = .returned (.tuple #[.int .i64 0, .bool false]) ∧ w = w' := by
  go_enter Tryd.func74, Tryd.ntmps74
  go_wp2_with (first
    | (go_at_call 86; refine (size_any _ _ (by omega) (by omega)).mono ?_; rintro e w' ⟨rfl, rfl⟩)
    | (go_at_call 81; refine (wide_any _ _ _ (by omega) (by omega) (by omega) (by omega)).mono ?_; rintro e w' ⟨rfl, rfl⟩))
  go_ret2
  exact ⟨rfl, rfl⟩

theorem div_pos (a b c : Int) (up : Bool) (w : World) (ha : -9223372036854775808 ≤ a) (ha2 : a ≤ 9223372036854775807) (hb : -9223372036854775808 ≤ b) (hb2 : b ≤ 9223372036854775807) (hc : 0 < c) (hc2 : c ≤ 9223372036854775807) :
    Calls Tryd.prog 74 #[.int .i64 a, .int .i64 b, .int .i64 c, .bool up] w fun e w' => e = .returned (.tuple #[.int .i64 (cap64 (divq a b c up)), .bool (in64 (divq a b c up))]) ∧ ∃ n, w' = w.drewN n := by
  have hd := divq_size a b c up hc
  obtain ⟨A, hA⟩ : ∃ x : Int, (a.natAbs : Int) = x := ⟨_, rfl⟩
  obtain ⟨B, hB⟩ : ∃ x : Int, (b.natAbs : Int) = x := ⟨_, rfl⟩
  have hA0 : 0 ≤ A := by omega
  have hA1 : A ≤ 9223372036854775808 := by omega
  have hB0 : 0 ≤ B := by omega
  have hB1 : B ≤ 9223372036854775808 := by omega
  have hm := mul_le_half hA0 hB0 hA1 hB1
  rw [hA, hB] at hd
  have hP : hi64 (A * B) * 18446744073709551616 + lo64 (A * B) = A * B := by unfold hi64 lo64; omega
  have h1 : 0 ≤ hi64 (A * B) := by unfold hi64; omega
  have h2 : hi64 (A * B) ≤ 9223372036854775807 := by unfold hi64; omega
  have h3 : 0 ≤ lo64 (A * B) := by unfold lo64; omega
  have h4 : lo64 (A * B) ≤ 18446744073709551615 := by unfold lo64; omega
  by_cases hg : hi64 (A * B) < c
  · have q0 : 0 ≤ A * B / c := Int.ediv_nonneg hm.1 (by omega)
    have q1 : A * B / c < 18446744073709551616 := Int.ediv_lt_of_lt_mul hc (by omega)
    have m0 := Int.emod_nonneg (A * B) (show c ≠ 0 by omega)
    refine div_walk a b c A B _ _ _ _ up _ w ha ha2 hb hb2 hc hc2 hA hB hA0 hA1 hB0 hB1 rfl rfl h1 hg h3 h4 hP rfl rfl q0 (by omega) m0 rfl (divq a b c up) ?_
    exact div_end hd q0 m0
  · have hbig : in64 (divq a b c up) = false := by
      have hq : 18446744073709551616 ≤ A * B / c := (Int.le_ediv_iff_mul_le hc).2 (by omega)
      rw [in64_no, hd]
      unfold sizeq
      split <;> split <;> (first | omega | (split <;> omega))
    refine (div_over a b c A B up w ha ha2 hb hb2 hc hc2 hA hB hA0 hA1 hB0 hB1 _ rfl (by omega) h2).mono ?_
    rintro e w' ⟨rfl, rfl⟩
    exact ⟨ret_ib (cap64_no hbig).symm hbig.symm, 0, rfl⟩

/-- Div, whatever it is given. -/
def divOk (a b c : Int) (up : Bool) : Bool := decide (0 < c) && in64 (divq a b c up)
def divAns (a b c : Int) (up : Bool) : Int := if divOk a b c up = true then divq a b c up else 0
theorem div_any (a b c : Int) (up : Bool) (w : World) (ha : -9223372036854775808 ≤ a) (ha2 : a ≤ 9223372036854775807) (hb : -9223372036854775808 ≤ b) (hb2 : b ≤ 9223372036854775807) (hc2 : c ≤ 9223372036854775807) :
    Calls Tryd.prog 74 #[.int .i64 a, .int .i64 b, .int .i64 c, .bool up] w fun e w' => e = .returned (.tuple #[.int .i64 (divAns a b c up), .bool (divOk a b c up)]) ∧ ∃ n, w' = w.drewN n := by
  by_cases hc : 0 < c
  · have e1 : divOk a b c up = in64 (divq a b c up) := by simp [divOk, hc]
    have e2 : divAns a b c up = cap64 (divq a b c up) := by unfold divAns cap64; rw [e1]
    rw [e1, e2]
    exact div_pos a b c up w ha ha2 hb hb2 hc hc2
  · have e1 : divOk a b c up = false := by simp [divOk, hc]
    have e2 : divAns a b c up = 0 := by unfold divAns; rw [e1]; rfl
    rw [e1, e2]
    refine (div_no a b c up w (by omega)).mono ?_
    rintro e w' ⟨rfl, rfl⟩
    exact ⟨rfl, 0, rfl⟩
end Go.Proofs.YtaojahjgfgmpfaaDoor
