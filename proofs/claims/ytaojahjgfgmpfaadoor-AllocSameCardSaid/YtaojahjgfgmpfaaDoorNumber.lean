/-
  pledgeworld.Number: a number from 0 up to less than a bound.
-/
import Derived.Test.YtaojahjgfgmpfaaDoorProg
import Derived.Test.YtaojahjgfgmpfaaDoorRet
import Derived.WalkKit
import Derived.WalkSpells
import Derived.WalkLawsBesides
import Derived.Outline
namespace Go.Proofs.YtaojahjgfgmpfaaDoor
open Go.RowKit

theorem number_any (n b : Int) (w : World) (hlo : -9223372036854775808 ≤ n) (hhi : n ≤ 9223372036854775807) (hb : 1 ≤ b) (hb2 : b ≤ 4611686018427387904) :
    Calls Tryd.prog 23 #[.int .i64 n, .int .i64 b] w fun e w' => e = .returned (.int .i64 (n % b)) ∧ w = w' := by
  have h2 := Int.emod_lt_of_pos n (show 0 < b by omega)
  have h3 := Int.emod_nonneg n (show b ≠ 0 by omega)
  have he := Int.tmod_eq_emod (a := n) (b := b)
  by_cases h0 : 0 ≤ n
  · clear h2 he
    go_enter Tryd.func23, Tryd.ntmps23
    go_wp2
    go_ret
    exact ⟨rfl, rfl⟩
  · by_cases hd : b ∣ n
    · have e0 : n % b = 0 := Int.emod_eq_zero_of_dvd hd
      rw [if_pos (Or.inr hd), e0] at he
      have e1 : n.tmod b = 0 := by omega
      rw [e0]
      clear he e0 hd h2 h3
      go_enter Tryd.func23, Tryd.ntmps23
      go_wp2
      go_ret
      exact ⟨rfl, rfl⟩
    · have e0 : n % b ≠ 0 := fun e => hd (Int.dvd_of_emod_eq_zero e)
      rw [if_neg (by intro h; rcases h with h | h; exact h0 h; exact hd h)] at he
      have h4 : n.tmod b < 0 := by omega
      have h5 : -4611686018427387904 ≤ n.tmod b := by omega
      have h6 := hidden (show n.tmod b + b = n % b by omega)
      clear he e0 hd h2 h3
      go_enter Tryd.func23, Tryd.ntmps23
      go_wp2
      go_ret
      exact ⟨ret_int h6.out, rfl⟩
end Go.Proofs.YtaojahjgfgmpfaaDoor
