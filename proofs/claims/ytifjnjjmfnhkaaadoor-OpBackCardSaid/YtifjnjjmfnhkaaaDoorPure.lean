import Derived.Test.YtifjnjjmfnhkaaaDoorProg
import Derived.Test.YtifjnjjmfnhkaaaDoorMath
import Derived.Test.YtifjnjjmfnhkaaaDoorRet
import Derived.WalkKit
import Derived.WalkSpells
import Derived.WalkLawsBesides
import Derived.Outline
namespace Go.Proofs.YtifjnjjmfnhkaaaDoor
open Go.RowKit

theorem zigzag_any (n : Int) (w : World) (hlo : -9223372036854775808 ≤ n) (hhi : n ≤ 9223372036854775807) :
    Calls Tryd.prog 41 #[.int .i64 n] w fun e w' => e = .returned (.int .u64 (zz n)) ∧ w = w' := by
  go_enter Tryd.func41, Tryd.ntmps41
  go_wp2
  go_ret
  exact ⟨ret_int (zz_eq n hlo hhi), rfl⟩

theorem unzigzag_any (u : Int) (w : World) (hlo : 0 ≤ u) (hhi : u ≤ 18446744073709551615) :
    Calls Tryd.prog 51 #[.int .u64 u] w fun e w' => e = .returned (.int .i64 (uz u)) ∧ w = w' := by
  go_enter Tryd.func51, Tryd.ntmps51
  go_wp2
  go_ret
  exact ⟨ret_int (uz_eq u hlo hhi), rfl⟩
end Go.Proofs.YtifjnjjmfnhkaaaDoor
