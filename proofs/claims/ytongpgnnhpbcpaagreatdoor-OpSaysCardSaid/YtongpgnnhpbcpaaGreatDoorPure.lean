import Derived.Test.YtongpgnnhpbcpaaGreatDoorProg
import Derived.Test.YtongpgnnhpbcpaaGreatDoorMath
import Derived.Test.YtongpgnnhpbcpaaGreatDoorRet
import Derived.WalkKit
import Derived.WalkSpells
import Derived.WalkLawsBesides
import Derived.Outline
namespace Go.Proofs.YtongpgnnhpbcpaaGreatDoor
open Go.RowKit

theorem zigzag_any (n : Int) (w : World) (hlo : -9223372036854775808 ≤ n) (hhi : n ≤ 9223372036854775807) :
    Calls Tryz.prog 52 #[.int .i64 n] w fun e w' => e = .returned (.int .u64 (zz n)) ∧ w = w' := by
  go_enter Tryz.func52, Tryz.ntmps52
  go_wp2
  go_ret
  exact ⟨ret_int (zz_eq n hlo hhi), rfl⟩

theorem unzigzag_any (u : Int) (w : World) (hlo : 0 ≤ u) (hhi : u ≤ 18446744073709551615) :
    Calls Tryz.prog 71 #[.int .u64 u] w fun e w' => e = .returned (.int .i64 (uz u)) ∧ w = w' := by
  go_enter Tryz.func71, Tryz.ntmps71
  go_wp2
  go_ret
  exact ⟨ret_int (uz_eq u hlo hhi), rfl⟩
end Go.Proofs.YtongpgnnhpbcpaaGreatDoor
