/-
  What each call of package fix answers.
-/
import Derived.Test.YtefjemkpbkikbaaDoorProg
import Derived.Test.YtefjemkpbkikbaaDoorRet
import Derived.Test.YtefjemkpbkikbaaDoorQuoMath
import Derived.WalkKit
import Derived.WalkSpells
import Derived.WalkLawsBesides
import Derived.Outline
import Derived.Below
namespace Go.Proofs.YtefjemkpbkikbaaDoor
open Go.RowKit


theorem add_any (a b : Int) (w : World) (ha : -9223372036854775808 ≤ a) (ha2 : a ≤ 9223372036854775807) (hb : -9223372036854775808 ≤ b) (hb2 : b ≤ 9223372036854775807) :
    Calls Tryd.prog 23 #[.int .i64 a, .int .i64 b] w fun e w' => e = .returned (.tuple #[.int .i64 (cap64 (a + b)), .bool (in64 (a + b))]) ∧ w = w' := by
  go_enter Tryd.func23, Tryd.ntmps23
  go_wp2
  · rename_i h
    have hn : in64 (a + b) = false := add_no ha ha2 hb hb2 h
    go_ret2
    exact ⟨ret_ib (cap64_no hn).symm hn.symm, rfl⟩
  · rename_i h
    have hn := add_yes ha ha2 hb hb2 h
    go_ret2
    exact ⟨ret_ib (hn.2.trans (cap64_yes hn.1).symm) hn.1.symm, rfl⟩

/-- Div, whatever it is given. -/
def divOk (a b c : Int) (up : Bool) : Bool := decide (0 < c) && in64 (divq a b c up)
def divAns (a b c : Int) (up : Bool) : Int := if divOk a b c up = true then divq a b c up else 0
end Go.Proofs.YtefjemkpbkikbaaDoor
