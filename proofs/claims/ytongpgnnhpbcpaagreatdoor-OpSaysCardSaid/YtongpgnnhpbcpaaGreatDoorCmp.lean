/-
  cmp.Compare, cmp.Or at int.
-/
import Derived.Test.YtongpgnnhpbcpaaGreatDoorBase
import Derived.Test.YtongpgnnhpbcpaaGreatDoorProg
import Derived.WalkKit
import Derived.WalkSpells
import Derived.WalkLawsBesides
import Derived.Outline
namespace Go.Proofs.YtongpgnnhpbcpaaGreatDoor
open Go.RowKit
set_option linter.unusedVariables false

/-- -1, 0 or 1. -/
def sgv (x y : Int) : Int := if x < y then -1 else if y < x then 1 else 0
theorem sgv_lt {x y : Int} (h : x < y) : sgv x y = -1 := if_pos h
theorem sgv_gt {x y : Int} (h : y < x) : sgv x y = 1 := by unfold sgv; rw [if_neg (by omega), if_pos h]
theorem sgv_eq (x : Int) : sgv x x = 0 := by unfold sgv; rw [if_neg (by omega), if_neg (by omega)]
/-- the first that is not 0. -/
def orL : List Int → Int
  | [] => 0
  | x :: l => if x = 0 then orL l else x
theorem orL_drop {l : List Int} {k : Nat} (h : k < l.length) : orL (l.drop k) = if l.getD k 0 = 0 then orL (l.drop (k + 1)) else l.getD k 0 := by
  rw [List.drop_eq_getElem_cons h, orL, List.getD_eq_getElem?_getD, List.getElem?_eq_getElem h]
  rfl
def OrLAt (l : List Int) (w0 : World) (i : Value) (w : World) : Prop := ∃ k : Nat, k ≤ l.length ∧ i = .int .i64 (k : Int) ∧ orL l = orL (l.drop k) ∧ w0 = w
end Go.Proofs.YtongpgnnhpbcpaaGreatDoor
