/-
  What an argument that is a slice of words reads as.
-/
import Derived.Test.YtongpgnnhpbcpaaGreatDoorArgs
import Derived.Test.YtongpgnnhpbcpaaGreatDoorOp5
namespace Go.Proofs.YtongpgnnhpbcpaaGreatDoor
open Go Go.ChangeShapes Go.WideShapes Go.ChangeAt Go.RowKit Go.Deep
set_option linter.unusedVariables false

theorem word_of_trod {H : Type} {enc : TypeId × Value → H} {W : World} {base : Nat} {sp : Nat → Bool} {held : Bool} {n : Nat} {cs : List Value} {x : DataW H × List MemPlace}
    (h : DataW.trod enc Tryz.prog W base sp held n 9 cs = some x) : ∃ l : List UInt8, cs = wdF l ∧ l.length ≤ maxLen := by
  obtain ⟨s, rfl, _, hs⟩ := DataW.trod_string Tryz.underlying9 h
  exact ⟨s.data.toList, rfl, by have e : s.data.toList.length = s.size := by rw [Array.length_toList]; rfl
                                omega⟩
theorem words_of_arg {H : Type} {enc : TypeId × Value → H} {W : World} {base : Nat} {sp : Nat → Bool} {held : Bool} {a : Option Addr} {len cap : Nat} {d : DataW H} {p : List MemPlace}
    (h : DataW.Trod enc Tryz.prog W base sp held 25 (.slice a len cap) d p) : ∃ zs, Row wdF 1 W (.slice a len cap) zs ∧ ∀ z ∈ zs, z.length ≤ maxLen :=
  rows_of_arg ([] : List UInt8) (fun l => l.length ≤ maxLen) Tryz.underlying25 (by kernel_rfl) (by decide) wdF_len (fun _ _ _ h => word_of_trod h) h
end Go.Proofs.YtongpgnnhpbcpaaGreatDoor
