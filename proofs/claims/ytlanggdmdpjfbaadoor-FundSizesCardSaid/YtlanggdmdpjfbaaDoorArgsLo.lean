/-
  What an argument that is a slice of losses that are set reads as.
-/
import Derived.Test.YtlanggdmdpjfbaaDoorArgs
import Derived.Test.YtlanggdmdpjfbaaDoorStressDo
namespace Go.Proofs.YtlanggdmdpjfbaaDoor
open Go Go.ChangeShapes Go.WideShapes Go.ChangeAt Go.RowKit Go.Deep
set_option linter.unusedVariables false

set_option maxRecDepth 100000 in
theorem cel_of_trod {H : Type} {enc : TypeId × Value → H} {W : World} {base : Nat} {sp : Nat → Bool} {held : Bool} {n : Nat} {cs : List Value} {x : DataW H × List MemPlace}
    (h : DataW.trod enc Tryd.prog W base sp held n 36 cs = some x) : ∃ m a, cs = [.int .i64 m, .int .i64 a] ∧ (-9223372036854775808 ≤ m ∧ m ≤ 9223372036854775807) ∧ (-9223372036854775808 ≤ a ∧ a ≤ 9223372036854775807) := by
  obtain ⟨xs, m, _, hx, hl, hlen, hg⟩ := DataW.trod_struct Tryd.underlying36 h
  have hl2 : cs.length = 2 := hl.trans (by kernel_rfl)
  have e1 : Tryd.prog.cellsOf 3 = 1 := by kernel_rfl
  match cs, xs, hl2, hlen with
  | [c0, c1], [y0, y1], _, _ =>
    have q0 : DataW.trod enc Tryd.prog W base sp held m 3 (([c0, c1].drop 0).take (Tryd.prog.cellsOf 3)) = some y0 := hg 0 _ rfl
    have q1 : DataW.trod enc Tryd.prog W base sp held m 3 (([c0, c1].drop 1).take (Tryd.prog.cellsOf 3)) = some y1 := hg 1 _ rfl
    rw [e1] at q0 q1
    obtain ⟨n0, r0, _, w0⟩ := DataW.trod_int Tryd.underlying3 q0
    obtain ⟨n1, r1, _, w1⟩ := DataW.trod_int Tryd.underlying3 q1
    simp at r0 r1
    subst r0; subst r1
    exact ⟨n0, n1, rfl, bounds_i64 w0, bounds_i64 w1⟩
end Go.Proofs.YtlanggdmdpjfbaaDoor
