/-
  What an argument that is an asset reads as.
-/
import Derived.Test.YtphpmngaljldgaaDoorArgsRow
import Derived.Test.YtphpmngaljldgaaDoorAssetMath
import Derived.Lib.SmallJoins
namespace Go.Proofs.YtphpmngaljldgaaDoor
open Go Go.ChangeShapes Go.WideShapes Go.ChangeAt Go.RowKit Go.Deep
set_option linter.unusedVariables false

theorem as_of_trod {H : Type} {enc : TypeId × Value → H} {W : World} {base : Nat} {sp : Nat → Bool} {held : Bool} {n : Nat} {cs : List Value} {x : DataW H × List MemPlace}
    (h : DataW.trod enc Tryd.prog W base sp held n 23 cs = some x) : ∃ a : As, cs = asV a ∧ AsBig a := by
  obtain ⟨xs, m, _, hx, hl, hlen, hg⟩ := DataW.trod_struct Tryd.underlying23 h
  have hl5 : cs.length = 5 := hl.trans (by kernel_rfl)
  have e1 : Tryd.prog.cellsOf 3 = 1 := by kernel_rfl
  match cs, xs, hl5, hlen with
  | [c0, c1, c2, c3, c4], [y0, y1, y2, y3, y4], _, _ =>
    have q0 : DataW.trod enc Tryd.prog W base sp held m 3 (([c0, c1, c2, c3, c4].drop 0).take (Tryd.prog.cellsOf 3)) = some y0 := hg 0 _ rfl
    have q1 : DataW.trod enc Tryd.prog W base sp held m 3 (([c0, c1, c2, c3, c4].drop 1).take (Tryd.prog.cellsOf 3)) = some y1 := hg 1 _ rfl
    have q2 : DataW.trod enc Tryd.prog W base sp held m 3 (([c0, c1, c2, c3, c4].drop 2).take (Tryd.prog.cellsOf 3)) = some y2 := hg 2 _ rfl
    have q3 : DataW.trod enc Tryd.prog W base sp held m 3 (([c0, c1, c2, c3, c4].drop 3).take (Tryd.prog.cellsOf 3)) = some y3 := hg 3 _ rfl
    have q4 : DataW.trod enc Tryd.prog W base sp held m 3 (([c0, c1, c2, c3, c4].drop 4).take (Tryd.prog.cellsOf 3)) = some y4 := hg 4 _ rfl
    rw [e1] at q0 q1 q2 q3 q4
    obtain ⟨n0, r0, _, w0⟩ := DataW.trod_int Tryd.underlying3 q0
    obtain ⟨n1, r1, _, w1⟩ := DataW.trod_int Tryd.underlying3 q1
    obtain ⟨n2, r2, _, w2⟩ := DataW.trod_int Tryd.underlying3 q2
    obtain ⟨n3, r3, _, w3⟩ := DataW.trod_int Tryd.underlying3 q3
    obtain ⟨n4, r4, _, w4⟩ := DataW.trod_int Tryd.underlying3 q4
    simp at r0 r1 r2 r3 r4
    subst r0; subst r1; subst r2; subst r3; subst r4
    exact ⟨⟨n0, n1, n2, n3, n4⟩, rfl, bounds_i64 w0, bounds_i64 w1, bounds_i64 w2, bounds_i64 w3, bounds_i64 w4⟩
theorem asset_of_arg {H : Type} {enc : TypeId × Value → H} {W : World} {base b0 : Nat} {sp : Nat → Bool} {held : Bool} {r : Reach} {v : Value} {d : DataW H} {p : List MemPlace}
    (hv : Value.okWide Tryd.prog W r b0 23 v) (h : DataW.Trod enc Tryd.prog W base sp held 23 v d p) : ∃ a : As, v = asA a ∧ AsBig a := by
  obtain ⟨cs, rfl, hsz⟩ := okWide_struct Tryd.underlying23 hv
  obtain ⟨fuel, hf⟩ := h
  obtain ⟨a, e, hb⟩ := as_of_trod hf
  refine ⟨a, ?_, hb⟩
  have e2 : cs.toList = asV a := e
  rw [← Array.toArray_toList (xs := cs), e2]
  rfl
end Go.Proofs.YtphpmngaljldgaaDoor
