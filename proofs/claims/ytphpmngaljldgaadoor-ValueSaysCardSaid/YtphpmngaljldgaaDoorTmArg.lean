/-
  What an argument that is terms reads as.
-/
import Derived.Test.YtphpmngaljldgaaDoorArgsRow
import Derived.Test.YtphpmngaljldgaaDoorValueMath
import Derived.Lib.SmallJoins
namespace Go.Proofs.YtphpmngaljldgaaDoor
open Go Go.ChangeShapes Go.WideShapes Go.ChangeAt Go.RowKit Go.Deep
set_option linter.unusedVariables false

theorem tm_of_trod {H : Type} {enc : TypeId × Value → H} {W : World} {base : Nat} {sp : Nat → Bool} {held : Bool} {n : Nat} {cs : List Value} {x : DataW H × List MemPlace}
    (h : DataW.trod enc Tryd.prog W base sp held n 25 cs = some x) : ∃ y : Tm, cs = [.int .i64 y.t, .int .i64 y.o, .bool y.n, .int .i64 y.p, .int .i64 y.r, .int .i64 y.c] ∧ TmBig y := by
  obtain ⟨xs, m, _, hx, hl, hlen, hg⟩ := DataW.trod_struct Tryd.underlying25 h
  have hl6 : cs.length = 6 := hl.trans (by kernel_rfl)
  have e1 : Tryd.prog.cellsOf 3 = 1 := by kernel_rfl
  have e2 : Tryd.prog.cellsOf 4 = 1 := by kernel_rfl
  have e3 : Tryd.prog.cellsOf 2 = 1 := by kernel_rfl
  match cs, xs, hl6, hlen with
  | [c0, c1, c2, c3, c4, c5], [y0, y1, y2, y3, y4, y5], _, _ =>
    have q0 : DataW.trod enc Tryd.prog W base sp held m 3 (([c0, c1, c2, c3, c4, c5].drop 0).take (Tryd.prog.cellsOf 3)) = some y0 := hg 0 _ rfl
    have q1 : DataW.trod enc Tryd.prog W base sp held m 3 (([c0, c1, c2, c3, c4, c5].drop 1).take (Tryd.prog.cellsOf 3)) = some y1 := hg 1 _ rfl
    have q2 : DataW.trod enc Tryd.prog W base sp held m 4 (([c0, c1, c2, c3, c4, c5].drop 2).take (Tryd.prog.cellsOf 4)) = some y2 := hg 2 _ rfl
    have q3 : DataW.trod enc Tryd.prog W base sp held m 2 (([c0, c1, c2, c3, c4, c5].drop 3).take (Tryd.prog.cellsOf 2)) = some y3 := hg 3 _ rfl
    have q4 : DataW.trod enc Tryd.prog W base sp held m 2 (([c0, c1, c2, c3, c4, c5].drop 4).take (Tryd.prog.cellsOf 2)) = some y4 := hg 4 _ rfl
    have q5 : DataW.trod enc Tryd.prog W base sp held m 2 (([c0, c1, c2, c3, c4, c5].drop 5).take (Tryd.prog.cellsOf 2)) = some y5 := hg 5 _ rfl
    rw [e1] at q0 q1
    rw [e2] at q2
    rw [e3] at q3 q4 q5
    obtain ⟨n0, r0, _, w0⟩ := DataW.trod_int Tryd.underlying3 q0
    obtain ⟨n1, r1, _, w1⟩ := DataW.trod_int Tryd.underlying3 q1
    obtain ⟨n2, r2, _⟩ := DataW.trod_bool Tryd.underlying4 q2
    obtain ⟨n3, r3, _, w3⟩ := DataW.trod_int Tryd.underlying2 q3
    obtain ⟨n4, r4, _, w4⟩ := DataW.trod_int Tryd.underlying2 q4
    obtain ⟨n5, r5, _, w5⟩ := DataW.trod_int Tryd.underlying2 q5
    simp at r0 r1 r2 r3 r4 r5
    subst r0; subst r1; subst r2; subst r3; subst r4; subst r5
    exact ⟨⟨n0, n1, n2, n3, n4, n5⟩, rfl, bounds_i64 w0, bounds_i64 w1, bounds_i64 w3, bounds_i64 w4, bounds_i64 w5⟩
theorem terms_of_arg {H : Type} {enc : TypeId × Value → H} {W : World} {base b0 : Nat} {sp : Nat → Bool} {held : Bool} {r : Reach} {v : Value} {d : DataW H} {p : List MemPlace}
    (hv : Value.okWide Tryd.prog W r b0 25 v) (h : DataW.Trod enc Tryd.prog W base sp held 25 v d p) : ∃ y : Tm, v = tmA y ∧ TmBig y := by
  obtain ⟨cs, rfl, hsz⟩ := okWide_struct Tryd.underlying25 hv
  obtain ⟨fuel, hf⟩ := h
  obtain ⟨y, e, hb⟩ := tm_of_trod hf
  refine ⟨y, ?_, hb⟩
  have e2 : cs.toList = [.int .i64 y.t, .int .i64 y.o, .bool y.n, .int .i64 y.p, .int .i64 y.r, .int .i64 y.c] := e
  rw [← Array.toArray_toList (xs := cs), e2]
end Go.Proofs.YtphpmngaljldgaaDoor
