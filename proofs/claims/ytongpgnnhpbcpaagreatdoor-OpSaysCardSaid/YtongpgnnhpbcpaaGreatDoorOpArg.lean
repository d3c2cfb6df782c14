/-
  What an argument that is an operation reads as.
-/
import Derived.Test.YtongpgnnhpbcpaaGreatDoorArgs
import Derived.Test.YtongpgnnhpbcpaaGreatDoorOp1
import Derived.Lib.SmallJoins
namespace Go.Proofs.YtongpgnnhpbcpaaGreatDoor
open Go Go.ChangeShapes Go.WideShapes Go.ChangeAt Go.RowKit Go.Deep
set_option linter.unusedVariables false

theorem op_big {a0 a1 a2 a3 a4 a5 a6 a7 : Int} (h0 : -9223372036854775808 ≤ a0 ∧ a0 ≤ 9223372036854775807) (h1 : -9223372036854775808 ≤ a1 ∧ a1 ≤ 9223372036854775807) (h2 : -9223372036854775808 ≤ a2 ∧ a2 ≤ 9223372036854775807) (h3 : -9223372036854775808 ≤ a3 ∧ a3 ≤ 9223372036854775807) (h4 : -9223372036854775808 ≤ a4 ∧ a4 ≤ 9223372036854775807) (h5 : -9223372036854775808 ≤ a5 ∧ a5 ≤ 9223372036854775807) (h6 : -9223372036854775808 ≤ a6 ∧ a6 ≤ 9223372036854775807) (h7 : -9223372036854775808 ≤ a7 ∧ a7 ≤ 9223372036854775807) : OpBig ⟨a0, a1, a2, a3, a4, a5, a6, a7⟩ := fun x hx => by
  simp only [nums, List.mem_cons, List.not_mem_nil, or_false] at hx
  rcases hx with rfl | rfl | rfl | rfl | rfl | rfl | rfl | rfl <;> assumption
set_option maxRecDepth 100000 in
theorem op_of_trod {H : Type} {enc : TypeId × Value → H} {W : World} {base : Nat} {sp : Nat → Bool} {held : Bool} {n : Nat} {cs : List Value} {x : DataW H × List MemPlace}
    (h : DataW.trod enc Tryz.prog W base sp held n 23 cs = some x) : ∃ o : Opv, cs.toArray = #[Value.int .i64 o.id, .int .i64 o.kd, .int .i64 o.a, .int .i64 o.b, .int .i64 o.c, .int .i64 o.d, .int .i64 o.n, .int .i64 o.m] ∧ OpBig o := by
  obtain ⟨xs, m, _, hx, hl, hlen, hg⟩ := DataW.trod_struct Tryz.underlying23 h
  have hl8 : cs.length = 8 := hl.trans (by kernel_rfl)
  have e1 : Tryz.prog.cellsOf 3 = 1 := by kernel_rfl
  have e2 : Tryz.prog.cellsOf 2 = 1 := by kernel_rfl
  match cs, xs, hl8, hlen with
  | [c0, c1, c2, c3, c4, c5, c6, c7], [y0, y1, y2, y3, y4, y5, y6, y7], _, _ =>
    have q0 : DataW.trod enc Tryz.prog W base sp held m 2 (([c0, c1, c2, c3, c4, c5, c6, c7].drop 0).take (Tryz.prog.cellsOf 2)) = some y0 := hg 0 _ rfl
    have q1 : DataW.trod enc Tryz.prog W base sp held m 3 (([c0, c1, c2, c3, c4, c5, c6, c7].drop 1).take (Tryz.prog.cellsOf 3)) = some y1 := hg 1 _ rfl
    have q2 : DataW.trod enc Tryz.prog W base sp held m 3 (([c0, c1, c2, c3, c4, c5, c6, c7].drop 2).take (Tryz.prog.cellsOf 3)) = some y2 := hg 2 _ rfl
    have q3 : DataW.trod enc Tryz.prog W base sp held m 3 (([c0, c1, c2, c3, c4, c5, c6, c7].drop 3).take (Tryz.prog.cellsOf 3)) = some y3 := hg 3 _ rfl
    have q4 : DataW.trod enc Tryz.prog W base sp held m 3 (([c0, c1, c2, c3, c4, c5, c6, c7].drop 4).take (Tryz.prog.cellsOf 3)) = some y4 := hg 4 _ rfl
    have q5 : DataW.trod enc Tryz.prog W base sp held m 3 (([c0, c1, c2, c3, c4, c5, c6, c7].drop 5).take (Tryz.prog.cellsOf 3)) = some y5 := hg 5 _ rfl
    have q6 : DataW.trod enc Tryz.prog W base sp held m 2 (([c0, c1, c2, c3, c4, c5, c6, c7].drop 6).take (Tryz.prog.cellsOf 2)) = some y6 := hg 6 _ rfl
    have q7 : DataW.trod enc Tryz.prog W base sp held m 2 (([c0, c1, c2, c3, c4, c5, c6, c7].drop 7).take (Tryz.prog.cellsOf 2)) = some y7 := hg 7 _ rfl
    rw [e1] at q1 q2 q3 q4 q5
    rw [e2] at q0 q6 q7
    obtain ⟨n0, r0, _, w0⟩ := DataW.trod_int Tryz.underlying2 q0
    obtain ⟨n1, r1, _, w1⟩ := DataW.trod_int Tryz.underlying3 q1
    obtain ⟨n2, r2, _, w2⟩ := DataW.trod_int Tryz.underlying3 q2
    obtain ⟨n3, r3, _, w3⟩ := DataW.trod_int Tryz.underlying3 q3
    obtain ⟨n4, r4, _, w4⟩ := DataW.trod_int Tryz.underlying3 q4
    obtain ⟨n5, r5, _, w5⟩ := DataW.trod_int Tryz.underlying3 q5
    obtain ⟨n6, r6, _, w6⟩ := DataW.trod_int Tryz.underlying2 q6
    obtain ⟨n7, r7, _, w7⟩ := DataW.trod_int Tryz.underlying2 q7
    simp at r0 r1 r2 r3 r4 r5 r6 r7
    subst r0; subst r1; subst r2; subst r3; subst r4; subst r5; subst r6; subst r7
    exact ⟨⟨n0, n1, n2, n3, n4, n5, n6, n7⟩, rfl, op_big (bounds_i64 w0) (bounds_i64 w1) (bounds_i64 w2) (bounds_i64 w3) (bounds_i64 w4) (bounds_i64 w5) (bounds_i64 w6) (bounds_i64 w7)⟩
set_option maxRecDepth 100000 in
theorem op_of_arg {H : Type} {enc : TypeId × Value → H} {W : World} {base b0 : Nat} {sp : Nat → Bool} {held : Bool} {r : Reach} {v : Value} {d : DataW H} {p : List MemPlace}
    (hv : Value.okWide Tryz.prog W r b0 23 v) (h : DataW.Trod enc Tryz.prog W base sp held 23 v d p) : ∃ o : Opv, v = opV o ∧ OpBig o := by
  obtain ⟨cs, rfl, hsz⟩ := okWide_struct Tryz.underlying23 hv
  obtain ⟨fuel, hf⟩ := h
  obtain ⟨a, e, hb⟩ := op_of_trod hf
  refine ⟨a, ?_, hb⟩
  have e2 : cs = _ := e
  rw [e2]
end Go.Proofs.YtongpgnnhpbcpaaGreatDoor
