/-
  What an argument that is a slice of states reads as.
-/
import Derived.Test.YtefjemkpbkikbaaDoorArgsRow
import Derived.Test.YtefjemkpbkikbaaDoorNeed1
namespace Go.Proofs.YtefjemkpbkikbaaDoor
open Go Go.ChangeShapes Go.WideShapes Go.ChangeAt Go.RowKit Go.Deep
set_option linter.unusedVariables false

set_option maxRecDepth 100000 in
theorem nd_of_trod {H : Type} {enc : TypeId × Value → H} {W : World} {base : Nat} {sp : Nat → Bool} {held : Bool} {n : Nat} {cs : List Value} {x : DataW H × List MemPlace}
    (h : DataW.trod enc Tryd.prog W base sp held n 25 cs = some x) : ∃ s : Nd, cs = ndV s ∧ ndBig s := by
  obtain ⟨xs, m, _, hx, hl, hlen, hg⟩ := DataW.trod_struct Tryd.underlying25 h
  have hl2 : cs.length = 2 := hl.trans (by kernel_rfl)
  have e1 : Tryd.prog.cellsOf 2 = 1 := by kernel_rfl
  match cs, xs, hl2, hlen with
  | [c0, c1], [y0, y1], _, _ =>
    have q0 : DataW.trod enc Tryd.prog W base sp held m 2 (([c0, c1].drop 0).take (Tryd.prog.cellsOf 2)) = some y0 := hg 0 _ rfl
    have q1 : DataW.trod enc Tryd.prog W base sp held m 2 (([c0, c1].drop 1).take (Tryd.prog.cellsOf 2)) = some y1 := hg 1 _ rfl
    rw [e1] at q0 q1
    obtain ⟨n0, r0, _, w0⟩ := DataW.trod_int Tryd.underlying2 q0
    obtain ⟨n1, r1, _, w1⟩ := DataW.trod_int Tryd.underlying2 q1
    simp at r0 r1
    subst r0; subst r1
    exact ⟨⟨n0, n1⟩, rfl, bounds_i64 w0, bounds_i64 w1⟩
theorem states_of_arg {H : Type} {enc : TypeId × Value → H} {W : World} {base : Nat} {sp : Nat → Bool} {held : Bool} {a : Option Addr} {len cap : Nat} {d : DataW H} {p : List MemPlace}
    (h : DataW.Trod enc Tryd.prog W base sp held 22 (.slice a len cap) d p) : ∃ zs, Row ndV 2 W (.slice a len cap) zs ∧ ∀ z ∈ zs, ndBig z :=
  rows_of_arg ndZ ndBig Tryd.underlying22 (by kernel_rfl) (by decide) ndV_len (fun _ _ _ h => nd_of_trod h) h
end Go.Proofs.YtefjemkpbkikbaaDoor
