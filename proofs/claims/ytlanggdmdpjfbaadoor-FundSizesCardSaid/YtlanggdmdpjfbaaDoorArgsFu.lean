/-
  What an argument that is a slice of losses that are set reads as (the fund's statements).
-/
import Derived.Test.YtlanggdmdpjfbaaDoorArgsLo
namespace Go.Proofs.YtlanggdmdpjfbaaDoor
open Go Go.ChangeShapes Go.WideShapes Go.ChangeAt Go.RowKit Go.Deep
set_option linter.unusedVariables false

set_option maxRecDepth 100000 in
theorem fdo_of_trod {H : Type} {enc : TypeId × Value → H} {W : World} {base : Nat} {sp : Nat → Bool} {held : Bool} {n : Nat} {cs : List Value} {x : DataW H × List MemPlace}
    (h : DataW.trod enc Tryd.prog W base sp held n 38 cs = some x) : ∃ d : LossD, cs = lossV d ∧ LossBig d := by
  obtain ⟨xs, m, _, hx, hl, hlen, hg⟩ := DataW.trod_struct Tryd.underlying38 h
  have hl4 : cs.length = 3 := hl.trans (by kernel_rfl)
  have e1 : Tryd.prog.cellsOf 36 = 2 := by kernel_rfl
  have e2 : Tryd.prog.cellsOf 2 = 1 := by kernel_rfl
  match cs, xs, hl4, hlen with
  | [c1, c2, c3], [y1, y2], _, _ =>
    have q1 : DataW.trod enc Tryd.prog W base sp held m 36 (([c1, c2, c3].drop 0).take (Tryd.prog.cellsOf 36)) = some y1 := hg 0 _ rfl
    have q2 : DataW.trod enc Tryd.prog W base sp held m 2 (([c1, c2, c3].drop 2).take (Tryd.prog.cellsOf 2)) = some y2 := hg 1 _ rfl
    rw [e1] at q1
    rw [e2] at q2
    obtain ⟨n1, n2, r1, w1, w2⟩ := cel_of_trod q1
    obtain ⟨n3, r3, _, w3⟩ := DataW.trod_int Tryd.underlying2 q2
    simp at r1 r3
    obtain ⟨r1, r2⟩ := r1
    subst r1; subst r2; subst r3
    exact ⟨⟨n1, n2, n3⟩, rfl, w1, w2, bounds_i64 w3⟩
theorem fdos_of_arg {H : Type} {enc : TypeId × Value → H} {W : World} {base : Nat} {sp : Nat → Bool} {held : Bool} {a : Option Addr} {len cap : Nat} {d : DataW H} {p : List MemPlace}
    (h : DataW.Trod enc Tryd.prog W base sp held 22 (.slice a len cap) d p) : ∃ zs, Row lossV 3 W (.slice a len cap) zs ∧ ∀ z ∈ zs, LossBig z :=
  rows_of_arg lossZ LossBig Tryd.underlying22 (by kernel_rfl) (by decide) lossV_len (fun _ _ _ h => fdo_of_trod h) h
end Go.Proofs.YtlanggdmdpjfbaaDoor
