/-
  What an argument that is a problem reads as.
-/
import Derived.Test.YtmihpgccdknhfaaDoorArgs
import Derived.Test.YtmihpgccdknhfaaDoorLots1
import Derived.Test.YtmihpgccdknhfaaDoorLotsLaw
import Derived.Lib.SmallJoins
namespace Go.Proofs.YtmihpgccdknhfaaDoor
open Go Go.ChangeShapes Go.WideShapes Go.ChangeAt Go.RowKit Go.Deep
set_option linter.unusedVariables false

structure PbX where
  lv : Value
  cv : Value
  L : List Lt
  C : List Int
  n : Int
structure PbIs (w : World) (p : PbX) : Prop where
  reads : PbR w p.lv p.cv p.L p.C
  need : In64 p.n
set_option maxRecDepth 100000 in
theorem lt_of_trod {H : Type} {enc : TypeId × Value → H} {W : World} {base : Nat} {sp : Nat → Bool} {held : Bool} {n : Nat} {cs : List Value} {x : DataW H × List MemPlace}
    (h : DataW.trod enc Tryd.prog W base sp held n 55 cs = some x) : ∃ y : Lt, cs = ltV y ∧ ltBig y := by
  obtain ⟨xs, m, _, hx, hl, hlen, hg⟩ := DataW.trod_struct Tryd.underlying55 h
  have hl4 : cs.length = 4 := hl.trans (by kernel_rfl)
  have e1 : Tryd.prog.cellsOf 3 = 1 := by kernel_rfl
  have e2 : Tryd.prog.cellsOf 2 = 1 := by kernel_rfl
  match cs, xs, hl4, hlen with
  | [c0, c1, c2, c3], [y0, y1, y2, y3], _, _ =>
    have q0 : DataW.trod enc Tryd.prog W base sp held m 3 (([c0, c1, c2, c3].drop 0).take (Tryd.prog.cellsOf 3)) = some y0 := hg 0 _ rfl
    have q1 : DataW.trod enc Tryd.prog W base sp held m 2 (([c0, c1, c2, c3].drop 1).take (Tryd.prog.cellsOf 2)) = some y1 := hg 1 _ rfl
    have q2 : DataW.trod enc Tryd.prog W base sp held m 2 (([c0, c1, c2, c3].drop 2).take (Tryd.prog.cellsOf 2)) = some y2 := hg 2 _ rfl
    have q3 : DataW.trod enc Tryd.prog W base sp held m 3 (([c0, c1, c2, c3].drop 3).take (Tryd.prog.cellsOf 3)) = some y3 := hg 3 _ rfl
    rw [e1] at q0 q3
    rw [e2] at q1 q2
    obtain ⟨n0, r0, _, w0⟩ := DataW.trod_int Tryd.underlying3 q0
    obtain ⟨n1, r1, _, w1⟩ := DataW.trod_int Tryd.underlying2 q1
    obtain ⟨n2, r2, _, w2⟩ := DataW.trod_int Tryd.underlying2 q2
    obtain ⟨n3, r3, _, w3⟩ := DataW.trod_int Tryd.underlying3 q3
    simp at r0 r1 r2 r3
    subst r0; subst r1; subst r2; subst r3
    exact ⟨⟨n0, n1, n2, n3⟩, rfl, bounds_i64 w0, bounds_i64 w1, bounds_i64 w2, bounds_i64 w3⟩
/-- a slice that lies in one cell of a struct. -/
theorem slice_cell {P : Program} {H : Type} {enc : TypeId × Value → H} {W : World} {base : Nat} {sp : Nat → Bool} {held : Bool} {t e : TypeId} {fuel : Nat} {c : Value} {x : DataW H × List MemPlace} (ht : P.underlying t = some (.slice e))
    (h : DataW.trod enc P W base sp held fuel t [c] = some x) : (∃ a l k, c = .slice a l k) ∧ DataW.Trod enc P W base sp held t c x.1 x.2 := by
  rcases open_slice ht h with ⟨hcs, _⟩ | ⟨ad, l, k, m, n, D, Pl, hcs, _⟩
  · simp at hcs
    subst hcs
    exact ⟨⟨_, _, _, rfl⟩, fuel, by simpa [Value.cells] using h⟩
  · simp at hcs
    subst hcs
    exact ⟨⟨_, _, _, rfl⟩, fuel, by simpa [Value.cells] using h⟩
set_option maxRecDepth 100000 in
theorem problem_of_arg {H : Type} {enc : TypeId × Value → H} {W : World} {base b0 : Nat} {sp : Nat → Bool} {held : Bool} {r : Reach} {v : Value} {d : DataW H} {p : List MemPlace}
    (hv : Value.okWide Tryd.prog W r b0 25 v) (h : DataW.Trod enc Tryd.prog W base sp held 25 v d p) : ∃ y : PbX, v = pbA y.lv y.cv y.n ∧ PbIs W y := by
  obtain ⟨cs, rfl, hsz⟩ := okWide_struct Tryd.underlying25 hv
  obtain ⟨fuel, hf⟩ := h
  obtain ⟨xs, m, _, hx, hl, hlen, hg⟩ := DataW.trod_struct Tryd.underlying25 hf
  have hl3 : (Value.agg cs).cells.toList.length = 3 := hl.trans (by kernel_rfl)
  have e1 : Tryd.prog.cellsOf 22 = 1 := by kernel_rfl
  have e2 : Tryd.prog.cellsOf 23 = 1 := by kernel_rfl
  have e3 : Tryd.prog.cellsOf 2 = 1 := by kernel_rfl
  have ec : (Value.agg cs).cells.toList = cs.toList := rfl
  rw [ec] at hl3 hg
  generalize hcs : cs.toList = ls at *
  match ls, xs, hl3, hlen with
  | [c0, c1, c2], [y0, y1, y2], _, _ =>
    have q0 : DataW.trod enc Tryd.prog W base sp held m 22 (([c0, c1, c2].drop 0).take (Tryd.prog.cellsOf 22)) = some y0 := hg 0 _ rfl
    have q1 : DataW.trod enc Tryd.prog W base sp held m 23 (([c0, c1, c2].drop 1).take (Tryd.prog.cellsOf 23)) = some y1 := hg 1 _ rfl
    have q2 : DataW.trod enc Tryd.prog W base sp held m 2 (([c0, c1, c2].drop 2).take (Tryd.prog.cellsOf 2)) = some y2 := hg 2 _ rfl
    rw [e1] at q0
    rw [e2] at q1
    rw [e3] at q2
    obtain ⟨⟨a0, l0, k0, rfl⟩, t0⟩ := slice_cell Tryd.underlying22 (show DataW.trod enc Tryd.prog W base sp held m 22 [c0] = some y0 from q0)
    obtain ⟨⟨a1, l1, k1, rfl⟩, t1⟩ := slice_cell Tryd.underlying23 (show DataW.trod enc Tryd.prog W base sp held m 23 [c1] = some y1 from q1)
    obtain ⟨n2, r2, _, w2⟩ := DataW.trod_int Tryd.underlying2 q2
    simp at r2
    subst r2
    obtain ⟨zL, hL, bL⟩ := rows_of_arg ltZ ltBig Tryd.underlying22 (by kernel_rfl) (by decide) ltV_len (fun _ _ _ h => lt_of_trod h) t0
    obtain ⟨zC, hC, bC⟩ := reads_of_arg Tryd.underlying23 Tryd.underlying2 (by kernel_rfl) t1
    refine ⟨⟨.slice a0 l0 k0, .slice a1 l1 k1, zL, zC, n2⟩, ?_, ⟨hL, hC, bL, fun x hx => bounds_i64 (bC x hx)⟩, bounds_i64 w2⟩
    rw [← Array.toArray_toList (xs := cs), hcs]
end Go.Proofs.YtmihpgccdknhfaaDoor
