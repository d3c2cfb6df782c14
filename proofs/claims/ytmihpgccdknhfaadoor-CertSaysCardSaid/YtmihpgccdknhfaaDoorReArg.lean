/-
  What an argument that is a result reads as.
-/
import Derived.Test.YtmihpgccdknhfaaDoorPbArg
import Derived.Test.YtmihpgccdknhfaaDoorAllocC
namespace Go.Proofs.YtmihpgccdknhfaaDoor
open Go Go.ChangeShapes Go.WideShapes Go.ChangeAt Go.RowKit Go.Deep
set_option linter.unusedVariables false

structure ReX where
  tv : Value
  T : List Int
  wt : Int
  c : Int
  s : Bool
  k : Int
structure ReIs (w : World) (r : ReX) : Prop where
  reads : Reads .i64 w r.tv r.T
  big : ∀ x ∈ r.T, In64 x
  worth : In64 r.wt
  cost : In64 r.c
  look : In64 r.k
set_option maxRecDepth 100000 in
theorem result_of_arg {H : Type} {enc : TypeId × Value → H} {W : World} {base b0 : Nat} {sp : Nat → Bool} {held : Bool} {r : Reach} {v : Value} {d : DataW H} {p : List MemPlace}
    (hv : Value.okWide Tryd.prog W r b0 28 v) (h : DataW.Trod enc Tryd.prog W base sp held 28 v d p) : ∃ y : ReX, v = reA y.tv y.wt y.c y.s y.k ∧ ReIs W y := by
  obtain ⟨cs, rfl, hsz⟩ := okWide_struct Tryd.underlying28 hv
  obtain ⟨fuel, hf⟩ := h
  obtain ⟨xs, m, _, hx, hl, hlen, hg⟩ := DataW.trod_struct Tryd.underlying28 hf
  have hl5 : (Value.agg cs).cells.toList.length = 5 := hl.trans (by kernel_rfl)
  have e1 : Tryd.prog.cellsOf 26 = 1 := by kernel_rfl
  have e2 : Tryd.prog.cellsOf 2 = 1 := by kernel_rfl
  have e3 : Tryd.prog.cellsOf 4 = 1 := by kernel_rfl
  have e4 : Tryd.prog.cellsOf 3 = 1 := by kernel_rfl
  have ec : (Value.agg cs).cells.toList = cs.toList := rfl
  rw [ec] at hl5 hg
  generalize hcs : cs.toList = ls at *
  match ls, xs, hl5, hlen with
  | [c0, c1, c2, c3, c4], [y0, y1, y2, y3, y4], _, _ =>
    have q0 : DataW.trod enc Tryd.prog W base sp held m 26 (([c0, c1, c2, c3, c4].drop 0).take (Tryd.prog.cellsOf 26)) = some y0 := hg 0 _ rfl
    have q1 : DataW.trod enc Tryd.prog W base sp held m 2 (([c0, c1, c2, c3, c4].drop 1).take (Tryd.prog.cellsOf 2)) = some y1 := hg 1 _ rfl
    have q2 : DataW.trod enc Tryd.prog W base sp held m 2 (([c0, c1, c2, c3, c4].drop 2).take (Tryd.prog.cellsOf 2)) = some y2 := hg 2 _ rfl
    have q3 : DataW.trod enc Tryd.prog W base sp held m 4 (([c0, c1, c2, c3, c4].drop 3).take (Tryd.prog.cellsOf 4)) = some y3 := hg 3 _ rfl
    have q4 : DataW.trod enc Tryd.prog W base sp held m 3 (([c0, c1, c2, c3, c4].drop 4).take (Tryd.prog.cellsOf 3)) = some y4 := hg 4 _ rfl
    rw [e1] at q0
    rw [e2] at q1 q2
    rw [e3] at q3
    rw [e4] at q4
    obtain ⟨⟨a0, l0, k0, rfl⟩, t0⟩ := slice_cell Tryd.underlying26 (show DataW.trod enc Tryd.prog W base sp held m 26 [c0] = some y0 from q0)
    obtain ⟨n1, r1, _, w1⟩ := DataW.trod_int Tryd.underlying2 q1
    obtain ⟨n2, r2, _, w2⟩ := DataW.trod_int Tryd.underlying2 q2
    obtain ⟨n3, r3, _⟩ := DataW.trod_bool Tryd.underlying4 q3
    obtain ⟨n4, r4, _, w4⟩ := DataW.trod_int Tryd.underlying3 q4
    simp at r1 r2 r3 r4
    subst r1; subst r2; subst r3; subst r4
    obtain ⟨zT, hT, bT⟩ := reads_of_arg Tryd.underlying26 Tryd.underlying3 (by kernel_rfl) t0
    refine ⟨⟨.slice a0 l0 k0, zT, n1, n2, n3, n4⟩, ?_, ⟨hT, fun x hx => bounds_i64 (bT x hx), bounds_i64 w1, bounds_i64 w2, bounds_i64 w4⟩⟩
    rw [← Array.toArray_toList (xs := cs), hcs]
end Go.Proofs.YtmihpgccdknhfaaDoor
