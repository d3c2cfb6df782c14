/-
  What an argument that is a slice of entries reads as.
-/
import Derived.Test.YtfoiclgipnlfnaaDoorArgsRow
import Derived.Test.YtfoiclgipnlfnaaDoorSchedPlaysWalk
namespace Go.Proofs.YtfoiclgipnlfnaaDoor
open Go Go.ChangeShapes Go.WideShapes Go.ChangeAt Go.RowKit Go.Deep
set_option linter.unusedVariables false

theorem en_of_trod {H : Type} {enc : TypeId × Value → H} {W : World} {base : Nat} {sp : Nat → Bool} {held : Bool} {n : Nat} {cs : List Value} {x : DataW H × List MemPlace}
    (h : DataW.trod enc Tryd.prog W base sp held n 25 cs = some x) : ∃ a : En, cs = enV a ∧ EnBig a := by
  obtain ⟨xs, m, _, hx, hl, hlen, hg⟩ := DataW.trod_struct Tryd.underlying25 h
  have hl3 : cs.length = 3 := hl.trans (by kernel_rfl)
  have e1 : Tryd.prog.cellsOf 3 = 1 := by kernel_rfl
  have e2 : Tryd.prog.cellsOf 4 = 1 := by kernel_rfl
  match cs, xs, hl3, hlen with
  | [c0, c1, c2], [y0, y1, y2], _, _ =>
    have q0 : DataW.trod enc Tryd.prog W base sp held m 3 (([c0, c1, c2].drop 0).take (Tryd.prog.cellsOf 3)) = some y0 := hg 0 _ rfl
    have q1 : DataW.trod enc Tryd.prog W base sp held m 3 (([c0, c1, c2].drop 1).take (Tryd.prog.cellsOf 3)) = some y1 := hg 1 _ rfl
    have q2 : DataW.trod enc Tryd.prog W base sp held m 4 (([c0, c1, c2].drop 2).take (Tryd.prog.cellsOf 4)) = some y2 := hg 2 _ rfl
    rw [e1] at q0 q1
    rw [e2] at q2
    obtain ⟨n0, r0, _, w0⟩ := DataW.trod_int Tryd.underlying3 q0
    obtain ⟨n1, r1, _, w1⟩ := DataW.trod_int Tryd.underlying3 q1
    obtain ⟨n2, r2, _⟩ := DataW.trod_bool Tryd.underlying4 q2
    simp at r0 r1 r2
    subst r0; subst r1; subst r2
    exact ⟨⟨n0, n1, n2⟩, rfl, bounds_i64 w0, bounds_i64 w1⟩
theorem entries_of_arg {H : Type} {enc : TypeId × Value → H} {W : World} {base : Nat} {sp : Nat → Bool} {held : Bool} {a : Option Addr} {len cap : Nat} {d : DataW H} {p : List MemPlace}
    (h : DataW.Trod enc Tryd.prog W base sp held 22 (.slice a len cap) d p) : ∃ zs, Row enV 3 W (.slice a len cap) zs ∧ ∀ z ∈ zs, EnBig z :=
  rows_of_arg enZ EnBig Tryd.underlying22 (by kernel_rfl) (by decide) enV_len (fun _ _ _ h => en_of_trod h) h
end Go.Proofs.YtfoiclgipnlfnaaDoor
