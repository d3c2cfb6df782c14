/-
  rec.Key, rec.Read.
-/
import Derived.Test.YtongpgnnhpbcpaaGreatDoorRec1
import Derived.RegionTactic
import Derived.ChangeAlike
namespace Go.Proofs.YtongpgnnhpbcpaaGreatDoor
open Go.RowKit
set_option linter.unusedVariables false

abbrev plV (p a b : Int) : Value := .agg #[.int .i64 p, .int .i64 a, .int .i64 b]
/-- a place in a block of its own. -/
structure PlAt (w W : World) (p a b : Int) : Prop where
  c0 : W.cell? ⟨w.heap.size, 0, none⟩ = some (.int .i64 p)
  c1 : W.cell? ⟨w.heap.size, 1, none⟩ = some (.int .i64 a)
  c2 : W.cell? ⟨w.heap.size, 2, none⟩ = some (.int .i64 b)
  low : Below w.heap.size w W
theorem PlAt.trd {w W W' : World} {p a b : Int} {g : Nat} (h : PlAt w W p a b) (ht : Trd (· = g) W W') (hg : w.heap.size < g) : PlAt w W' p a b := by
  have hb : W'.heap[w.heap.size]? = W.heap[w.heap.size]? := ht.block _ (World.block_lt_of_cell? W _ h.c0) (by omega)
  have h2 : Below w.heap.size w W' := h.low.trans (ht.below (fun k hk => by omega) h.low.size)
  refine ⟨?_, ?_, ?_, h2⟩ <;> rw [World.cell?_of_block (w := W) hb]
  · exact h.c0
  · exact h.c1
  · exact h.c2
theorem PlAt.below {w W W' : World} {p a b : Int} (h : PlAt w W p a b) (ht : Below W.heap.size W W') : PlAt w W' p a b := by
  have hb : W'.heap[w.heap.size]? = W.heap[w.heap.size]? := ht.block _ (World.block_lt_of_cell? W _ h.c0)
  have h2 : Below w.heap.size w W' := h.low.trans (ht.mono h.low.size)
  refine ⟨?_, ?_, ?_, h2⟩ <;> rw [World.cell?_of_block (w := W) hb]
  · exact h.c0
  · exact h.c1
  · exact h.c2
/-- Key of a place within its bounds. -/
def KeyAt (p a b : Int) (w : World) (r : Ending) (w' : World) : Prop :=
  ∃ g, r = .returned (.tuple #[.slice (some ⟨g, 0, none⟩) 11 11, .nilIface]) ∧ w.heap.size ≤ g ∧ ByteAt w' g (keyB p a b) ∧ Below w.heap.size w w'
/-- Key of a place that is beyond. -/
def KeyNo (A : Nat → Addr) (w : World) (r : Ending) (w' : World) : Prop := r = .returned (.tuple #[.slice none 0 0, errAt (A 2)]) ∧ Below w.heap.size w w'
theorem keyOk_not {p a b : Int} (h : ¬ keyOk p a b) : (p < 0 ∨ 255 < p) ∨ ((0 ≤ p ∧ p ≤ 255) ∧ (a < 0 ∨ 1099511627775 < a)) ∨ ((0 ≤ p ∧ p ≤ 255) ∧ (0 ≤ a ∧ a ≤ 1099511627775) ∧ (b < 0 ∨ 1099511627775 < b)) := by
  unfold keyOk at h
  omega
def ReadNo (e : Value) (w : World) (r : Ending) (w' : World) : Prop := r = .returned (.tuple #[plV 0 0 0, e]) ∧ Below w.heap.size w w'
def ReadOk (xs : List Int) (w : World) (r : Ending) (w' : World) : Prop := r = .returned (.tuple #[plV (unbe (xs.take 1)) (unbe (xs.tail.take 5)) (unbe (xs.drop 6)), .nilIface]) ∧ Below w.heap.size w w'
end Go.Proofs.YtongpgnnhpbcpaaGreatDoor
