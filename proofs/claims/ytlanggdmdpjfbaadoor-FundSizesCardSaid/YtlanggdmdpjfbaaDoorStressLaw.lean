/-
  A table of the statement's own, one line a call; the chapter's example.
-/
import Derived.Test.YtlanggdmdpjfbaaDoorStress3
namespace Go.Proofs.YtlanggdmdpjfbaaDoor
open Go.RowKit Go.Maps
set_option linter.unusedVariables false

section
variable {A : Nat → Addr} {w0 W : World} {g n : Nat} {T : LTab}
/-- a struct that lies in a block of cells of its own stays, whatever the table's calls turn. -/
def KeepsRows22 (g : Nat) (W w' : World) : Prop := ∀ k cs t r, k ≠ g → W.heap[k]? = some (.cells cs t r) → w'.heap[k]? = some (.cells cs t r)
theorem keepsRows22_of {B : Nat} (h : LoAt W B g n T) {w' : World} (ht : Trd (loB W g) W w') : KeepsRows22 g W w' := fun k cs t r hk hr => by
  rw [ht.block k (Array.getElem?_eq_some_iff.1 hr).1 (fun q => by
    rcases (h.blocks q).2.2 with e | ⟨es, c, e⟩
    · exact hk e
    · rw [hr] at e; cases e)]
  exact hr
theorem lset22 (hb : Below w0.heap.size w0 W) (hL : LoAt W w0.heap.size g n T) (hn : n < 1000000) (hE : ErrsOn [2] w0 A) (s : CelT) (x : Int) :
    Calls Tryd.prog 8 #[.pointer (some ⟨g, 0, none⟩), celV s, .int .i64 x] W fun r w' => r = .returned (errOf A (setLC s x)) ∧ LoAt w' w0.heap.size g (n + 1) (setLT T s x) ∧ Below w0.heap.size w0 w' ∧ KeepsRows22 g W w' :=
  (loSet_any A W w0.heap.size g n T hL hb.size hn s x (hE.below hb (Nat.le_refl _))).mono fun r w' h => ⟨h.1, h.2.1, hb.trans (hL.keeps h.2.2 hb.size), keepsRows22_of hL h.2.2⟩
/-- a new table, behind what was there. -/
theorem lnew22 (hb : Below w0.heap.size w0 W) : LoAt (W.alloc (.cells #[.map none] 27)) w0.heap.size W.heap.size 0 noL ∧ Below w0.heap.size w0 (W.alloc (.cells #[.map none] 27)) :=
  ⟨(loAt_new W).base hb.size, hb.alloc hb.size _⟩
end
end Go.Proofs.YtlanggdmdpjfbaaDoor
