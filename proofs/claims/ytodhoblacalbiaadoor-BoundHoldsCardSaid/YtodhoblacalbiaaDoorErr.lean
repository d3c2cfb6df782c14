/-
  Errors by their numbers: what an error is as a value; that some sentinels are there; pledgesee.Is.
-/
import Derived.Test.YtodhoblacalbiaaDoorSee
namespace Go.Proofs.YtodhoblacalbiaaDoor
open Go.RowKit

/-- the error of a number; 0: none. -/
def errOf (A : Nat → Addr) (c : Int) : Value := if c = 0 then .nilIface else errAt (A (c - 101).toNat)
theorem ret_iv {k : IntKind} {a b : Int} {u v : Value} (h : a = b) (g : u = v) : Ending.returned (.tuple #[.int k a, u]) = .returned (.tuple #[.int k b, v]) := by rw [h, g]
theorem errOf_fine (A : Nat → Addr) : errOf A 0 = .nilIface := rfl
def codeOk (c : Int) : Prop := c = 0 ∨ (101 ≤ c ∧ c ≤ 121)
/-- Some sentinels are there. -/
def ErrsOn (js : List Nat) (w : World) (A : Nat → Addr) : Prop := ∀ i ∈ js, w.cell? ⟨sentG.getD i 0, 0, none⟩ = some (errAt (A i))
theorem ErrsOn.same {js : List Nat} {w w' : World} {A : Nat → Addr} (h : ErrsOn js w A) (hb : ∀ i, i < w.heap.size → w'.heap[i]? = w.heap[i]?) : ErrsOn js w' A := fun i hi => by
  have := h i hi
  rw [World.cell?_of_block (w := w) (hb _ (World.block_lt_of_cell? w _ this))]; exact this
theorem ErrsOn.below {js : List Nat} {w w' : World} {A : Nat → Addr} {B : Nat} (h : ErrsOn js w A) (hb : Below B w w') (hB : w.heap.size ≤ B) : ErrsOn js w' A := h.same fun i hi => hb.block i (by omega)
theorem ErrsOn.drewN {js : List Nat} {w : World} {A : Nat → Addr} (h : ErrsOn js w A) (k : Nat) : ErrsOn js (w.drewN k) A := h.same fun _ _ => rfl
theorem ErrsOn.sub {js ks : List Nat} {w : World} {A : Nat → Addr} (h : ErrsOn js w A) (hs : ∀ i ∈ ks, i ∈ js) : ErrsOn ks w A := fun i hi => h i (hs i hi)
theorem Sents.on {w : World} {A : Nat → Addr} (h : Sents w A) (js : List Nat) (hj : ∀ i ∈ js, i < 21) : ErrsOn js w A := fun i hi => h.cell i (hj i hi)
theorem Sents.drewN {w : World} {A : Nat → Addr} (h : Sents w A) (k : Nat) : Sents (w.drewN k) A := h.same fun _ _ => rfl

end Go.Proofs.YtodhoblacalbiaaDoor
