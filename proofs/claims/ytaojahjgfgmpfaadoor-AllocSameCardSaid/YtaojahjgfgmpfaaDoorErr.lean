/-
  Errors by their numbers: what an error is as a value; that some sentinels are there; pledgesee.Is.
-/
import Derived.Test.YtaojahjgfgmpfaaDoorSee
import Derived.Test.YtaojahjgfgmpfaaDoorSame
namespace Go.Proofs.YtaojahjgfgmpfaaDoor
open Go.RowKit

/-- the error of a number; 0: none. -/
def errOf (A : Nat → Addr) (c : Int) : Value := if c = 0 then .nilIface else errAt (A (c - 101).toNat)
theorem ret_iv {k : IntKind} {a b : Int} {u v : Value} (h : a = b) (g : u = v) : Ending.returned (.tuple #[.int k a, u]) = .returned (.tuple #[.int k b, v]) := by rw [h, g]
theorem errOf_fine (A : Nat → Addr) : errOf A 0 = .nilIface := rfl
def codeOk (c : Int) : Prop := c = 0 ∨ (101 ≤ c ∧ c ≤ 121)
/-- Some sentinels are there. -/
def ErrsOn (js : List Nat) (w : World) (A : Nat → Addr) : Prop := ∀ i ∈ js, w.cell? ⟨sentG.getD i 0, 0, none⟩ = some (errAt (A i))
theorem ErrsOn.same {js : List Nat} {w w' : World} {A : Nat → Addr} (h : ErrsOn js w A) (hb : ∀ i, i < w.heap.size → w'.heap[i]? = w.heap[i]?) : ErrsOn js w' A := fun i hi => by
  have := h i hi
  rw [World.cell?_of_block (w := w) (hb _ (World.block_lt_of_cell? w _ this))]; exact this
theorem ErrsOn.below {js : List Nat} {w w' : World} {A : Nat → Addr} {B : Nat} (h : ErrsOn js w A) (hb : Below B w w') (hB : w.heap.size ≤ B) : ErrsOn js w' A := h.same fun i hi => hb.block i (by omega)
theorem ErrsOn.drewN {js : List Nat} {w : World} {A : Nat → Addr} (h : ErrsOn js w A) (k : Nat) : ErrsOn js (w.drewN k) A := h.same fun _ _ => rfl
theorem ErrsOn.sub {js ks : List Nat} {w : World} {A : Nat → Addr} (h : ErrsOn js w A) (hs : ∀ i ∈ ks, i ∈ js) : ErrsOn ks w A := fun i hi => h i (hs i hi)
theorem Sents.on {w : World} {A : Nat → Addr} (h : Sents w A) (js : List Nat) (hj : ∀ i ∈ js, i < 21) : ErrsOn js w A := fun i hi => h.cell i (hj i hi)
theorem Sents.drewN {w : World} {A : Nat → Addr} (h : Sents w A) (k : Nat) : Sents (w.drewN k) A := h.same fun _ _ => rfl

theorem faultIs_of (A : Nat → Addr) (c : Int) (w : World) (h : Sents w A) (hc : codeOk c) : FaultIs w (errOf A c) c false 0 := by
  rcases hc with rfl | ⟨h1, h2⟩
  · exact faultIs_nil w
  · unfold errOf
    rw [if_neg (by omega)]
    have := faultIs_sent A (c - 101).toNat w h (by omega)
    rwa [show 101 + ((c - 101).toNat : Int) = c by omega] at this

theorem is_any (A : Nat → Addr) (c d : Int) (w : World) (h : Sents w A) (hc : codeOk c) :
    Calls Tryd.prog 15 #[errOf A c, .int .i64 d] w fun e w' => e = .returned (.bool (c == d)) ∧ Below w.heap.size w w' := by
  have hS := hidden h
  clear h
  have hc' := hidden hc
  clear hc
  generalize hx : errOf A c = x
  replace hx := hidden hx
  go_enter Tryd.func15, Tryd.ntmps15
  go_wp2_with fail
  refine (fault_bare _ _).mono ?_
  rintro e w1 ⟨rfl, hb⟩
  have hb' := hidden hb
  clear hb
  have hf := hidden (faultIs_of A c w1 (hS.out.below hb'.out (Nat.le_refl _)) hc'.out)
  go_wp2_with fail
  rw [← hx.out]
  refine (same_any _ _ _ _ _ _ _ w1 hf.out).mono ?_
  rintro e w2 ⟨rfl, hb2⟩
  have hb2' := hidden (hb'.out.trans (hb2.mono hb'.out.size))
  clear hb2
  go_wp2
  go_ret
  exact ⟨ret_bool (by simp), hb2'.out⟩
end Go.Proofs.YtaojahjgfgmpfaaDoor
