import Derived.Test.YtaojahjgfgmpfaaDoorSee
namespace Go.Proofs.YtaojahjgfgmpfaaDoor
open Go.RowKit

abbrev fcells (d : Int) (ql : Bool) (q : Int) : Obj := .cells #[.int .i64 d, .bool ql, .int .i64 q] 70
theorem three_of {w w' : World} {d q : Int} {ql : Bool} (h : Below (w.heap.size + 1) (w.alloc (fcells d ql q)) w') :
    w'.cell? ⟨w.heap.size, 0, none⟩ = some (.int .i64 d) ∧ w'.cell? ⟨w.heap.size, 1, none⟩ = some (.bool ql) ∧ w'.cell? ⟨w.heap.size, 2, none⟩ = some (.int .i64 q) ∧ Below (w.heap.size + 1) (w.alloc (fcells d ql q)) w' := by
  have e2 : w'.heap[w.heap.size]? = some (.cells #[.int .i64 d, .bool ql, .int .i64 q] 70 (0, 0)) := by rw [h.block _ (Nat.lt_succ_self _)]; exact heap_alloc_new w _
  refine ⟨?_, ?_, ?_, h⟩ <;> simp [World.cell?, e2]

theorem three_next {w w' : World} {d q : Int} {ql : Bool} (h : Below (w.alloc (fcells d ql q)).drew.heap.size (w.alloc (fcells d ql q)).drew w') : Below (w.heap.size + 1) (w.alloc (fcells d ql q)) w' :=
  ((Below.refl (w.heap.size + 1) (w.alloc (fcells d ql q))).drew).trans (h.mono (by show _ ≤ (w.alloc _).heap.size; simp))
theorem three_then {w w1 w' : World} {d q : Int} {ql : Bool} {A B C : Prop} (hs : A ∧ B ∧ C ∧ Below (w.heap.size + 1) (w.alloc (fcells d ql q)) w1) (h : Below w1.heap.size w1 w') : Below (w.heap.size + 1) (w.alloc (fcells d ql q)) w' :=
  hs.2.2.2.trans (h.mono (by have := hs.2.2.2.size; simpa using this))
theorem three_end {w w' : World} {d q : Int} {ql : Bool} {A B C : Prop} (hs : A ∧ B ∧ C ∧ Below (w.heap.size + 1) (w.alloc (fcells d ql q)) w') : Below w.heap.size w w' :=
  ((Below.refl w.heap.size w).alloc (Nat.le_refl _) _).trans (hs.2.2.2.mono (Nat.le_succ _))

/-- Same: by what Fault says of the error. -/
def FaultIs (w : World) (ev : Value) (c : Int) (pl : Bool) (p : Int) : Prop :=
  ∀ w1, Below w.heap.size w w1 → Calls Tryd.prog 50 #[ev] w1 fun e w' => e = .returned (faultV c pl p) ∧ Below w1.heap.size w1 w'

theorem same_any (ev : Value) (c d p q : Int) (pl ql : Bool) (w : World) (hf : FaultIs w ev c pl p) :
    Calls Tryd.prog 31 #[ev, faultV d ql q] w fun e w' => e = .returned (.bool (c == d && pl == ql && p == q)) ∧ Below w.heap.size w w' := by
  have h0 : Below (w.heap.size + 1) (w.alloc (fcells d ql q)) (w.alloc (fcells d ql q)).drew := (Below.refl _ _).drew
  have h00 : Below w.heap.size w (w.alloc (fcells d ql q)).drew := ((Below.refl w.heap.size w).alloc (Nat.le_refl _) _).drew
  have hf' := hidden (hf _ h00)
  clear hf
  go_enter Tryd.func31, Tryd.ntmps31
  go_wp2_with fail
  go_region_held3 (fun w' => w'.cell? ⟨w.heap.size, 0, none⟩ = some (.int .i64 d) ∧ w'.cell? ⟨w.heap.size, 1, none⟩ = some (.bool ql) ∧ w'.cell? ⟨w.heap.size, 2, none⟩ = some (.int .i64 q) ∧ Below (w.heap.size + 1) (w.alloc (fcells d ql q)) w')
    ((first | exact three_of h0 | exact three_of (three_next hb1) | exact three_of (three_then (by assumption) (by assumption))))
    (first | (go_at_call 50; refine hf'.out.mono ?_; rintro e w' ⟨rfl, hb1⟩) | (go_at_call 49; refine (sameFault_any _ _ _ _ _ _ _).mono ?_; rintro e w' ⟨rfl, hb2⟩))
  go_wp2
  go_ret
  exact ⟨rfl, by rename_i hh; exact three_end hh⟩

theorem faultIs_at (A : Nat → Addr) (i ga : Nat) (p : Int) (w : World) (h : Sents w A) (hi : i < 21) (hg : AtIn w ga p (A i)) : FaultIs w (.iface 100 (.pointer (some ⟨ga, 0, none⟩))) (101 + (i : Int)) true p :=
  fun w1 hb => fault_at A i ga p w1 (h.below hb (Nat.le_refl _)) hi (by unfold AtIn; rw [hb.block ga (Array.getElem?_eq_some_iff.1 (show _ = _ from hg)).1]; exact hg)
theorem faultIs_sent (A : Nat → Addr) (i : Nat) (w : World) (h : Sents w A) (hi : i < 21) : FaultIs w (errAt (A i)) (101 + (i : Int)) false 0 :=
  fun w1 hb => fault_sent A i w1 (h.below hb (Nat.le_refl _)) hi
theorem faultIs_nil (w : World) : FaultIs w .nilIface 0 false 0 := fun w1 _ => fault_nil w1
end Go.Proofs.YtaojahjgfgmpfaaDoor
