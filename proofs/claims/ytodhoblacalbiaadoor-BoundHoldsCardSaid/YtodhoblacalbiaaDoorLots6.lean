/-
  Which lot costs more for what it is worth; the places in that order: slices.SortStableFunc of at most twenty.
-/
import Derived.Test.YtodhoblacalbiaaDoorLots5
import Derived.Test.YtodhoblacalbiaaDoorSums
import Derived.Test.YtodhoblacalbiaaDoorTake
namespace Go.Proofs.YtodhoblacalbiaaDoor
open Go.RowKit
set_option linter.unusedVariables false

def cmpR (a b : Lt) : Int := if a.v = 0 ∨ b.v = 0 then cmpv b.v a.v else cmpv (a.c * b.v) (b.c * a.v)
theorem cmpv_neg (x y : Int) : cmpv x y < 0 ↔ x < y := by
  unfold cmpv
  split
  · omega
  · split <;> omega
theorem cmpR_neg {a b : Lt} (ha : 0 ≤ a.v) (hb : 0 ≤ b.v) : decide (cmpR a b < 0) = dear b a := by
  unfold cmpR dear
  rw [Bool.eq_iff_iff]
  by_cases h : a.v = 0 ∨ b.v = 0
  · rw [if_pos h, if_pos h.symm, decide_eq_true_iff, decide_eq_true_iff, cmpv_neg]
    omega
  · rw [if_neg h, if_neg (fun q => h q.symm), decide_eq_true_iff, decide_eq_true_iff, cmpv_neg]
theorem cmpR_bd (a b : Lt) : -1 ≤ cmpR a b ∧ cmpR a b ≤ 1 := by
  unfold cmpR cmpv
  split <;> (split <;> (try split)) <;> omega
theorem ltBox2 {w W : World} {a b : Lt} (hb : Below ((w.alloc (ltO a)).alloc (ltO b)).heap.size ((w.alloc (ltO a)).alloc (ltO b)) W) : LotAt W w.heap.size 0 a ∧ LotAt W (w.heap.size + 1) 0 b := by
  have e1 : (w.alloc (ltO a)).heap.size = w.heap.size + 1 := by simp
  refine ⟨ltBox ((below_lt (w.alloc (ltO a)) b).trans (hb.mono (by simp))), ?_⟩
  have := ltBox (w := w.alloc (ltO a)) hb
  rwa [e1] at this
theorem lotAt_below {w w' : World} {b o : Nat} {x : Lt} (h : LotAt w b o x) (hb : Below w.heap.size w w') : LotAt w' b o x := by
  have hlt : b < w.heap.size := World.block_lt_of_cell? w _ h.1
  have e : ∀ p : Nat, w'.cell? ⟨b, p, none⟩ = w.cell? ⟨b, p, none⟩ := fun p => World.cell?_of_block (hb.block b hlt)
  obtain ⟨h0, h1, h2, h3⟩ := h
  exact ⟨(e _).trans h0, (e _).trans h1, (e _).trans h2, (e _).trans h3⟩
abbrev LeS (w0 : World) (g : Nat) (v : Value) (b o p : Nat) (x y : Lt) (W : World) : Prop :=
  W.cell? ⟨g, 0, none⟩ = some v ∧ (W.cell? ⟨b, o, none⟩ = some (.int .i64 x.u) ∧ W.cell? ⟨b, o + 1, none⟩ = some (.int .i64 x.v) ∧ W.cell? ⟨b, o + 2, none⟩ = some (.int .i64 x.c) ∧ W.cell? ⟨b, o + 3, none⟩ = some (.int .i64 x.g)) ∧
    (W.cell? ⟨b, p, none⟩ = some (.int .i64 y.u) ∧ W.cell? ⟨b, p + 1, none⟩ = some (.int .i64 y.v) ∧ W.cell? ⟨b, p + 2, none⟩ = some (.int .i64 y.c) ∧ W.cell? ⟨b, p + 3, none⟩ = some (.int .i64 y.g)) ∧ Below w0.heap.size w0 W
theorem leS_drew {w0 W : World} {g : Nat} {v : Value} {b o p : Nat} {x y : Lt} (h : LeS w0 g v b o p x y W) : LeS w0 g v b o p x y W.drew := ⟨h.1, h.2.1, h.2.2.1, h.2.2.2.drew⟩
theorem leS_next {w0 W W' : World} {g : Nat} {v : Value} {b o p : Nat} {x y : Lt} (h : LeS w0 g v b o p x y W) (hb : Below W.heap.size W W') : LeS w0 g v b o p x y W' := by
  refine ⟨?_, lotAt_below h.2.1 hb, lotAt_below h.2.2.1 hb, h.2.2.2.trans (hb.mono h.2.2.2.size)⟩
  rw [World.cell?_of_block (w := W) (hb.block _ (World.block_lt_of_cell? W _ h.1))]; exact h.1
end Go.Proofs.YtodhoblacalbiaaDoor
