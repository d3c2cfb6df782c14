import Derived.Test.YtodhoblacalbiaaDoorProg
import Derived.Test.YtodhoblacalbiaaDoorReads
import Derived.WalkSpells
import Derived.WalkLawsBesides
import Derived.Outline
import Derived.LaidEql
import Derived.Deep.RegionHeld3
import Derived.Deep.QuietTactic
import Derived.BigQuiet
namespace Go.Proofs.YtodhoblacalbiaaDoor
open Go.RowKit

/-- the value of a sentinel error that lies at a. -/
abbrev errAt (a : Addr) : Value := .iface 69 (.pointer (some a))
/-- a fault as a value. -/
abbrev faultV (c : Int) (pl : Bool) (p : Int) : Value := .agg #[.int .i64 c, .bool pl, .int .i64 p]

/-- where the sentinels stand, in the order of their numbers. -/
def sentG : List Nat := [1000000, 1000000, 1, 1000000, 0, 1000000, 1000000, 1000000, 1000000, 1000000, 1000000, 1000000, 1000000, 1000000, 1000000, 1000000, 1000000, 1000000, 1000000, 1000000, 1000000]
def sentCells (A : Nat → Addr) : Array Value := #[errAt (A 0), errAt (A 1), errAt (A 2), errAt (A 3), errAt (A 4), errAt (A 5), errAt (A 6), errAt (A 7), errAt (A 8), errAt (A 9), errAt (A 10), errAt (A 11), errAt (A 12), errAt (A 13), errAt (A 14), errAt (A 15), errAt (A 16), errAt (A 17), errAt (A 18), errAt (A 19), errAt (A 20)]
/-- The sentinels are there, each of them another one. -/
structure Sents (w : World) (A : Nat → Addr) : Prop where
  cell : ∀ i, i < 21 → w.cell? ⟨sentG.getD i 0, 0, none⟩ = some (errAt (A i))
  apart : ∀ i j, i < 21 → j < 21 → A i = A j → i = j
  block : ∀ i, i < 21 → ∃ cs t, w.heap[(A i).block]? = some (.cells cs t (0, 0))
theorem Sents.same {w w' : World} {A : Nat → Addr} (h : Sents w A) (hb : ∀ i, i < w.heap.size → w'.heap[i]? = w.heap[i]?) : Sents w' A where
  cell := fun i hi => by
    have := h.cell i hi
    rw [World.cell?_of_block (w := w) (hb _ (World.block_lt_of_cell? w _ this))]; exact this
  apart := h.apart
  block := fun i hi => by
    obtain ⟨cs, t, hc⟩ := h.block i hi
    exact ⟨cs, t, by rw [hb _ (Array.getElem?_eq_some_iff.1 hc).1]; exact hc⟩
theorem Sents.below {w w' : World} {A : Nat → Addr} {B : Nat} (h : Sents w A) (hb : Below B w w') (hB : w.heap.size ≤ B) : Sents w' A := h.same fun i hi => hb.block i (by omega)
theorem sentCells_at (A : Nat → Addr) (k : Nat) (h : k < 21) : (sentCells A)[k]? = some (errAt (A k)) := by
  match k, h with
  | 0, _ => rfl
  | 1, _ => rfl
  | 2, _ => rfl
  | 3, _ => rfl
  | 4, _ => rfl
  | 5, _ => rfl
  | 6, _ => rfl
  | 7, _ => rfl
  | 8, _ => rfl
  | 9, _ => rfl
  | 10, _ => rfl
  | 11, _ => rfl
  | 12, _ => rfl
  | 13, _ => rfl
  | 14, _ => rfl
  | 15, _ => rfl
  | 16, _ => rfl
  | 17, _ => rfl
  | 18, _ => rfl
  | 19, _ => rfl
  | 20, _ => rfl
  | k + 21, h => omega

theorem info_ptr : (Tryd.prog.info? 69).map (fun i => i.comparable) = some true := by kernel_rfl
theorem info_str : (Tryd.prog.info? 86).map (fun i => decide (i.size = 0)) = some false := by kernel_rfl
theorem eql_same (w : World) (a : Addr) : (binOp .eql 29 (errAt a) (errAt a)).run Tryd.prog w = .ok (.bool true) w := by
  obtain ⟨i, hi, hc⟩ := Option.map_eq_some_iff.1 info_ptr
  obtain ⟨j, hj, _⟩ := Option.map_eq_some_iff.1 info_str
  exact run_eql_iface_ptr_same w a Tryd.underlying29 Tryd.underlying69 hi hc hj
theorem eql_other (w : World) (a b : Addr) (hne : a ≠ b) (ha : ∃ cs t, w.heap[a.block]? = some (.cells cs t (0, 0))) (hb : ∃ cs t, w.heap[b.block]? = some (.cells cs t (0, 0))) :
    (binOp .eql 29 (errAt a) (errAt b)).run Tryd.prog w = .ok (.bool false) w := by
  obtain ⟨i, hi, hc⟩ := Option.map_eq_some_iff.1 info_ptr
  obtain ⟨j, hj, hs⟩ := Option.map_eq_some_iff.1 info_str
  obtain ⟨ca, ta, ha⟩ := ha
  obtain ⟨cb, tb, hb⟩ := hb
  exact run_eql_iface_ptr_other w Tryd.underlying29 Tryd.underlying69 hi hc hj (by simpa using hs) hne ha hb

theorem s_of {w w' : World} {ga : Nat} {p : Int} {e : Value} (hlt : ga < w.heap.size) (hc0 : w.cell? ⟨ga, 0, none⟩ = some (.int .i64 p)) (hc1 : w.cell? ⟨ga, 1, none⟩ = some e) (h : Below w.heap.size w w') :
    w'.cell? ⟨ga, 0, none⟩ = some (.int .i64 p) ∧ w'.cell? ⟨ga, 1, none⟩ = some e ∧ Below w.heap.size w w' :=
  ⟨by rw [World.cell?_of_block (w := w) (h.block ga hlt)]; exact hc0, by rw [World.cell?_of_block (w := w) (h.block ga hlt)]; exact hc1, h⟩
theorem below_three {w w' : World} (h : Below w.heap.size w w') (x y z : Value) : Below w.heap.size w (((w'.setCell ⟨w.heap.size, 0, none⟩ x).setCell ⟨w.heap.size, 1, none⟩ y).setCell ⟨w.heap.size, 2, none⟩ z) :=
  ((h.setCell (Nat.le_refl _) x).setCell (Nat.le_refl _) y).setCell (Nat.le_refl _) z

end Go.Proofs.YtodhoblacalbiaaDoor
