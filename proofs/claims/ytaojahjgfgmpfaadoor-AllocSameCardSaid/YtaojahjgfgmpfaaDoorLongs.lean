/-
  A row of numbers of 64 bits that a call makes and writes.
-/
import Derived.Test.YtaojahjgfgmpfaaDoorProg
import Derived.Test.YtaojahjgfgmpfaaDoorMem
namespace Go.Proofs.YtaojahjgfgmpfaaDoor
open Go Go.RowKit
set_option linter.unusedVariables false

theorem mk_longs (n : Nat) (hn : n ≤ 1000000) (W : World) : (Instr.makeSlice 23 (.int .i64 n) (.int .i64 n)).run Tryd.prog W = .ok (.slice (some ⟨W.heap.size, 0, none⟩) n n) (W.alloc (.cells (Array.replicate n (.int .i64 0)) 2)) := by
  obtain ⟨i0, hi, hz0, hz1, hz2⟩ := info_parts (show (Tryd.prog.info? 2).map (fun i => (i.zero, i.size, i.bytes)) = some (some (.int .i64 0), 1, 8) by kernel_rfl)
  have := run_make (P := Tryd.prog) W 23 2 i0 _ Tryd.underlying23 hi hz0 .i64 .i64 n n (by omega) (by omega) (by rw [hz2]; omega) (by omega)
  rw [this, Int.toNat_natCast, hz1, Nat.mul_one]
  have e : madeCells (Value.int .i64 0).cells n = Array.replicate n (.int .i64 0) := by
    apply Array.ext'
    show (madeCells #[Value.int .i64 0] n).toList = _
    rw [toList_madeCells_one]
    simp
  rw [e]
/-- a row of numbers of 64 bits. -/
def LongAt (w : World) (g : Nat) (l : List Int) : Prop := w.heap[g]? = some (.cells (l.map (Value.int .i64)).toArray 2 (0, 0))
theorem LongAt.cell {w : World} {g : Nat} {l : List Int} (h : LongAt w g l) {i : Nat} (hi : i < l.length) : w.cell? ⟨g, i, none⟩ = some (.int .i64 (l.getD i 0)) := by
  rw [cell_of_row _ _ _ _ _ _ h, List.getElem?_toArray, List.getElem?_map, List.getD_eq_getElem?_getD, List.getElem?_eq_getElem hi]
  rfl
theorem LongAt.frozen {w : World} {g : Nat} {l : List Int} (h : LongAt w g l) (i : Nat) : w.frozen? ⟨g, i, none⟩ = false := by
  have := h
  unfold LongAt at this
  simp [World.frozen?, this]
theorem LongAt.set {w : World} {g : Nat} {l : List Int} (h : LongAt w g l) (i : Nat) (x : Int) : LongAt (w.setCell ⟨g, i, none⟩ (.int .i64 x)) g (l.set i x) := by
  unfold LongAt
  rw [heap_setCell_row h]
  simp
theorem LongAt.lt {w : World} {g : Nat} {l : List Int} (h : LongAt w g l) : g < w.heap.size := (Array.getElem?_eq_some_iff.1 h).1
theorem LongAt.below {w w' : World} {g : Nat} {l : List Int} {B : Nat} (h : LongAt w g l) (hb : Below B w w') (hB : w.heap.size ≤ B) : LongAt w' g l := by
  have hl := h.lt
  unfold LongAt at h ⊢
  rw [hb.block g (by omega)]
  exact h
theorem LongAt.reads {w : World} {g : Nat} {l : List Int} {n : Nat} (h : LongAt w g l) (hn : l.length = n) (hm : n ≤ 1000000) : Reads .i64 w (.slice (some ⟨g, 0, none⟩) n n) l := reads_block h hn hm
theorem longAt_new (w : World) (n : Nat) : LongAt (w.alloc (.cells (Array.replicate n (.int .i64 0)) 2)) w.heap.size (List.replicate n 0) := by
  unfold LongAt
  rw [heap_alloc_new w _]
  simp
end Go.Proofs.YtaojahjgfgmpfaaDoor
