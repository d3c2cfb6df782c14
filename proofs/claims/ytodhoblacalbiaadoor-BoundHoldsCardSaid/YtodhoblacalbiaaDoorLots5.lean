/-
  Worth, Cost, Fits, Most.
-/
import Derived.Test.YtodhoblacalbiaaDoorLots4
namespace Go.Proofs.YtodhoblacalbiaaDoor
open Go.RowKit
set_option linter.unusedVariables false

def CoRel (L : List Lt) (t : List Int) (w0 : World) (s i : Value) (w : World) : Prop := ∃ k : Nat, k ≤ L.length ∧ i = .int .i64 (k : Int) ∧ s = .int .i64 (sumF (coF L t) k) ∧ Below w0.heap.size w0 w
theorem mk_ints18 (n : Nat) (hn : n ≤ 1000000) (W : World) : (Instr.makeSlice 26 (.int .i64 n) (.int .i64 n)).run Tryd.prog W = .ok (.slice (some ⟨W.heap.size, 0, none⟩) n n) (W.alloc (.cells (Array.replicate n (.int .i64 0)) 3)) := by
  obtain ⟨i0, hi, hz0, hz1, hz2⟩ := info_parts (show (Tryd.prog.info? 3).map (fun i => (i.zero, i.size, i.bytes)) = some (some (.int .i64 0), 1, 8) by kernel_rfl)
  have := run_make (P := Tryd.prog) W 26 3 i0 _ Tryd.underlying26 hi hz0 .i64 .i64 n n (by omega) (by omega) (by rw [hz2]; omega) (by omega)
  rw [this, Int.toNat_natCast, hz1, Nat.mul_one]
  have e : madeCells (Value.int .i64 0).cells n = Array.replicate n (.int .i64 0) := by
    apply Array.ext'
    show (madeCells #[Value.int .i64 0] n).toList = _
    rw [toList_madeCells_one]
    simp
  rw [e]
theorem numAt_new (T : TypeId) (w : World) (n : Nat) : NumAt T (w.alloc (.cells (Array.replicate n (.int .i64 0)) T)) w.heap.size (List.replicate n 0) := by
  unfold NumAt
  rw [heap_alloc_new w _]
  simp
/-- a row that is filled from its beginning. -/
def fillL (F : List Int) (k : Nat) : List Int := F.take k ++ List.replicate (F.length - k) 0
theorem fillL_len (F : List Int) {k : Nat} (h : k ≤ F.length) : (fillL F k).length = F.length := by simp [fillL]; omega
theorem fillL_end (F : List Int) : fillL F F.length = F := by simp [fillL]
theorem fillL_set (F : List Int) (k : Nat) (h : k < F.length) : (fillL F k).set k (F.getD k 0) = fillL F (k + 1) := by
  unfold fillL
  have e : (F.take k).length = k := by simp; omega
  rw [List.set_append_right _ _ (by omega), e, Nat.sub_self, show F.length - k = (F.length - (k + 1)) + 1 by omega, List.replicate_succ, List.take_succ_eq_append_getElem h, List.getD_eq_getElem?_getD, List.getElem?_eq_getElem h, List.append_assoc]
  rfl
def MoRel (F : List Int) (gb p : Nat) (lv cv : Value) (n : Int) (w0 : World) (i : Value) (w : World) : Prop :=
  ∃ k : Nat, k ≤ F.length ∧ i = .int .i64 (k : Int) ∧ NumAt 3 w gb (fillL F k) ∧ PbAt w p pbTy lv cv n ∧ Below w0.heap.size w0 w
end Go.Proofs.YtodhoblacalbiaaDoor
