/-
  worth: by groups.
-/
import Derived.Test.YtodhoblacalbiaaDoorLots3
namespace Go.Proofs.YtodhoblacalbiaaDoor
open Go.RowKit
set_option linter.unusedVariables false

/-- a row of numbers of 64 bits of whatever type. -/
def NumAt (T : TypeId) (w : World) (g : Nat) (l : List Int) : Prop := w.heap[g]? = some (.cells (l.map (Value.int .i64)).toArray T (0, 0))
theorem NumAt.cell {T : TypeId} {w : World} {g : Nat} {l : List Int} (h : NumAt T w g l) {i : Nat} (hi : i < l.length) : w.cell? ⟨g, i, none⟩ = some (.int .i64 (l.getD i 0)) := by
  rw [cell_of_row _ _ _ _ _ _ h, List.getElem?_toArray, List.getElem?_map, List.getD_eq_getElem?_getD, List.getElem?_eq_getElem hi]
  rfl
theorem NumAt.frozen {T : TypeId} {w : World} {g : Nat} {l : List Int} (h : NumAt T w g l) (i : Nat) : w.frozen? ⟨g, i, none⟩ = false := by
  have := h
  unfold NumAt at this
  simp [World.frozen?, this]
theorem NumAt.set {T : TypeId} {w : World} {g : Nat} {l : List Int} (h : NumAt T w g l) (i : Nat) (x : Int) : NumAt T (w.setCell ⟨g, i, none⟩ (.int .i64 x)) g (l.set i x) := by
  unfold NumAt
  rw [heap_setCell_row h]
  simp
theorem NumAt.lt {T : TypeId} {w : World} {g : Nat} {l : List Int} (h : NumAt T w g l) : g < w.heap.size := (Array.getElem?_eq_some_iff.1 h).1
theorem NumAt.below {T : TypeId} {w w' : World} {g : Nat} {l : List Int} {B : Nat} (h : NumAt T w g l) (hb : Below B w w') (hB : w.heap.size ≤ B) : NumAt T w' g l := by
  have hl := h.lt
  unfold NumAt at h ⊢
  rw [hb.block g (by omega)]
  exact h
theorem NumAt.drew {T : TypeId} {w : World} {g : Nat} {l : List Int} (h : NumAt T w g l) : NumAt T w.drew g l := h
theorem NumAt.reads {T : TypeId} {w : World} {g : Nat} {l : List Int} {n : Nat} (h : NumAt T w g l) (hn : l.length = n) (hm : n ≤ 1000000) : Reads .i64 w (.slice (some ⟨g, 0, none⟩) n n) l := reads_block h hn hm
theorem PbAt.put {w : World} {g b : Nat} {t : TypeId} {lv cv : Value} {n : Int} (h : PbAt w g t lv cv n) (hne : g ≠ b) (o : Nat) (v : Value) : PbAt (w.setCell ⟨b, o, none⟩ v) g t lv cv n := ⟨by rw [(Trd.setCell (S := (· = b)) w ⟨b, o, none⟩ v rfl).block g h.lt hne]; exact h.row⟩
def grp (L : List Lt) (t : List Int) (k : Nat) : List Int := (List.range 8).map fun j : Nat => gs L t (j : Int) k
theorem grp_len (L : List Lt) (t : List Int) (k : Nat) : (grp L t k).length = 8 := by simp [grp]
theorem grp_get (L : List Lt) (t : List Int) (k : Nat) {j : Nat} (hj : j < 8) : (grp L t k)[j]? = some (gs L t (j : Int) k) := by
  unfold grp
  rw [List.getElem?_map, List.getElem?_range hj]
  rfl
theorem grp_at (L : List Lt) (t : List Int) (k : Nat) {j : Nat} (hj : j < 8) : (grp L t k).getD j 0 = gs L t (j : Int) k := by rw [List.getD_eq_getElem?_getD, grp_get L t k hj]; rfl
theorem grp_start (L : List Lt) (t : List Int) : grp L t 0 = [0, 0, 0, 0, 0, 0, 0, 0] := rfl
theorem grp_next (L : List Lt) (t : List Int) (k g : Nat) (hg : g < 8) (hx : (L.getD k ltZ).g = (g : Int)) : (grp L t k).set g (gs L t (g : Int) k + t.getD k 0 * (L.getD k ltZ).v) = grp L t (k + 1) := by
  apply List.ext_getElem?
  intro j
  by_cases hj : j < 8
  · rw [grp_get L t (k + 1) hj]
    by_cases e : g = j
    · subst e
      rw [List.getElem?_set_self (by rw [grp_len]; exact hg)]
      show some _ = some (gs L t (g : Int) k + gsF L t (g : Int) k)
      unfold gsF
      rw [if_pos hx]
    · rw [List.getElem?_set_ne e, grp_get L t k hj]
      show some _ = some (gs L t (j : Int) k + gsF L t (j : Int) k)
      unfold gsF
      rw [if_neg (by omega), Int.add_zero]
  · rw [List.getElem?_eq_none (by rw [List.length_set, grp_len]; omega), List.getElem?_eq_none (by rw [grp_len]; omega)]
def WoRel2 (L : List Lt) (C t : List Int) (w0 : World) (s i : Value) (w : World) : Prop := ∃ k : Nat, k ≤ C.length ∧ i = .int .i64 (k : Int) ∧ s = .int .i64 (sumF (woF L C t) k) ∧ w0 = w
theorem gs_step (L : List Lt) (t : List Int) (g : Int) (k : Nat) (h : (L.getD k ltZ).g = g) : gs L t g (k + 1) = gs L t g k + t.getD k 0 * (L.getD k ltZ).v := by
  show gs L t g k + gsF L t g k = _
  unfold gsF
  rw [if_pos h]
theorem woF_ways (L : List Lt) (C t : List Int) (j : Nat) (hc : 0 ≤ C.getD j 0) : (C.getD j 0 = 0 ∧ woF L C t j = gs L t (j : Int) L.length) ∨ (C.getD j 0 ≠ 0 ∧ gs L t (j : Int) L.length ≤ C.getD j 0 ∧ woF L C t j = gs L t (j : Int) L.length) ∨ (C.getD j 0 ≠ 0 ∧ ¬ gs L t (j : Int) L.length ≤ C.getD j 0 ∧ woF L C t j = C.getD j 0) := by
  unfold woF capd
  split <;> omega
end Go.Proofs.YtodhoblacalbiaaDoor
