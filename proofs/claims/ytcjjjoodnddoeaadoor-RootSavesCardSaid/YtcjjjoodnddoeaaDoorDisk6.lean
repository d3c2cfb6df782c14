/-
  disk.Clone.
-/
import Derived.Test.YtcjjjoodnddoeaaDoorDisk5
import Derived.Test.YtcjjjoodnddoeaaDoorDiskLays
namespace Go.Proofs.YtcjjjoodnddoeaaDoor
open Go.RowKit Go.Maps
set_option linter.unusedVariables false

theorem sec_cells (w : World) : (Go.sizeOf 73).run Tryd.prog w = .ok 128 w := by
  obtain ⟨i0, hi, hz0, hz1, _⟩ := info_parts sec_info
  simp [Go.sizeOf, typeInfo, hi, hz1]
/-- the sectors' cells, one behind the other. -/
def flat (fl : Nat → List Int) : Nat → List Value
  | 0 => []
  | n + 1 => flat fl n ++ secV (fl n)
theorem flat_len {fl : Nat → List Int} : ∀ n, (∀ i, i < n → (fl i).length = 128) → (flat fl n).length = n * 128
  | 0, _ => rfl
  | n + 1, h => by
    simp only [flat, List.length_append, secV_len, flat_len n (fun i hi => h i (by omega)), h n (by omega)]
    omega
theorem flat_at {fl : Nat → List Int} : ∀ n, (∀ i, i < n → (fl i).length = 128) → ∀ i, i < n → ((flat fl n).drop (i * 128)).take 128 = secV (fl i)
  | n + 1, h, i, hi => by
    have hl := flat_len n (fl := fl) (fun i hi => h i (by omega))
    have h1 := secV_len (fl n)
    rw [h n (by omega)] at h1
    simp only [flat]
    by_cases e : i = n
    · subst e
      rw [List.drop_append_of_le_length (by omega), List.drop_of_length_le (by omega), List.nil_append, List.take_of_length_le (by omega)]
    · have := flat_at n (fun i hi => h i (by omega)) i (by omega)
      rw [List.drop_append_of_le_length (by omega), List.take_append_of_le_length (by rw [List.length_drop]; omega)]
      exact this
theorem flat_one (fl : Nat → List Int) : ∀ n, ∀ v ∈ flat fl n, v.oneCell' = true
  | 0, v, hv => absurd hv List.not_mem_nil
  | n + 1, v, hv => by
    rcases List.mem_append.1 hv with h | h
    · exact flat_one fl n v h
    · exact secV_one _ v h
theorem flat_cells {w : World} {g : Nat} {fl : Nat → List Int} : ∀ n, (∀ i, i < n → (fl i).length = 128) → (∀ i, i < n → w.rangeAt g (i * 128) (secV (fl i))) → ∀ j u, (flat fl n)[j]? = some u → w.cell? ⟨g, 0 + j, none⟩ = some u
  | 0, _, _, j, u, h => by simp [flat] at h
  | n + 1, hl, hr, j, u, h => by
    have hln := flat_len n (fl := fl) (fun i hi => hl i (by omega))
    simp only [flat] at h
    by_cases hj : j < n * 128
    · rw [List.getElem?_append_left (by omega)] at h
      exact flat_cells n (fun i hi => hl i (by omega)) (fun i hi => hr i (by omega)) j u h
    · rw [List.getElem?_append_right (by omega), hln] at h
      have := hr n (by omega) (j - n * 128) u h
      rwa [show n * 128 + (j - n * 128) = 0 + j by omega] at this
def cellOr (w : World) (a : Addr) : Value := (w.cell? a).getD undef
theorem cellOr_of {w : World} {a : Addr} {u : Value} (h : w.cell? a = some u) : w.cell? a = some (cellOr w a) := by simp [cellOr, h]
def CloneAt (D : Dk) (w : World) (e : Ending) (w' : World) : Prop := ∃ d g m, e = .returned (.pointer (some ⟨d, 0, none⟩)) ∧ w.heap.size ≤ d ∧ w.heap.size ≤ g ∧ w.heap.size ≤ m ∧ DiskAt w' d g m D ∧ Below w.heap.size w w'
/-- what the statement with the two calls reads and writes. -/
abbrev CloneS (d g n cap m B : Nat) (w w' : World) : Prop := w'.cell? ⟨d, 0, none⟩ = some (.slice (some ⟨g, 0, none⟩) n cap) ∧ w'.cell? ⟨d, 1, none⟩ = some (.map (some m)) ∧ w'.cell? ⟨B, 0, none⟩ = some (cellOr w' ⟨B, 0, none⟩) ∧ w'.frozen? ⟨B, 0, none⟩ = false ∧ w'.cell? ⟨B, 1, none⟩ = some (cellOr w' ⟨B, 1, none⟩) ∧ w'.frozen? ⟨B, 1, none⟩ = false ∧ Below B w w'
section
variable {d g n cap m B : Nat} {w w' w'' : World}
theorem cloneS_new (h : w.cell? ⟨d, 0, none⟩ = some (.slice (some ⟨g, 0, none⟩) n cap)) (h' : w.cell? ⟨d, 1, none⟩ = some (.map (some m))) (a b : Value) (r : Array Value) (t : TypeId) (hr : 2 ≤ r.size) : CloneS d g n cap m w.heap.size w (w.alloc (.cells r t)) := by
  have hB := heap_alloc_new w (.cells r t)
  have e : ∀ j, j < 2 → (w.alloc (.cells r t)).cell? ⟨w.heap.size, j, none⟩ = some (cellOr (w.alloc (.cells r t)) ⟨w.heap.size, j, none⟩) := fun j hj => by
    refine cellOr_of (u := r[j]'(by omega)) ?_
    rw [cell_of_row _ _ _ _ _ _ hB, Array.getElem?_eq_getElem]
  have f : ∀ j, (w.alloc (.cells r t)).frozen? ⟨w.heap.size, j, none⟩ = false := fun j => by simp only [World.frozen?, hB]; simp
  have hd : d < w.heap.size := World.block_lt_of_cell? w _ h
  refine ⟨?_, ?_, e 0 (by omega), f 0, e 1 (by omega), f 1, (Below.refl _ w).alloc (Nat.le_refl _) _⟩
  · rw [World.cell?_alloc_lt _ _ ⟨d, 0, none⟩ hd]; exact h
  · rw [World.cell?_alloc_lt _ _ ⟨d, 1, none⟩ hd]; exact h'
theorem CloneS.heap (h : CloneS d g n cap m B w w') (hd : w''.heap[d]? = w'.heap[d]?) (hB : w''.heap[B]? = w'.heap[B]?) (hb : Below B w w'') : CloneS d g n cap m B w w'' := by
  obtain ⟨a1, a2, a3, a4, a5, a6, a7⟩ := h
  have c : ∀ j, w''.cell? ⟨B, j, none⟩ = w'.cell? ⟨B, j, none⟩ := fun j => World.cell?_of_block (w := w') hB
  refine ⟨by rw [World.cell?_of_block (w := w') hd]; exact a1, by rw [World.cell?_of_block (w := w') hd]; exact a2, ?_, by rw [World.frozen?_of_block (w := w') hB]; exact a4, ?_, by rw [World.frozen?_of_block (w := w') hB]; exact a6, hb⟩
  · exact cellOr_of ((c 0).trans a3)
  · exact cellOr_of ((c 1).trans a5)
theorem CloneS.drew (h : CloneS d g n cap m B w w') : CloneS d g n cap m B w w'.drew := h.heap rfl rfl (h.2.2.2.2.2.2.drew)
theorem CloneS.later (h : CloneS d g n cap m B w w') (hb : Below w'.heap.size w' w'') : CloneS d g n cap m B w w'' := by
  have hB : B ≤ w'.heap.size := Nat.le_of_lt (World.block_lt_of_cell? w' _ h.2.2.1)
  have h1 := World.block_lt_of_cell? w' _ h.1
  have h2 := World.block_lt_of_cell? w' _ h.2.2.1
  exact h.heap (hb.block _ h1) (hb.block _ h2) (h.2.2.2.2.2.2.trans (hb.mono hB))
theorem CloneS.set (h : CloneS d g n cap m B w w') (hd : d ≠ B) (j : Nat) (v : Value) : CloneS d g n cap m B w (w'.setCell ⟨B, j, none⟩ v) := by
  obtain ⟨a1, a2, a3, a4, a5, a6, a7⟩ := h
  have hb : ∀ k, k ≠ B → (w'.setCell ⟨B, j, none⟩ v).heap[k]? = w'.heap[k]? := fun k hk => Below.heap_setCell _ _ _ _ hk
  have c : ∀ q u, w'.cell? ⟨B, q, none⟩ = some u → (w'.setCell ⟨B, j, none⟩ v).cell? ⟨B, q, none⟩ = some (cellOr (w'.setCell ⟨B, j, none⟩ v) ⟨B, q, none⟩) := fun q u hu => by
    by_cases e : q = j
    · subst e; exact cellOr_of (World.cell?_setCell_same _ _ _ hu)
    · refine cellOr_of (u := u) ?_
      rw [World.cell?_setCell_other _ _ _ _ (fun e2 => e (by injection e2 with _ e3 _; exact e3.symm))]; exact hu
  refine ⟨by rw [World.cell?_of_block (w := w') (hb d hd)]; exact a1, by rw [World.cell?_of_block (w := w') (hb d hd)]; exact a2, c 0 _ a3, by rw [World.frozen?_setCell]; exact a4, c 1 _ a5, by rw [World.frozen?_setCell]; exact a6, a7.setCell (Nat.le_refl _) _⟩
theorem CloneS.size (h : CloneS d g n cap m B w w') : B ≤ w'.heap.size := Nat.le_of_lt (World.block_lt_of_cell? w' _ h.2.2.1)
theorem CloneS.below (h : CloneS d g n cap m B w w') : Below B w w' := h.2.2.2.2.2.2
end
theorem clone_disk {w w0 w2 w3 : World} {d g m g2 cap cap2 : Nat} {D : Dk} (h : DiskAt w d g m D) (hw0 : w0 = (w.alloc (.cells (dskC g D.n cap m D.calls D.armed D.down) 67)).drew) (h2 : w0.heap.size ≤ g2) (h3 : g2 < w2.heap.size) (hr : RowsAt w2 g2 D.n D.fl) (hb : Below w0.heap.size w0 w2)
    (hm : w3.ownsMap Tryd.prog 3 secR w2.heap.size D.ps.length (dat D.ps)) (hb3 : Below w2.heap.size w2 w3) :
    CloneAt D w (.returned (.pointer (some ⟨w.heap.size, 0, none⟩))) ((w3.setCell ⟨w.heap.size, 0, none⟩ (.slice (some ⟨g2, 0, none⟩) D.n cap2)).setCell ⟨w.heap.size, 1, none⟩ (.map (some w2.heap.size))) := by
  have hz : w0.heap.size = w.heap.size + 1 := by rw [hw0]; show (w.alloc _).heap.size = _; simp
  have hbz := hb.size
  have hb3z := hb3.size
  have hB0 : w0.heap[w.heap.size]? = some (.cells (dskC g D.n cap m D.calls D.armed D.down) 67 (0, 0)) := by rw [hw0]; exact heap_alloc_new w _
  have hB : w3.heap[w.heap.size]? = some (.cells (dskC g D.n cap m D.calls D.armed D.down) 67 (0, 0)) := by rw [hb3.block _ (by omega), hb.block _ (by omega)]; exact hB0
  have ho : ∀ k, k ≠ w.heap.size → ((w3.setCell ⟨w.heap.size, 0, none⟩ (.slice (some ⟨g2, 0, none⟩) D.n cap2)).setCell ⟨w.heap.size, 1, none⟩ (.map (some w2.heap.size))).heap[k]? = w3.heap[k]? := fun k hk => by rw [Below.heap_setCell _ _ _ _ hk, Below.heap_setCell _ _ _ _ hk]
  have hlow : Below w.heap.size w w0 := by rw [hw0]; exact ((Below.refl _ w).alloc (Nat.le_refl _) _).drew
  refine ⟨_, g2, w2.heap.size, rfl, Nat.le_refl _, by omega, by omega, ⟨h.ok, by omega, ⟨cap2, ?_⟩, ?_, ?_⟩, ?_⟩
  · rw [heap_setCell_row (heap_setCell_row hB _)]
    rfl
  · exact (hr.block (hb3.block _ h3)).block (ho _ (by omega))
  · exact own_block hm (ho _ (by omega))
  · exact (((hlow.trans (hb.mono (by omega))).trans (hb3.mono (by omega))).setCell (Nat.le_refl _) _).setCell (Nat.le_refl _) _

end Go.Proofs.YtcjjjoodnddoeaaDoor
