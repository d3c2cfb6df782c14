/-
  A disk in memory: its struct, its sectors, its map; what a call may turn.
-/
import Derived.Test.YtcjjjoodnddoeaaDoorDiskMath
import Derived.Test.YtcjjjoodnddoeaaDoorShare
import Derived.Deep.MidRow
import Derived.Test.YtcjjjoodnddoeaaDoorErr
namespace Go.Proofs.YtcjjjoodnddoeaaDoor
open Go Go.RowKit Go.Maps
set_option linter.unusedVariables false

/-- a sector's cells. -/
def secV (xs : List Int) : List Value := xs.map (Value.int .u8)
def isByte : Value → Bool
  | .int .u8 x => decide (0 ≤ x ∧ x < 256)
  | _ => false
def byteOf : Value → Int
  | .int _ x => x
  | _ => 0
def secR (v : Value) : Option (DataW (List Int) × List MemPlace) :=
  match v with
  | .agg cs => if cs.size = 128 ∧ cs.toList.all isByte = true then some (.held (cs.toList.map byteOf), []) else none
  | _ => none
abbrev aggV (xs : List Int) : Value := .agg (secV xs).toArray
theorem secV_len (xs : List Int) : (secV xs).length = xs.length := by simp [secV]
theorem secR_mk {xs : List Int} (h : secOk xs) : secR (aggV xs) = some (.held xs, []) := by
  have e1 : (secV xs).all isByte = true := by
    rw [List.all_eq_true]
    intro v hv
    obtain ⟨x, hx, rfl⟩ := List.mem_map.1 hv
    simpa [isByte] using h.2 x hx
  have e2 : (secV xs).map byteOf = xs := by simp [secV, byteOf, Function.comp_def]
  simp only [secR, List.size_toArray, secV_len, h.1, e1, and_self, if_true, e2]
theorem secR_inv {v : Value} {y : DataW (List Int) × List MemPlace} (h : secR v = some y) : ∃ xs, v = aggV xs ∧ y = (.held xs, []) ∧ secOk xs := by
  unfold secR at h
  split at h
  · rename_i cs
    split at h
    · rename_i hc
      refine ⟨cs.toList.map byteOf, ?_, (Option.some.inj h).symm, by simpa using hc.1, fun x hx => ?_⟩
      · have : secV (cs.toList.map byteOf) = cs.toList := by
          unfold secV
          rw [List.map_map]
          refine (List.map_congr_left (g := id) fun v hv => ?_).trans (List.map_id _)
          have := List.all_eq_true.1 hc.2 v hv
          unfold isByte at this
          split at this
          · rfl
          · cases this
        unfold aggV
        rw [this]
      · obtain ⟨v, hv, rfl⟩ := List.mem_map.1 hx
        have := List.all_eq_true.1 hc.2 v hv
        unfold isByte at this
        split at this
        · simpa [byteOf] using this
        · cases this
    · cases h
  · cases h
theorem secV_one (xs : List Int) : ∀ v ∈ secV xs, v.oneCell' = true := fun v hv => by
  obtain ⟨x, _, rfl⟩ := List.mem_map.1 hv
  rfl

/-- But for the blocks of S, all that was there is as it was. -/
structure Trd (S : Nat → Prop) (w w' : World) : Prop where
  os : w'.os = w.os
  tape : w'.tape = w.tape
  output : w'.output = w.output
  size : w.heap.size ≤ w'.heap.size
  block : ∀ k, k < w.heap.size → ¬ S k → w'.heap[k]? = w.heap[k]?
section
variable {S : Nat → Prop} {w w1 w2 : World}
theorem Trd.refl (S : Nat → Prop) (w : World) : Trd S w w := ⟨rfl, rfl, rfl, Nat.le_refl _, fun _ _ _ => rfl⟩
theorem Trd.trans (h : Trd S w w1) (k : Trd S w1 w2) : Trd S w w2 :=
  ⟨k.os.trans h.os, k.tape.trans h.tape, k.output.trans h.output, Nat.le_trans h.size k.size, fun i hi hn => (k.block i (Nat.lt_of_lt_of_le hi h.size) hn).trans (h.block i hi hn)⟩
theorem Trd.of_below {B : Nat} (h : Below B w w1) (hB : w.heap.size ≤ B) : Trd S w w1 := ⟨h.os, h.tape, h.output, h.size, fun i hi _ => h.block i (by omega)⟩
theorem Trd.below {B : Nat} (h : Trd S w w1) (hS : ∀ k, S k → B ≤ k) (hB : B ≤ w.heap.size) : Below B w w1 := ⟨h.os, h.tape, h.output, h.size, fun i hi => h.block i (by omega) fun hs => by have := hS i hs; omega⟩
theorem Trd.grown {row : Option Nat} (h : w.grownBy w1 row) (hr : ∀ k, row = some k → S k) : Trd S w w1 := ⟨h.os, h.tape, h.output, h.size, fun i hi hn => h.block i hi fun e => hn (hr i e.symm)⟩
theorem Trd.drew (w : World) : Trd S w w.drew := ⟨rfl, rfl, rfl, Nat.le_refl _, fun _ _ _ => rfl⟩
theorem Trd.alloc (w : World) (o : Obj) : Trd S w (w.alloc o) := Trd.of_below ((Below.refl _ w).alloc (Nat.le_refl _) o) (Nat.le_refl _)
theorem Trd.setCell (w : World) (a : Addr) (v : Value) (h : S a.block) : Trd S w (w.setCell a v) :=
  ⟨rfl, rfl, rfl, by simp [World.setCell], fun i hi hn => Below.heap_setCell _ _ _ _ fun e => hn (by rw [e]; exact h)⟩
theorem Trd.setCells {b : Nat} (h : S b) : ∀ (vs : List Value) (o : Nat) (w : World), Trd S w (w.setCells b o vs)
  | [], _, w => Trd.refl S w
  | v :: r, o, w => (Trd.setCell w ⟨b, o, none⟩ v h).trans (Trd.setCells h r (o + 1) _)
theorem Trd.mono {S' : Nat → Prop} (h : Trd S w w1) (hs : ∀ k, S k → S' k) : Trd S' w w1 := ⟨h.os, h.tape, h.output, h.size, fun i hi hn => h.block i hi fun hk => hn (hs i hk)⟩
end
theorem Reads.trd {k : IntKind} {S : Nat → Prop} {w w' : World} {v : Value} {xs : List Int} (h : Reads k w v xs) (ht : Trd S w w') (hv : ∀ b, v.ownBlock = some b → ¬ S b) : Reads k w' v xs := by
  obtain ⟨a, len, cap, rfl, h1, h2, h3, h4, h5⟩ := h
  refine ⟨a, len, cap, rfl, h1, h2, h3, h4, fun ad had i hi => ?_⟩
  obtain ⟨h6, h7⟩ := h5 ad had i hi
  refine ⟨h6, ?_⟩
  subst had
  rw [World.cell?_of_block (w := w) (ht.block _ (World.block_lt_of_cell? w _ h7) (hv _ rfl))]
  exact h7
/-- the blocks of a disk. -/
def dskB (d g m : Nat) (k : Nat) : Prop := k = d ∨ k = g ∨ k = m
abbrev dskC (g n cap m : Nat) (ca ar : Int) (dn : Bool) : Array Value := #[.slice (some ⟨g, 0, none⟩) n cap, .map (some m), .int .i64 ca, .int .i64 ar, .bool dn]
/-- sectors in block g. -/
def RowsAt (w : World) (g n : Nat) (fl : Nat → List Int) : Prop := ∀ i, i < n → w.rangeAt g (i * 128) (secV (fl i)) ∧ w.there g (i * 128) 128

structure DiskAt (w : World) (d g m : Nat) (D : Dk) : Prop where
  ok : D.Ok
  dg : d ≠ g
  cells : ∃ cap, w.heap[d]? = some (.cells (dskC g D.n cap m D.calls D.armed D.down) 67 (0, 0))
  rows : RowsAt w g D.n D.fl
  map : w.ownsMap Tryd.prog 3 secR m D.ps.length (dat D.ps)

theorem rangeAt_block {w w' : World} {b o : Nat} {cs : List Value} (h : w.rangeAt b o cs) (hb : w'.heap[b]? = w.heap[b]?) : w'.rangeAt b o cs := fun j v hv => by
  rw [World.cell?_of_block (w := w) hb]; exact h j v hv
theorem there_block {w w' : World} {b o n : Nat} (h : w.there b o n) (hb : w'.heap[b]? = w.heap[b]?) : w'.there b o n := fun j hj => by
  rw [World.cell?_of_block (w := w) hb, World.frozen?_of_block (w := w) hb]; exact h j hj
theorem RowsAt.block {w w' : World} {g n : Nat} {fl : Nat → List Int} (h : RowsAt w g n fl) (hb : w'.heap[g]? = w.heap[g]?) : RowsAt w' g n fl := fun i hi => ⟨rangeAt_block (h i hi).1 hb, there_block (h i hi).2 hb⟩
theorem RowsAt.lt {w : World} {g n : Nat} {fl : Nat → List Int} (h : RowsAt w g n fl) (hn : 1 ≤ n) : g < w.heap.size := by
  obtain ⟨u, hu⟩ := Option.isSome_iff_exists.1 ((h 0 (by omega)).2 0 (by omega)).1
  exact World.block_lt_of_cell? w _ hu
theorem own_block {H : Type} {P : Program} {k : TypeId} {R : Value → Option (DataW H × List MemPlace)} {w w' : World} {b n : Nat} {D : DataW H} (h : w.ownsMap P k R b n D) (hb : w'.heap[b]? = w.heap[b]?) : w'.ownsMap P k R b n D := by
  obtain ⟨es, clock, h1, r⟩ := h
  exact ⟨es, clock, hb.trans h1, r⟩
theorem own_tight {H : Type} {P : Program} {k : TypeId} {R : Value → Option (DataW H × List MemPlace)} {w : World} {b n : Nat} {D : DataW H} (h : w.ownsMap P k R b n D) : w.ownsMap P k R b (Maps.size D) D := by
  obtain ⟨es, clock, h1, F, _, rfl⟩ := h
  exact ⟨es, clock, h1, F, by rw [Maps.size_eq, length_read]; exact Nat.le_refl _, rfl⟩

section
variable {w w' : World} {d g m : Nat} {D : Dk}
theorem DiskAt.dlt (h : DiskAt w d g m D) : d < w.heap.size := by obtain ⟨cap, hc⟩ := h.cells; exact (Array.getElem?_eq_some_iff.1 hc).1
theorem DiskAt.glt (h : DiskAt w d g m D) : g < w.heap.size := h.rows.lt h.ok.n0
theorem DiskAt.mlt (h : DiskAt w d g m D) : m < w.heap.size := h.map.lt
theorem DiskAt.dm (h : DiskAt w d g m D) : d ≠ m := fun e => by
  obtain ⟨cap, hc⟩ := h.cells
  obtain ⟨es, clock, h1, _⟩ := h.map
  rw [← e, hc] at h1
  cases h1
theorem DiskAt.gm (h : DiskAt w d g m D) : g ≠ m := fun e => by
  obtain ⟨u, hu⟩ := Option.isSome_iff_exists.1 ((h.rows 0 h.ok.n0).2 0 (by omega)).1
  obtain ⟨es, clock, h1, _⟩ := h.map
  simp [World.cell?, e, h1] at hu
theorem DiskAt.trd {S : Nat → Prop} (h : DiskAt w d g m D) (ht : Trd S w w') (hd : ¬ S d) (hg : ¬ S g) (hm : ¬ S m) : DiskAt w' d g m D := by
  refine ⟨h.ok, h.dg, ?_, h.rows.block (ht.block _ h.glt hg), own_block h.map (ht.block _ h.mlt hm)⟩
  obtain ⟨cap, hc⟩ := h.cells
  exact ⟨cap, by rw [ht.block _ h.dlt hd]; exact hc⟩
theorem DiskAt.below {B : Nat} (h : DiskAt w d g m D) (ht : Below B w w') (hB : w.heap.size ≤ B) : DiskAt w' d g m D :=
  h.trd (S := fun _ => False) (Trd.of_below ht hB) (fun h => h) (fun h => h) (fun h => h)
theorem DiskAt.same (h : DiskAt w d g m D) (hs : w'.heap = w.heap) : DiskAt w' d g m D := by
  refine ⟨h.ok, h.dg, ?_, h.rows.block (by rw [hs]), own_block h.map (by rw [hs])⟩
  obtain ⟨cap, hc⟩ := h.cells
  exact ⟨cap, by rw [hs]; exact hc⟩
/-- the receiver's cells, for the walk. -/
theorem DiskAt.five (h : DiskAt w d g m D) : ∃ cap, (w.cell? ⟨d, 0, none⟩ = some (.slice (some ⟨g, 0, none⟩) D.n cap) ∧ w.cell? ⟨d, 1, none⟩ = some (.map (some m)) ∧ w.cell? ⟨d, 2, none⟩ = some (.int .i64 D.calls) ∧ w.cell? ⟨d, 3, none⟩ = some (.int .i64 D.armed) ∧ w.cell? ⟨d, 4, none⟩ = some (.bool D.down)) ∧
    ∀ j, w.frozen? ⟨d, j, none⟩ = false := by
  obtain ⟨cap, hc⟩ := h.cells
  refine ⟨cap, ⟨?_, ?_, ?_, ?_, ?_⟩, fun j => ?_⟩ <;> first | (rw [cell_of_row _ _ _ _ _ _ hc]; rfl) | (simp [World.frozen?, hc])
theorem ErrsOn.disk {js : List Nat} {A : Nat → Addr} (h : ErrsOn js w A) (hD : DiskAt w d g m D) (ht : Trd (dskB d g m) w w') : ErrsOn js w' A := fun i hi => by
  have h1 := h i hi
  rw [World.cell?_of_block (w := w) (ht.block _ (World.block_lt_of_cell? w _ h1) ?_)]
  · exact h1
  · intro hs
    simp only at hs
    rcases hs with e | e | e
    · obtain ⟨cap, ⟨c0, _⟩, _⟩ := hD.five
      rw [e, c0] at h1
      cases h1
    · obtain ⟨u, hu⟩ : ∃ x : Int, w.cell? ⟨g, 0, none⟩ = some (.int .u8 x) := by
        have hl := (hD.ok.fl 0 hD.ok.n0).1
        refine ⟨(D.fl 0)[0], ?_⟩
        have := (hD.rows 0 hD.ok.n0).1 0 (.int .u8 (D.fl 0)[0]) (by simp [secV, List.getElem?_eq_getElem (show 0 < (D.fl 0).length by omega)])
        simpa using this
      rw [e, hu] at h1
      cases h1
    · obtain ⟨es, clock, h2, _⟩ := hD.map
      rw [e] at h1
      simp [World.cell?, h2] at h1
/-- a cell of the struct is written. -/
theorem heap_setCell_row {w : World} {b o : Nat} {cs : Array Value} {t : TypeId} {fr : Nat × Nat} (h : w.heap[b]? = some (.cells cs t fr)) (v : Value) : (w.setCell ⟨b, o, none⟩ v).heap[b]? = some (.cells (cs.setIfInBounds o v) t fr) := by
  simp [World.setCell, Array.getElem?_modify, h]
theorem DiskAt.setArmed (h : DiskAt w d g m D) (n : Int) (hn : -9223372036854775808 ≤ n) (hn2 : n ≤ 9223372036854775807) : DiskAt (w.setCell ⟨d, 3, none⟩ (.int .i64 n)) d g m { D with armed := n } := by
  refine ⟨h.ok.arm hn hn2, h.dg, ?_, h.rows.block (Below.heap_setCell _ _ _ _ (Ne.symm h.dg)), own_block h.map (Below.heap_setCell _ _ _ _ (Ne.symm h.dm))⟩
  obtain ⟨cap, hc⟩ := h.cells
  exact ⟨cap, heap_setCell_row hc _⟩
theorem DiskAt.setDown (h : DiskAt w d g m D) (b : Bool) : DiskAt (w.setCell ⟨d, 4, none⟩ (.bool b)) d g m { D with down := b } := by
  refine ⟨⟨h.ok.n0, h.ok.n1, h.ok.fl, h.ok.ps, h.ok.rising, h.ok.armed⟩, h.dg, ?_, h.rows.block (Below.heap_setCell _ _ _ _ (Ne.symm h.dg)), own_block h.map (Below.heap_setCell _ _ _ _ (Ne.symm h.dm))⟩
  obtain ⟨cap, hc⟩ := h.cells
  exact ⟨cap, heap_setCell_row hc _⟩
theorem DiskAt.setCalls (h : DiskAt w d g m D) (n : Int) : DiskAt (w.setCell ⟨d, 2, none⟩ (.int .i64 n)) d g m { D with calls := n } := by
  refine ⟨⟨h.ok.n0, h.ok.n1, h.ok.fl, h.ok.ps, h.ok.rising, h.ok.armed⟩, h.dg, ?_, h.rows.block (Below.heap_setCell _ _ _ _ (Ne.symm h.dg)), own_block h.map (Below.heap_setCell _ _ _ _ (Ne.symm h.dm))⟩
  obtain ⟨cap, hc⟩ := h.cells
  exact ⟨cap, heap_setCell_row hc _⟩
/-- one sector is written. -/
theorem heap_setCells_other (b : Nat) : ∀ (vs : List Value) (o : Nat) (w : World) (k : Nat), k ≠ b → (w.setCells b o vs).heap[k]? = w.heap[k]?
  | [], _, _, _, _ => rfl
  | v :: r, o, w, k, h => by rw [World.setCells, heap_setCells_other b r _ _ k h, Below.heap_setCell _ _ _ _ h]
theorem RowsAt.store {n : Nat} {fl : Nat → List Int} (h : RowsAt w g n fl) {i : Nat} (hi : i < n) (hl : ∀ j, j < n → (fl j).length = 128) {s : List Int} (hs : s.length = 128) : RowsAt (w.setCells g (i * 128) (secV s)) g n (upd fl i s) := fun j hj => by
  have ht := (h i hi).2
  refine ⟨?_, World.there_setCells (h j hj).2 _ _ _⟩
  unfold upd
  split
  · rename_i e
    subst e
    exact World.rangeAt_setCells_same _ _ _ _ (by rw [secV_len, hs]; exact ht)
  · rename_i e
    refine World.rangeAt_setCells_apart (h j hj).1 _ _ _ (.inr ?_)
    rw [secV_len, secV_len, hs, hl j hj]
    omega
/-- the first bytes of one sector are written. -/
theorem RowsAt.part {n : Nat} {fl : Nat → List Int} (h : RowsAt w g n fl) {i : Nat} (hi : i < n) (hl : ∀ j, j < n → (fl j).length = 128) {s : List Int} {k : Nat} (hk : k ≤ 128) (hs : s.length = 128) : RowsAt (w.setCells g (i * 128) (secV (s.take k))) g n (upd fl i (s.take k ++ (fl i).drop k)) := fun j hj => by
  have ht := (h i hi).2
  refine ⟨?_, World.there_setCells (h j hj).2 _ _ _⟩
  have hk' : (secV (s.take k)).length = k := by rw [secV_len, List.length_take]; omega
  unfold upd
  split
  · rename_i e
    subst e
    have h1 := World.rangeAt_setCells_same w g (j * 128) (secV (s.take k)) (fun q hq => ht q (by omega))
    intro q v hv
    by_cases hq : q < k
    · exact h1 q v (by
        rw [secV, List.map_append, List.getElem?_append_left (by simpa [hs] using by omega)] at hv
        exact hv)
    · have hv' : (secV (fl j))[q]? = some v := by
        rw [secV, List.map_append, List.getElem?_append_right (by simp [hs]; omega)] at hv
        simp only [List.length_map, List.length_take, hs] at hv
        rw [List.map_drop, List.getElem?_drop] at hv
        rw [show k + (q - min k 128) = q by omega] at hv
        exact hv
      have := (h j hj).1 q v hv'
      rw [World.cell?_setCells_out g _ _ _ _ (fun _ _ => .inr (by rw [hk']; show j * 128 + k ≤ j * 128 + q; omega))]
      exact this
  · rename_i e
    refine World.rangeAt_setCells_apart (h j hj).1 _ _ _ (.inr ?_)
    rw [secV_len, hk', hl j hj]
    omega
theorem DiskAt.setRow {vs : List Value} {o : Nat} {fl : Nat → List Int} (h : DiskAt w d g m D) (hr : RowsAt (w.setCells g o vs) g D.n fl) (hf : ∀ i, i < D.n → secOk (fl i)) : DiskAt (w.setCells g o vs) d g m { D with fl := fl } := by
  refine ⟨⟨h.ok.n0, h.ok.n1, hf, h.ok.ps, h.ok.rising, h.ok.armed⟩, h.dg, ?_, hr, own_block h.map (heap_setCells_other _ _ _ _ _ (Ne.symm h.gm))⟩
  obtain ⟨cap, hc⟩ := h.cells
  exact ⟨cap, by rw [heap_setCells_other _ _ _ _ _ h.dg]; exact hc⟩
end
end Go.Proofs.YtcjjjoodnddoeaaDoor
