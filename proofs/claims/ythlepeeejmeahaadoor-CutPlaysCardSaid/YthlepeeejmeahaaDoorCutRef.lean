/-
  The document's own cuts: Set, Get, SetFx, Of.
-/
import Derived.Test.YthlepeeejmeahaaDoorCut4
import Derived.Test.YthlepeeejmeahaaDoorRefDay
import Derived.Deep.WholeRow
namespace Go.Proofs.YthlepeeejmeahaaDoor
open Go.RowKit Go.Maps
set_option linter.unusedVariables false

def cutAt (T : StepT → Option Int) (fx : Int) (i : Nat) : Value := if i < 36 then .int .i64 (getT T (stepAt i)) else if i < 72 then .bool (T (stepAt (i - 36))).isSome else .int .i64 fx
def cutC (T : StepT → Option Int) (fx : Int) : Array Value := ((List.range 73).map (cutAt T fx)).toArray
theorem cutC_at (T : StepT → Option Int) (fx : Int) (i : Nat) (h : i < 73) : (cutC T fx)[i]? = some (cutAt T fx i) := by
  simp [cutC, h]
theorem cutC_size (T : StepT → Option Int) (fx : Int) : (cutC T fx).size = 73 := by simp [cutC]
theorem cuts_zero (w : World) : (zeroValue 34).run Tryd.prog w = .ok (.agg (cutC noT 0)) w :=
  (zero_of_info (n := 73) (show (Tryd.prog.info? 34).map (fun i => (i.zero, i.size)) = some (some (.agg (cutC noT 0)), 73) by kernel_rfl)).1 w
/-- block g is the document's cuts. -/
structure CutsAt (w : World) (g : Nat) (T : StepT → Option Int) (fx : Int) : Prop where
  row : w.heap[g]? = some (.cells (cutC T fx) 34 (0, 0))
  cut : CutT T
  fxOk : bpOk fx
theorem cutsAt_new (w : World) : CutsAt (w.alloc (.cells (cutC noT 0) 34)) w.heap.size noT 0 := ⟨heap_alloc_new w _, noT_cut, by unfold bpOk; omega⟩
section
variable {w w' : World} {g : Nat} {T : StepT → Option Int} {fx : Int}
theorem CutsAt.lt (h : CutsAt w g T fx) : g < w.heap.size := (Array.getElem?_eq_some_iff.1 h.row).1
theorem CutsAt.block (h : CutsAt w g T fx) (hb : w'.heap[g]? = w.heap[g]?) : CutsAt w' g T fx := ⟨hb.trans h.row, h.cut, h.fxOk⟩
theorem CutsAt.below (h : CutsAt w g T fx) (hb : Below w.heap.size w w') : CutsAt w' g T fx := h.block (hb.block _ h.lt)
theorem CutsAt.trd {S : Nat → Prop} (h : CutsAt w g T fx) (ht : Trd S w w') (hg : ¬ S g) : CutsAt w' g T fx := h.block (ht.block _ h.lt hg)
theorem CutsAt.cell (h : CutsAt w g T fx) (i : Nat) (hi : i < 73) : w.cell? ⟨g, i, none⟩ = some (cutAt T fx i) := by
  rw [cell_of_row _ _ _ _ _ _ h.row, cutC_at T fx i hi]
theorem CutsAt.bp (h : CutsAt w g T fx) (k j : Nat) (hk : k < 6) (hj : j < 6) : w.cell? ⟨g, k * 6 + j, none⟩ = some (.int .i64 (getT T ((k : Int) + 1, (j : Int)))) := by
  have e : stepAt (k * 6 + j) = ((k : Int) + 1, (j : Int)) := by
    unfold stepAt
    rw [show (k * 6 + j) / 6 = k by omega, show (k * 6 + j) % 6 = j by omega]
  rw [h.cell _ (by omega), cutAt, if_pos (by omega), e]
theorem CutsAt.is (h : CutsAt w g T fx) (k j : Nat) (hk : k < 6) (hj : j < 6) : w.cell? ⟨g, 36 + (k * 6 + j), none⟩ = some (.bool (T ((k : Int) + 1, (j : Int))).isSome) := by
  have e : stepAt (k * 6 + j) = ((k : Int) + 1, (j : Int)) := by
    unfold stepAt
    rw [show (k * 6 + j) / 6 = k by omega, show (k * 6 + j) % 6 = j by omega]
  rw [h.cell _ (by omega), cutAt, if_neg (by omega), if_pos (by omega), show 36 + (k * 6 + j) - 36 = k * 6 + j by omega, e]
theorem CutsAt.fxc (h : CutsAt w g T fx) : w.cell? ⟨g, 72, none⟩ = some (.int .i64 fx) := by rw [h.cell _ (by omega)]; rfl
theorem CutsAt.frozen (h : CutsAt w g T fx) (j : Nat) : w.frozen? ⟨g, j, none⟩ = false := by simp [World.frozen?, h.row]
theorem CutsAt.setFx (h : CutsAt w g T fx) {x : Int} (hx : bpOk x) : CutsAt (w.setCell ⟨g, 72, none⟩ (.int .i64 x)) g T x := by
  refine ⟨?_, h.cut, hx⟩
  rw [heap_setCell_row h.row]
  congr 2
theorem CutsAt.put (h : CutsAt w g T fx) {k j : Nat} (hk : k < 6) (hj : j < 6) {x : Int} (hx : bpOk x) :
    CutsAt ((w.setCell ⟨g, k * 6 + j, none⟩ (.int .i64 x)).setCell ⟨g, 36 + (k * 6 + j), none⟩ (.bool true)) g (updK T ((k : Int) + 1, (j : Int)) x) fx := by
  have e : stepAt (k * 6 + j) = ((k : Int) + 1, (j : Int)) := by
    unfold stepAt
    rw [show (k * 6 + j) / 6 = k by omega, show (k * 6 + j) % 6 = j by omega]
  have hok := stepAt_ok (k := k * 6 + j) (by omega)
  have hcut := h.cut.set (stepAt (k * 6 + j)) x
  unfold setT at hcut
  rw [if_pos ⟨hok, hx⟩] at hcut
  rw [← e]
  refine ⟨?_, hcut, h.fxOk⟩
  rw [heap_setCell_row (heap_setCell_row h.row _)]
  congr 2
  apply Array.ext_getElem?
  intro i
  rw [Array.getElem?_setIfInBounds, Array.size_setIfInBounds, Array.getElem?_setIfInBounds, cutC_size]
  generalize hp : k * 6 + j = p at *
  have hp36 : p < 36 := by omega
  by_cases hi : i < 73
  · rw [cutC_at _ _ i hi, cutC_at _ _ i hi]
    unfold cutAt getT
    by_cases e1 : 36 + p = i
    · subst e1
      have h2 : ¬ (36 + p < 36) := by omega
      have h3 : 36 + p < 72 := by omega
      rw [if_pos rfl, if_pos (by omega), if_neg h2, if_pos h3, show 36 + p - 36 = p by omega, updK_same]
      rfl
    · rw [if_neg e1]
      by_cases e2 : p = i
      · subst e2
        rw [if_pos rfl, if_pos (by omega), if_pos hp36, updK_same]
        rfl
      · rw [if_neg e2]
        by_cases h2 : i < 36
        · rw [if_pos h2, if_pos h2, updK_other _ _ (fun q => e2 (stepAt_inj q).symm)]
        · rw [if_neg h2, if_neg h2]
          by_cases h3 : i < 72
          · rw [if_pos h3, if_pos h3, updK_other _ _ (fun q => e1 (by have := stepAt_inj q; omega))]
          · rw [if_neg h3, if_neg h3]
  · rw [if_neg (by omega), if_neg (by omega)]
    simp [cutC, hi]
end

theorem in_no {n l h : Int} (q : ¬ (l ≤ n ∧ n ≤ h)) : inB n l h = false := decide_eq_false q
theorem in_yes {n l h : Int} (q : l ≤ n ∧ n ≤ h) : inB n l h = true := decide_eq_true q
theorem refSet_ways (c d x : Int) : (inB c 1 6 = false ∧ ¬ stOk (c, d)) ∨ (inB c 1 6 = true ∧ inB d 0 5 = false ∧ ¬ stOk (c, d)) ∨ (inB c 1 6 = true ∧ inB d 0 5 = true ∧ x < 0 ∧ ¬ bpOk x) ∨ (inB c 1 6 = true ∧ inB d 0 5 = true ∧ 10000 < x ∧ ¬ bpOk x) ∨ (inB c 1 6 = true ∧ inB d 0 5 = true ∧ 0 ≤ x ∧ x ≤ 10000 ∧ stOk (c, d) ∧ bpOk x) := by
  unfold stOk bpOk inB
  simp only [decide_eq_true_iff, decide_eq_false_iff_not]
  omega
def RefSetAt (g : Nat) (T : StepT → Option Int) (fx c d x : Int) (w : World) (e : Ending) (w' : World) : Prop :=
  e = .returned (.int .i64 (setC (c, d) x)) ∧ CutsAt w' g (setT T (c, d) x) fx ∧ Trd (· = g) w w'
set_option maxHeartbeats 1600000 in
theorem refSet_any (w : World) (g : Nat) (T : StepT → Option Int) (fx c d x : Int) (h : CutsAt w g T fx) :
    Calls Tryd.prog 10 #[.pointer (some ⟨g, 0, none⟩), .int .i64 c, .int .i64 d, .int .i64 x] w (RefSetAt g T fx c d x w) := by
  unfold RefSetAt
  have hw := refSet_ways c d x
  rcases hw with ⟨t1, q⟩ | ⟨t1, t2, q⟩ | ⟨t1, t2, t3, q⟩ | ⟨t1, t2, t3, q⟩ | ⟨t1, t2, t3, t4, q1, q2⟩
  iterate 4
    · rw [show setC (c, d) x = 103 by unfold setC; rw [if_neg (fun z => by first | exact q z.1 | exact q z.2)], show setT T (c, d) x = T by unfold setT; rw [if_neg (fun z => by first | exact q z.1 | exact q z.2)]]
      replace h := hidden h
      clear q
      go_enter Tryd.func10, Tryd.ntmps10
      go_wp2_with (go_at_call 25; refine (in_any _ _ _ _).mono ?_; rintro e w' ⟨rfl, rfl⟩)
      go_ret
      exact ⟨rfl, h.out, Trd.refl _ _⟩
  · obtain ⟨k, rfl⟩ : ∃ k : Nat, c = (k : Int) + 1 := ⟨(c - 1).toNat, by unfold stOk at q1; omega⟩
    obtain ⟨j, rfl⟩ : ∃ j : Nat, d = (j : Int) := ⟨d.toNat, by unfold stOk at q1; omega⟩
    have hk : k < 6 := by unfold stOk at q1; simp only at q1; omega
    have hj : j < 6 := by unfold stOk at q1; simp only at q1; omega
    rw [show setC ((k : Int) + 1, (j : Int)) x = 0 from if_pos ⟨q1, q2⟩, show setT T ((k : Int) + 1, (j : Int)) x = updK T ((k : Int) + 1, (j : Int)) x from if_pos ⟨q1, q2⟩]
    have c1 := h.bp k j hk hj
    have f1 := h.frozen (k * 6 + j)
    have hrw := heap_setCell_row (o := k * 6 + j) h.row (.int .i64 x)
    have f2 : (w.setCell ⟨g, k * 6 + j, none⟩ (.int .i64 x)).frozen? ⟨g, 36 + k * 6 + j, none⟩ = false := by simp [World.frozen?, hrw]
    have c2 : ∃ u, (w.setCell ⟨g, k * 6 + j, none⟩ (.int .i64 x)).cell? ⟨g, 36 + k * 6 + j, none⟩ = some u := by
      rw [cell_of_row _ _ _ _ _ _ hrw, Array.getElem?_setIfInBounds, if_neg (by omega), cutC_at _ _ _ (by omega)]
      exact ⟨_, rfl⟩
    obtain ⟨u2, c2⟩ := c2
    have hp := h.put hk hj q2
    rw [← Nat.add_assoc] at hp
    replace hp := hidden hp
    have hkI : (k : Int) < 6 := by omega
    have hjI : (j : Int) < 6 := by omega
    have ht := hidden ((Trd.setCell (S := (· = g)) w ⟨g, k * 6 + j, none⟩ (.int .i64 x) rfl).trans (Trd.setCell (S := (· = g)) _ ⟨g, 36 + k * 6 + j, none⟩ (.bool true) rfl))
    clear h q1 q2 hrw
    go_enter Tryd.func10, Tryd.ntmps10
    go_wp2_with (go_at_call 25; refine (in_any _ _ _ _).mono ?_; rintro e w' ⟨rfl, rfl⟩)
    go_ret
    exact ⟨rfl, hp.out, ht.out⟩

theorem refSetFx_any (w : World) (g : Nat) (T : StepT → Option Int) (fx x : Int) (h : CutsAt w g T fx) :
    Calls Tryd.prog 12 #[.pointer (some ⟨g, 0, none⟩), .int .i64 x] w fun e w' => e = .returned (.int .i64 (fxC x)) ∧ CutsAt w' g T (fxN fx x) ∧ Trd (· = g) w w' := by
  by_cases hx : bpOk x
  · rw [show fxC x = 0 from if_pos hx, show fxN fx x = x from if_pos hx]
    have c1 := h.fxc
    have f1 := h.frozen 72
    have hp := hidden (h.setFx hx)
    have ht := hidden (Trd.setCell (S := (· = g)) w ⟨g, 72, none⟩ (.int .i64 x) rfl)
    obtain ⟨x1, x2⟩ := hx
    clear h
    go_enter Tryd.func12, Tryd.ntmps12
    go_wp2
    go_ret
    exact ⟨rfl, hp.out, ht.out⟩
  · rw [show fxC x = 103 from if_neg hx, show fxN fx x = fx from if_neg hx]
    replace h := hidden h
    by_cases h0 : x < 0
    · clear hx
      go_enter Tryd.func12, Tryd.ntmps12
      go_wp2
      go_ret
      exact ⟨rfl, h.out, Trd.refl _ _⟩
    · have h1 : 10000 < x := by unfold bpOk at hx; omega
      have h0 : 0 ≤ x := by omega
      clear hx
      go_enter Tryd.func12, Tryd.ntmps12
      go_wp2
      go_ret
      exact ⟨rfl, h.out, Trd.refl _ _⟩
theorem refGet_ways (c d : Int) : (inB c 1 6 = false ∧ ¬ stOk (c, d)) ∨ (inB c 1 6 = true ∧ inB d 0 5 = false ∧ ¬ stOk (c, d)) ∨ (inB c 1 6 = true ∧ inB d 0 5 = true ∧ stOk (c, d)) := by
  unfold stOk inB
  simp only [decide_eq_true_iff, decide_eq_false_iff_not]
  omega
theorem refGet_any (w : World) (g : Nat) (T : StepT → Option Int) (fx c d : Int) (h : CutsAt w g T fx) :
    Calls Tryd.prog 15 #[.pointer (some ⟨g, 0, none⟩), .int .i64 c, .int .i64 d] w fun e w' => e = .returned (.int .i64 (getT T (c, d))) ∧ w = w' := by
  have hw := refGet_ways c d
  rcases hw with ⟨t1, q⟩ | ⟨t1, t2, q⟩ | ⟨t1, t2, q⟩
  iterate 2
    · rw [show getT T (c, d) = 0 by unfold getT; rw [h.cut.out q]; rfl]
      clear h q
      go_enter Tryd.func15, Tryd.ntmps15
      go_wp2_with (go_at_call 25; refine (in_any _ _ _ _).mono ?_; rintro e w' ⟨rfl, rfl⟩)
      go_ret
      exact ⟨rfl, rfl⟩
  · obtain ⟨k, rfl⟩ : ∃ k : Nat, c = (k : Int) + 1 := ⟨(c - 1).toNat, by unfold stOk at q; omega⟩
    obtain ⟨j, rfl⟩ : ∃ j : Nat, d = (j : Int) := ⟨d.toNat, by unfold stOk at q; omega⟩
    have hk : k < 6 := by unfold stOk at q; simp only at q; omega
    have hj : j < 6 := by unfold stOk at q; simp only at q; omega
    have c1 := h.bp k j hk hj
    have hkI : (k : Int) < 6 := by omega
    have hjI : (j : Int) < 6 := by omega
    generalize getT T ((k : Int) + 1, (j : Int)) = v at *
    clear h q
    go_enter Tryd.func15, Tryd.ntmps15
    go_wp2_with (go_at_call 25; refine (in_any _ _ _ _).mono ?_; rintro e w' ⟨rfl, rfl⟩)
    go_ret
    exact ⟨rfl, rfl⟩
end Go.Proofs.YthlepeeejmeahaaDoor
