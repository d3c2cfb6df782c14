/-
  Valid, and the document's own; which of two entries stands ahead, both ways; the same entry.
-/
import Derived.Test.YtfoiclgipnlfnaaDoorSchedMath
import Derived.Test.YtfoiclgipnlfnaaDoorIn10
import Derived.Test.YtfoiclgipnlfnaaDoorCmp
import Derived.Test.YtfoiclgipnlfnaaDoorMem
import Derived.Test.YtfoiclgipnlfnaaDoorErr
import Derived.Deep.RegionHeld3
import Derived.RegionTactic
import Derived.ChangeAlike
namespace Go.Proofs.YtfoiclgipnlfnaaDoor
open Go.RowKit
set_option linter.unusedVariables false

abbrev enO (e : En) : Obj := .cells #[.int .i64 e.d, .int .i64 e.c, .bool e.o] 25
theorem below_en (w : World) (e : En) : Below w.heap.size w (w.alloc (enO e)) := (Below.refl _ w).alloc (Nat.le_refl _) _
theorem scWithin_any (n l h : Int) (w : World) : Calls Tryd.prog 23 #[.int .i64 n, .int .i64 l, .int .i64 h] w fun e w' => e = .returned (.bool (inB n l h)) ∧ w = w' := by
  rcases inB_ways n l h with ⟨t1, t2, q⟩ | ⟨t1, q⟩ | ⟨t1, t2, q⟩
  all_goals
    replace q := hidden q
    go_enter Tryd.func23, Tryd.ntmps23
    go_wp2
    go_ret
    exact ⟨ret_bool q.out.symm, rfl⟩
theorem validE_ways (e : En) : (inB e.d 0 40000 = false ∧ vE e = 103) ∨ (inB e.d 0 40000 = true ∧ inB e.c 1 6 = false ∧ vE e = 103) ∨ (inB e.d 0 40000 = true ∧ inB e.c 1 6 = true ∧ vE e = 0) := by
  cases h1 : inB e.d 0 40000
  · exact .inl ⟨rfl, if_neg fun h => inB_no h1 h.1⟩
  cases h2 : inB e.c 1 6
  · exact .inr (.inl ⟨rfl, rfl, if_neg fun h => inB_no h2 h.2⟩)
  · exact .inr (.inr ⟨rfl, rfl, if_pos ⟨inB_yes h1, inB_yes h2⟩⟩)
theorem refValidE_any (e : En) (w : World) : Calls Tryd.prog 10 #[enA e] w fun r w' => r = .returned (.int .i64 (vE e)) ∧ Below w.heap.size w w' := by
  have hb := hidden (below_en w e)
  have hw := validE_ways e
  generalize hv : vE e = v at *
  clear hv
  obtain ⟨d, c, o⟩ := e
  rcases hw with ⟨t1, q⟩ | ⟨t1, t2, q⟩ | ⟨t1, t2, q⟩
  all_goals
    subst q
    go_enter Tryd.func10, Tryd.ntmps10
    go_wp2_with (go_at_call 24; refine (in_any _ _ _ _).mono ?_; rintro e w' ⟨rfl, rfl⟩)
    go_ret
    exact ⟨rfl, hb.out⟩
theorem validE_any (A : Nat → Addr) (e : En) (w : World) (hE : ErrsOn [2] w A) : Calls Tryd.prog 9 #[enA e] w fun r w' => r = .returned (errOf A (vE e)) ∧ Below w.heap.size w w' := by
  have hb := hidden (below_en w e)
  have c2 : w.cell? ⟨0, 0, none⟩ = some (errAt (A 2)) := hE 2 (by simp)
  have c3 : (w.alloc (enO e)).cell? ⟨0, 0, none⟩ = some (errAt (A 2)) := by
    rw [World.cell?_alloc_lt _ _ _ (World.block_lt_of_cell? w _ c2)]; exact c2
  have hw := validE_ways e
  clear hE c2
  generalize hv : vE e = v at *
  clear hv
  obtain ⟨d, c, o⟩ := e
  rcases hw with ⟨t1, q⟩ | ⟨t1, t2, q⟩ | ⟨t1, t2, q⟩
  all_goals
    subst q
    go_enter Tryd.func9, Tryd.ntmps9
    go_wp2_with (go_at_call 23; refine (scWithin_any _ _ _ _).mono ?_; rintro e w' ⟨rfl, rfl⟩)
    go_ret
    exact ⟨rfl, hb.out⟩

/-! Which stands ahead. -/
def ordE (a b : En) : Int := orL [sgv a.d b.d, sgv a.c b.c]
theorem ordE_neg (a b : En) : decide (ordE a b < 0) = decide (aheadE a b) := by
  rw [Bool.eq_iff_iff, decide_eq_true_iff, decide_eq_true_iff]
  unfold ordE aheadE sgv
  simp only [orL]
  repeat' split
  all_goals omega
theorem ordE_zero (a b : En) : (ordE a b == 0) = decide (¬ aheadE a b ∧ ¬ aheadE b a) := by
  rw [Bool.eq_iff_iff, beq_iff_eq, decide_eq_true_iff]
  unfold ordE aheadE sgv
  simp only [orL]
  repeat' split
  all_goals omega
theorem reads_two (w : World) (e : TypeId) (x y : Int) : Reads .i64 (w.alloc (.cells #[.int .i64 x, .int .i64 y] e)).drew (.slice (some ⟨w.heap.size, 0, none⟩) 2 2) [x, y] :=
  (reads_new (k := .i64) (w := w) (e := e) #[.int .i64 x, .int .i64 y] [x, y] 2 rfl rfl (by decide)).same fun _ _ => rfl
abbrev FourIn (d c d' c' : Int) (g h : Nat) (W : World) : Prop :=
  W.cell? ⟨g, 0, none⟩ = some (.int .i64 d) ∧ W.cell? ⟨g, 1, none⟩ = some (.int .i64 c) ∧ W.cell? ⟨h, 0, none⟩ = some (.int .i64 d') ∧ W.cell? ⟨h, 1, none⟩ = some (.int .i64 c')
theorem FourIn.alloc {d c d' c' : Int} {g h : Nat} {W : World} (s : FourIn d c d' c' g h W) (o : Obj) : FourIn d c d' c' g h (W.alloc o) := by
  obtain ⟨h1, h2, h3, h4⟩ := s
  refine ⟨?_, ?_, ?_, ?_⟩ <;> (rw [World.cell?_alloc_lt _ _ _ (World.block_lt_of_cell? W _ (by assumption))]; assumption)
theorem fourIn_new (w : World) (a b : En) : FourIn a.d a.c b.d b.c w.heap.size (w.heap.size + 1) ((w.alloc (enO a)).alloc (enO b)) := by
  have h1 := heap_alloc_new w (enO a)
  have h2 := heap_alloc_new (w.alloc (enO a)) (enO b)
  have h3 : ((w.alloc (enO a)).alloc (enO b)).heap[w.heap.size]? = some (enO a) := by rw [heap_alloc_old _ _ (by simp)]; exact h1
  have e : (w.alloc (enO a)).heap.size = w.heap.size + 1 := by simp
  rw [e] at h2
  refine ⟨?_, ?_, ?_, ?_⟩
  · rw [cell_of_row _ _ _ _ _ _ h3]; rfl
  · rw [cell_of_row _ _ _ _ _ _ h3]; rfl
  · rw [cell_of_row _ _ _ _ _ _ h2]; rfl
  · rw [cell_of_row _ _ _ _ _ _ h2]; rfl
set_option maxHeartbeats 1600000 in
theorem order_any (a b : En) (w : World) : Calls Tryd.prog 26 #[enA a, enA b] w fun e w' => e = .returned (.int .i64 (ordE a b)) ∧ Below w.heap.size w w' := by
  have s0 := hidden (fourIn_new w a b)
  have hOr := hidden (orL_any _ _ _ (reads_two ((w.alloc (enO a)).alloc (enO b)) 3 (sgv a.d b.d) (sgv a.c b.c)))
  rw [show ((w.alloc (enO a)).alloc (enO b)).heap.size = w.heap.size + 1 + 1 by simp] at hOr
  have hlow := hidden (fun o => ((((Below.refl w.heap.size w).alloc (Nat.le_refl _) (enO a)).alloc (by simp) (enO b)).alloc (by simp; omega) o).drew)
  have hq := hidden (show orL [sgv a.d b.d, sgv a.c b.c] = ordE a b from rfl)
  generalize ordE a b = q at *
  obtain ⟨d, c, o⟩ := a
  obtain ⟨d', c', o'⟩ := b
  go_enter Tryd.func26, Tryd.ntmps26
  go_wp2_with fail
  go_region_held3 (fun W => W.cell? ⟨w.heap.size, 0, none⟩ = some (.int .i64 d) ∧ W.cell? ⟨w.heap.size, 1, none⟩ = some (.int .i64 c) ∧ W.cell? ⟨w.heap.size + 1, 0, none⟩ = some (.int .i64 d') ∧ W.cell? ⟨w.heap.size + 1, 1, none⟩ = some (.int .i64 c'))
    ((first | exact s0.out | exact s0.out.alloc _))
    (first
      | (go_at_call 32; refine (cmpInt_any _ _ _).mono ?_; rintro r w3 ⟨rfl, rfl⟩)
      | (go_at_call 31; with_reducible refine hOr.out.mono ?_; rintro r w3 ⟨rfl, rfl⟩))
  go_wp2
  go_ret
  exact ⟨ret_int hq.out, hlow.out _⟩
theorem ahead_waysE (a b : En) : (decide (a.d < b.d) = true ∧ decide (aheadE a b) = true) ∨ (decide (a.d < b.d) = false ∧ (a.d == b.d) = false ∧ decide (aheadE a b) = false) ∨
    (decide (a.d < b.d) = false ∧ (a.d == b.d) = true ∧ decide (a.c < b.c) = true ∧ decide (aheadE a b) = true) ∨ (decide (a.d < b.d) = false ∧ (a.d == b.d) = true ∧ decide (a.c < b.c) = false ∧ decide (aheadE a b) = false) := by
  simp only [decide_eq_true_iff, decide_eq_false_iff_not, beq_iff_eq, beq_eq_false_iff_ne]
  unfold aheadE
  omega
theorem below_twoE (w : World) (a b : En) : Below w.heap.size w ((w.alloc (enO a)).alloc (enO b)) := ((Below.refl _ w).alloc (Nat.le_refl _) _).alloc (by simp) _
theorem refAheadE_any (a b : En) (w : World) : Calls Tryd.prog 19 #[enA a, enA b] w fun e w' => e = .returned (.bool (decide (aheadE a b))) ∧ Below w.heap.size w w' := by
  have hb := hidden (below_twoE w a b)
  have hw := ahead_waysE a b
  generalize hv : decide (aheadE a b) = v at *
  clear hv
  obtain ⟨d, c, o⟩ := a
  obtain ⟨d', c', o'⟩ := b
  rcases hw with ⟨t1, q⟩ | ⟨t1, t2, q⟩ | ⟨t1, t2, t3, q⟩ | ⟨t1, t2, t3, q⟩
  all_goals
    subst q
    go_enter Tryd.func19, Tryd.ntmps19
    go_wp2
    go_ret
    exact ⟨rfl, hb.out⟩
theorem sameE_any (a : En) (w : World) : Calls Tryd.prog 27 #[enA a, enA a] w fun e w' => e = .returned (.bool true) ∧ Below w.heap.size w w' := by
  have hb := hidden (below_twoE w a a)
  obtain ⟨d, c, o⟩ := a
  go_enter Tryd.func27, Tryd.ntmps27
  go_wp2
  go_ret
  exact ⟨rfl, hb.out⟩
end Go.Proofs.YtfoiclgipnlfnaaDoor
