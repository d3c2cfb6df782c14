/-
  A ladder of cuts in memory; isStep, isCut, Get, Fx, SetFx, Set.
-/
import Derived.Test.YthlepeeejmeahaaDoorCutMath
import Derived.Test.YthlepeeejmeahaaDoorErr
import Derived.Test.YthlepeeejmeahaaDoorMem
import Derived.BigQuiet
import Derived.Deep.RegionHeld3
namespace Go.Proofs.YthlepeeejmeahaaDoor
open Go.RowKit Go.Maps
set_option linter.unusedVariables false

abbrev stpV (s : StepT) : Value := .agg #[.int .i64 s.1, .int .i64 s.2]
abbrev stpO (s : StepT) : Obj := .cells #[.int .i64 s.1, .int .i64 s.2] 42
theorem below_st (w : World) (s : StepT) : Below w.heap.size w (w.alloc (stpO s)) := (Below.refl _ w).alloc (Nat.le_refl _) _
theorem step_laid : laidOutB Tryd.prog = true := by kernel_rfl
theorem step_key {c b : Int} (h1 : -9223372036854775808 ≤ c) (h2 : c ≤ 9223372036854775807) (h3 : -9223372036854775808 ≤ b) (h4 : b ≤ 9223372036854775807) :
    keyOf Tryd.prog 42 (.agg #[.int .i64 c, .int .i64 b]) = some (.string (keyBytes [.int .i64 c, .int .i64 b])) := by
  have w1 : (Lit.int .i64 c).wf = true := WalkArith.wf_i64 (by omega)
  have w2 : (Lit.int .i64 b).wf = true := WalkArith.wf_i64 (by omega)
  have hu := Tryd.underlying42
  have hi := Tryd.underlying3
  have c1 : Tryd.prog.cellsOf 3 = 1 := by kernel_rfl
  have c2 : Tryd.prog.cellsOf 42 = 2 := by kernel_rfl
  have hk : Tryd.prog.keyType 42 = true := by kernel_rfl
  obtain ⟨m, hm⟩ : ∃ m, Tryd.prog.types.size = m + 1 := Nat.exists_eq_succ_of_ne_zero (of_decide_eq_true (by kernel_rfl))
  unfold keyOf
  simp only [hu]
  rw [if_pos (by simp [hk, Value.formed, hu, c2]), hm]
  unfold Program.keyLits
  simp only [hu, Value.cells]
  rw [if_pos (by simp [c2])]
  simp [Program.keyLits, hi, c1, w1, w2]
theorem step_enc : KeyEnc Tryd.prog 42 stpV stIn where
  law := Keyed.of_law (deep_law_laid step_laid (m := 3) (by decide) (of_decide_eq_true (by kernel_rfl)) (by kernel_rfl) (by kernel_rfl))
  key := fun s hs => ⟨_, step_key hs.1.1 hs.1.2 hs.2.1 hs.2.2⟩
  inj := fun a b h => by
    obtain ⟨a1, a2⟩ := a
    obtain ⟨b1, b2⟩ := b
    simp only [stpV, Value.agg.injEq, Array.mk.injEq, List.cons.injEq, Value.int.injEq, true_and, and_true] at h
    rw [h.1, h.2]
theorem cut_zero (w : World) : (zeroValue 2).run Tryd.prog w = .ok (.int .i64 0) w := by kernel_rfl

/-- block g is a ladder with this table, of at most n entries, and this cut of what is not in the base; all of it lies from block B on. -/
structure LadAt (w : World) (B g n : Nat) (T : StepT → Option Int) (fx : Int) : Prop where
  ex : ∃ m, w.heap[g]? = some (.cells #[.map m, .int .i64 fx] 28 (0, 0)) ∧ KeyVar Tryd.prog 42 2 .i64 stpV stIn w m n T ∧ ∀ b, m = some b → B ≤ b
  low : B ≤ g
  cut : CutT T
  fxOk : bpOk fx
theorem ladAt_new (w : World) : LadAt (w.alloc (.cells #[.map none, .int .i64 0] 28)) w.heap.size w.heap.size 0 noT 0 :=
  ⟨⟨none, heap_alloc_new w _, rfl, fun b h => by cases h⟩, Nat.le_refl _, noT_cut, by unfold bpOk; omega⟩
/-- the blocks of a ladder. -/
def ladB (w : World) (g : Nat) (k : Nat) : Prop := k = g ∨ w.cell? ⟨g, 0, none⟩ = some (.map (some k))
section
variable {w w' : World} {B g n : Nat} {T : StepT → Option Int} {fx : Int}
theorem LadAt.lt (h : LadAt w B g n T fx) : g < w.heap.size := by
  obtain ⟨m, hg, _⟩ := h.ex
  exact (Array.getElem?_eq_some_iff.1 hg).1
theorem LadAt.same (h : LadAt w B g n T fx) (hb : ∀ i, i < w.heap.size → w'.heap[i]? = w.heap[i]?) : LadAt w' B g n T fx := by
  obtain ⟨m, hg, hm, hB⟩ := h.ex
  exact ⟨⟨m, (hb _ h.lt).trans hg, hm.same fun b e => hb _ (hm.lt b e), hB⟩, h.low, h.cut, h.fxOk⟩
theorem LadAt.below {N : Nat} (h : LadAt w B g n T fx) (hb : Below N w w') (hN : w.heap.size ≤ N) : LadAt w' B g n T fx := h.same fun i hi => hb.block i (by omega)
theorem LadAt.base {B' : Nat} (h : LadAt w B g n T fx) (hb : B' ≤ B) : LadAt w B' g n T fx := by
  obtain ⟨m, hg, hm, hB⟩ := h.ex
  exact ⟨⟨m, hg, hm, fun b e => Nat.le_trans hb (hB b e)⟩, Nat.le_trans hb h.low, h.cut, h.fxOk⟩
/-- where a call turns other blocks alone. -/
theorem LadAt.trd {S : Nat → Prop} (h : LadAt w B g n T fx) (ht : Trd S w w') (hS : ∀ k, ladB w g k → ¬ S k) : LadAt w' B g n T fx := by
  obtain ⟨m, hg, hm, hB⟩ := h.ex
  refine ⟨⟨m, (ht.block _ h.lt (hS _ (.inl rfl))).trans hg, hm.same fun b e => ht.block _ (hm.lt b e) (hS _ (.inr ?_)), hB⟩, h.low, h.cut, h.fxOk⟩
  rw [cell_of_row _ _ _ _ _ _ hg, e]
  rfl
theorem LadAt.blocks (h : LadAt w B g n T fx) {k : Nat} (hk : ladB w g k) : k < w.heap.size ∧ B ≤ k ∧ (k = g ∨ ∃ es c, w.heap[k]? = some (.map es c)) := by
  obtain ⟨m, hg, hm, hB⟩ := h.ex
  rcases hk with rfl | hk
  · exact ⟨h.lt, h.low, .inl rfl⟩
  · rw [cell_of_row _ _ _ _ _ _ hg] at hk
    simp at hk
    subst hk
    exact ⟨hm.lt k rfl, hB k rfl, .inr (KeyTab.isMap hm)⟩
theorem LadAt.keeps (h : LadAt w B g n T fx) (ht : Trd (ladB w g) w w') (hB : B ≤ w.heap.size) : Below B w w' := ht.below (fun k hk => (h.blocks hk).2.1) hB
theorem LadAt.setFx (h : LadAt w B g n T fx) {x : Int} (hx : bpOk x) : LadAt (w.setCell ⟨g, 1, none⟩ (.int .i64 x)) B g n T x := by
  obtain ⟨m, hg, hm, hB⟩ := h.ex
  refine ⟨⟨m, heap_setCell_row hg _, hm.same fun b e => Below.heap_setCell _ _ _ _ ?_, hB⟩, h.low, h.cut, hx⟩
  rintro rfl
  subst e
  obtain ⟨es, c, he⟩ := KeyTab.isMap hm
  rw [hg] at he
  cases he
end

theorem isStep_ways (s : StepT) : (decide (1 ≤ s.1) = false ∧ decide (stOk s) = false) ∨ (decide (1 ≤ s.1) = true ∧ decide (s.1 ≤ 6) = false ∧ decide (stOk s) = false) ∨ (decide (1 ≤ s.1) = true ∧ decide (s.1 ≤ 6) = true ∧ decide (0 ≤ s.2) = false ∧ decide (stOk s) = false) ∨
    (decide (1 ≤ s.1) = true ∧ decide (s.1 ≤ 6) = true ∧ decide (0 ≤ s.2) = true ∧ decide (s.2 < 6) = false ∧ decide (stOk s) = false) ∨ (decide (1 ≤ s.1) = true ∧ decide (s.1 ≤ 6) = true ∧ decide (0 ≤ s.2) = true ∧ decide (s.2 < 6) = true ∧ decide (stOk s) = true) := by
  simp only [decide_eq_true_iff, decide_eq_false_iff_not]
  unfold stOk
  omega
theorem isStep_any (s : StepT) (w : World) : Calls Tryd.prog 23 #[stpV s] w fun e w' => e = .returned (.bool (decide (stOk s))) ∧ Below w.heap.size w w' := by
  have hb := hidden (below_st w s)
  have hw := isStep_ways s
  generalize hv : decide (stOk s) = v at *
  clear hv
  obtain ⟨c, b⟩ := s
  rcases hw with ⟨t1, q⟩ | ⟨t1, t2, q⟩ | ⟨t1, t2, t3, q⟩ | ⟨t1, t2, t3, t4, q⟩ | ⟨t1, t2, t3, t4, q⟩
  all_goals
    subst q
    go_enter Tryd.func23, Tryd.ntmps23
    go_wp2
    go_ret
    exact ⟨rfl, hb.out⟩
theorem bpOk_ways (x : Int) : (decide (0 ≤ x) = false ∧ decide (bpOk x) = false) ∨ (decide (0 ≤ x) = true ∧ decide (x ≤ 10000) = false ∧ decide (bpOk x) = false) ∨ (decide (0 ≤ x) = true ∧ decide (x ≤ 10000) = true ∧ decide (bpOk x) = true) := by
  simp only [decide_eq_true_iff, decide_eq_false_iff_not]
  unfold bpOk
  omega
theorem isCut_any (x : Int) (w : World) : Calls Tryd.prog 24 #[.int .i64 x] w fun e w' => e = .returned (.bool (decide (bpOk x))) ∧ w = w' := by
  rcases bpOk_ways x with ⟨t1, q⟩ | ⟨t1, t2, q⟩ | ⟨t1, t2, q⟩
  all_goals
    replace q := hidden q
    go_enter Tryd.func24, Tryd.ntmps24
    go_wp2
    go_ret
    exact ⟨ret_bool q.out.symm, rfl⟩
theorem fx_any (w : World) (B g n : Nat) (T : StepT → Option Int) (fx : Int) (h : LadAt w B g n T fx) : Calls Tryd.prog 16 #[.pointer (some ⟨g, 0, none⟩)] w fun e w' => e = .returned (.int .i64 fx) ∧ Below w.heap.size w w' := by
  obtain ⟨m, hg, _⟩ := h.ex
  have c1 : w.cell? ⟨g, 1, none⟩ = some (.int .i64 fx) := by rw [cell_of_row _ _ _ _ _ _ hg]; rfl
  clear h hg
  go_enter Tryd.func16, Tryd.ntmps16
  go_wp2
  go_ret
  exact ⟨rfl, Below.refl _ _⟩
/-- what is read in Get: the map's variable, the step's cells, what is found. -/
abbrev GetS (w0 : World) (g k n : Nat) (m : Option Nat) (T : StepT → Option Int) (c b v : Int) (W : World) : Prop :=
  (W.cell? ⟨g, 0, none⟩ = some (.map m) ∧ W.cell? ⟨k, 0, none⟩ = some (.int .i64 c) ∧ W.cell? ⟨k, 1, none⟩ = some (.int .i64 b)) ∧
  (Instr.lookup 26 (.map m) (.agg #[.int .i64 c, .int .i64 b]) false).run Tryd.prog W = .ok (.int .i64 v) W ∧
  KeyVar Tryd.prog 42 2 .i64 stpV stIn W m n T ∧ Below w0.heap.size w0 W
theorem getS_drew {w0 W : World} {g k n : Nat} {m : Option Nat} {T : StepT → Option Int} {c b v : Int} (hs : stIn (c, b)) (hv : v = (T (c, b)).getD 0) (h : GetS w0 g k n m T c b v W) : GetS w0 g k n m T c b v W.drew := by
  obtain ⟨h1, _, h3, h4⟩ := h
  have h5 : KeyVar Tryd.prog 42 2 .i64 stpV stIn W.drew m n T := h3.same fun _ _ => rfl
  refine ⟨h1, ?_, h5, h4.drew⟩
  rw [hv]
  exact h5.look step_enc Tryd.underlying26 Tryd.underlying2 (cut_zero _) (c, b) hs
set_option maxHeartbeats 1600000 in
theorem get_anyC (w : World) (B g n : Nat) (T : StepT → Option Int) (fx : Int) (h : LadAt w B g n T fx) (s : StepT) (hs : stIn s) : Calls Tryd.prog 14 #[.pointer (some ⟨g, 0, none⟩), stpV s] w fun e w' => e = .returned (.int .i64 (getT T s)) ∧ Below w.heap.size w w' := by
  obtain ⟨c, b⟩ := s
  obtain ⟨m, hg, hm, _⟩ := (h.below (below_st w (c, b)) (Nat.le_refl _)).ex
  have hh := heap_alloc_new w (stpO (c, b))
  have s0 := hidden (show GetS w g w.heap.size n m T c b (getT T (c, b)) (w.alloc (stpO (c, b))) from
    ⟨⟨by rw [cell_of_row _ _ _ _ _ _ hg]; rfl, by rw [cell_of_row _ _ _ _ _ _ hh]; rfl, by rw [cell_of_row _ _ _ _ _ _ hh]; rfl⟩, hm.look step_enc Tryd.underlying26 Tryd.underlying2 (cut_zero _) (c, b) hs, hm, below_st w (c, b)⟩)
  have hd := hidden (fun W (h : GetS w g w.heap.size n m T c b (getT T (c, b)) W) => (show GetS w g w.heap.size n m T c b (getT T (c, b)) W.drew from getS_drew hs rfl h))
  generalize getT T (c, b) = v at *
  clear h hg hm hs hh
  go_enter Tryd.func14, Tryd.ntmps14
  go_wp2_with fail
  go_region_held3 (fun W => (W.cell? ⟨g, 0, none⟩ = some (.map m) ∧ W.cell? ⟨w.heap.size, 0, none⟩ = some (.int .i64 c) ∧ W.cell? ⟨w.heap.size, 1, none⟩ = some (.int .i64 b)) ∧
      (Instr.lookup 26 (.map m) (.agg #[.int .i64 c, .int .i64 b]) false).run Tryd.prog W = .ok (.int .i64 v) W ∧
      KeyVar Tryd.prog 42 2 .i64 stpV stIn W m n T ∧ Below w.heap.size w W)
    ((first | exact hd.out _ s0.out | exact hd.out _ (by assumption)))
    (fail)
  go_wp2
  go_ret
  exact ⟨rfl, (hd.out _ s0.out).2.2.2⟩
end Go.Proofs.YthlepeeejmeahaaDoor
