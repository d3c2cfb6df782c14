/-
  first, light, other; problems that the statements make.
-/
import Derived.Test.YtpfieoemojnioaaDoorLots9
namespace Go.Proofs.YtpfieoemojnioaaDoor
open Go.RowKit
set_option linter.unusedVariables false

/-- a problem in new memory. -/
theorem pbr_new (w : World) (L : List Lt) (C : List Int) (n m : Nat) (csL csC : Array Value) (hL : csL = (L.flatMap ltV).toArray) (hC : csC = (C.map (Value.int .i64)).toArray) (hn : L.length = n) (hm : C.length = m) (hn1 : n ≤ 1000) (hm1 : m ≤ 1000)
    (hb : ∀ x ∈ L, ltBig x) (hc : ∀ c ∈ C, In64 c) : PbR ((w.alloc (.cells csL ltTy)).alloc (.cells csC 2)) (.slice (some ⟨w.heap.size, 0, none⟩) n n) (.slice (some ⟨w.heap.size + 1, 0, none⟩) m m) L C := by
  refine ⟨(row_new ltV_len csL L n hn hL (by omega)).below ltV_len ((Below.refl _ _).alloc (Nat.le_refl _) _) (Nat.le_refl _), ?_, hb, hc⟩
  subst hC
  have e : (w.alloc (.cells csL ltTy)).heap.size = w.heap.size + 1 := by simp
  have h := heap_alloc_new (w.alloc (.cells csL ltTy)) (.cells (C.map (Value.int .i64)).toArray 2)
  rw [e] at h
  exact reads_block h hm (by omega)
theorem below_pb3 (w : World) (o1 o2 o3 : Obj) : Below w.heap.size w (((w.alloc o1).alloc o2).alloc o3) := (((Below.refl _ w).alloc (Nat.le_refl _) o1).alloc (by simp) o2).alloc (by simp; omega) o3
theorem light_any (lv cv : Value) (L : List Lt) (C : List Int) (n : Int) (w : World) (h : PbR w lv cv L C) :
    Calls Tryd.prog 9 #[pbA lv cv n] w fun e w' => e = .returned (.bool (decide (L.length ≤ 20 ∧ C.length ≤ 20))) ∧ Below w.heap.size w w' := by
  have hb := hidden (below_pb w pbTy lv cv n)
  obtain ⟨la, lc, rfl⟩ := row_slice h.lots
  obtain ⟨ca, cc, rfl⟩ := reads_slice h.caps
  clear h
  by_cases h1 : L.length ≤ 20
  · have d1 : decide ((L.length : Int) ≤ 20) = true := decide_eq_true (by omega)
    by_cases h2 : C.length ≤ 20
    · have d2 : decide ((C.length : Int) ≤ 20) = true := decide_eq_true (by omega)
      have hr := hidden (show decide (L.length ≤ 20 ∧ C.length ≤ 20) = true from decide_eq_true ⟨h1, h2⟩)
      go_enter Tryd.func9, Tryd.ntmps9
      go_wp2
      go_ret
      exact ⟨ret_bool hr.out.symm, hb.out⟩
    · have d2 : decide ((C.length : Int) ≤ 20) = false := decide_eq_false (by omega)
      have hr := hidden (show decide (L.length ≤ 20 ∧ C.length ≤ 20) = false from decide_eq_false (fun q => h2 q.2))
      go_enter Tryd.func9, Tryd.ntmps9
      go_wp2
      go_ret
      exact ⟨ret_bool hr.out.symm, hb.out⟩
  · have d1 : decide ((L.length : Int) ≤ 20) = false := decide_eq_false (by omega)
    have hr := hidden (show decide (L.length ≤ 20 ∧ C.length ≤ 20) = false from decide_eq_false (fun q => h1 q.1))
    go_enter Tryd.func9, Tryd.ntmps9
    go_wp2
    go_ret
    exact ⟨ret_bool hr.out.symm, hb.out⟩
theorem pb_size : (Tryd.prog.info? pbTyR).map (·.size) = some 3 := by kernel_rfl
theorem pb_end1 {fn : Func} {p : Tmp} {R : Ending → World → Prop} {a : Act} {w : World} {g : Nat} {lv cv : Value} {n : Int} (h : fn.results = #[.cell p pbTyR]) (hd : a.defers = []) (hp : a.tmps.getD p undef = .pointer (some ⟨g, 0, none⟩)) (hg : PbAt w g pbTyR lv cv n)
    (hR : R (.returned (pbA lv cv n)) w) : bodyPost Tryd.prog fn R .ret a w :=
  bodyPost_ret (results_cell_row h _ _ _ _ _ _ _ hp hg.row Tryd.underlying29 rfl pb_size) hd hR
theorem other18_any (la ca : Option Addr) (l lc m cc : Nat) (n : Int) (w : World) : Calls Tryd.prog 10 #[pbA (.slice la l lc) (.slice ca m cc) n] w fun e w' => e = .returned (pbA (.slice la l lc) (.slice ca m cc) n) ∧ Below w.heap.size w w' := by
  have h1 := hidden (pbAt_new (w.alloc (pbO pbTy (.slice la l lc) (.slice ca m cc) n)) pbTyR (.slice la l lc) (.slice ca m cc) n)
  have h2 := hidden (((Below.refl w.heap.size w).alloc (Nat.le_refl _) (pbO pbTy (.slice la l lc) (.slice ca m cc) n)).alloc (by simp) (pbO pbTyR (.slice la l lc) (.slice ca m cc) n))
  go_enter Tryd.func10, Tryd.ntmps10
  go_wp2_with fail
  refine pb_end1 (lv := .slice la l lc) (cv := .slice ca m cc) (n := n) (g := w.heap.size + 1) rfl rfl rfl ?_ ⟨rfl, ?_⟩
  · simpa only [World.size_alloc] using h1.out
  · exact h2.out
instance (x : Lt) : Decidable (ltBig x) := by unfold ltBig In64; infer_instance
def oneL : List Lt := [⟨3, 5, 1, 0⟩]
theorem oneL_ok : OkP oneL [0] 0 := by decide
theorem oneL_gr : grB oneL [0] 0 = true ∧ grL oneL [0] 0 = [0] ∧ moV oneL [0] 0 = 15 := by decide
set_option maxRecDepth 100000 in
set_option maxHeartbeats 6400000 in
theorem law18_first (A : Nat → Addr) (w : World) (hE : ErrsOn [2, 4] w A) : Calls Tryd.prog 8 #[] w fun e w' => e = .returned (.bool true) ∧ Below w.heap.size w w' := by
  have hpr := pbr_new w oneL [0] 1 1 #[.int .i64 3, .int .i64 5, .int .i64 1, .int .i64 0] #[.int .i64 0] rfl rfl rfl rfl (by decide) (by decide) (by decide) (by decide)
  have hb3 := hidden (below_pb3 w (.cells #[.int .i64 3, .int .i64 5, .int .i64 1, .int .i64 0] ltTy) (.cells #[.int .i64 0] 2) (pbO pbTy (.slice (some ⟨w.heap.size, 0, none⟩) 1 1) (.slice (some ⟨w.heap.size + 1, 0, none⟩) 1 1) 0))
  have hbp := below_pb ((w.alloc (.cells #[.int .i64 3, .int .i64 5, .int .i64 1, .int .i64 0] ltTy)).alloc (.cells #[.int .i64 0] 2)) pbTy (.slice (some ⟨w.heap.size, 0, none⟩) 1 1) (.slice (some ⟨w.heap.size + 1, 0, none⟩) 1 1) 0
  have hP := hidden (hpr.below hbp (Nat.le_refl _))
  have hpa := pbAt_new ((w.alloc (.cells #[.int .i64 3, .int .i64 5, .int .i64 1, .int .i64 0] ltTy)).alloc (.cells #[.int .i64 0] 2)) pbTy (.slice (some ⟨w.heap.size, 0, none⟩) 1 1) (.slice (some ⟨w.heap.size + 1, 0, none⟩) 1 1) 0
  have hG := hidden (ltGreedy_any A _ _ oneL [0] 0 _ hP.out (hE.below hb3.out (Nat.le_refl _)))
  unfold GreedyAt at hG
  rw [oneL_gr.1, oneL_gr.2.1] at hG
  have hM := hidden (fun W (h2 : Below (((w.alloc (.cells #[.int .i64 3, .int .i64 5, .int .i64 1, .int .i64 0] ltTy)).alloc (.cells #[.int .i64 0] 2)).alloc (pbO pbTy (.slice (some ⟨w.heap.size, 0, none⟩) 1 1) (.slice (some ⟨w.heap.size + 1, 0, none⟩) 1 1) 0)).heap.size (((w.alloc (.cells #[.int .i64 3, .int .i64 5, .int .i64 1, .int .i64 0] ltTy)).alloc (.cells #[.int .i64 0] 2)).alloc (pbO pbTy (.slice (some ⟨w.heap.size, 0, none⟩) 1 1) (.slice (some ⟨w.heap.size + 1, 0, none⟩) 1 1) 0)) W) => ltMost_any A _ _ oneL [0] 0 W (hP.out.below h2 (Nat.le_refl _)) (by decide) (hE.below (hb3.out.trans (h2.mono hb3.out.size)) (Nat.le_refl _)))
  rw [oneL_gr.2.2] at hM
  have hpc := hidden (fun W h2 => (hpa.below (w' := W) h2 (Nat.le_refl _)).cells)
  clear hE hpr hbp hpa hP
  go_enter Tryd.func8, Tryd.ntmps8
  go_wp2_with fail
  (with_reducible refine hG.out.mono ?_)
  rintro e w1 ⟨v, rfl, hr, hb1⟩
  obtain ⟨va, vc, rfl⟩ := reads_slice hr
  obtain ⟨b, o, rfl, cv⟩ := hr.cell 0 (by decide)
  obtain ⟨c0, c1, c2⟩ := hpc.out _ hb1
  simp only [World.size_alloc] at c0 c1 c2
  have hM1 := hidden (hM.out _ hb1)
  have hb4 := hidden (hb3.out.trans (hb1.mono hb3.out.size))
  have hnn := Nat.add_zero o
  simp only [List.getD_cons_zero, Nat.add_zero] at cv
  simp only [List.length_cons, List.length_nil, Nat.zero_add]
  clear hG hM hb1 hr hpc
  go_wp2_with fail
  (with_reducible refine hM1.out.mono ?_)
  rintro e w2 ⟨rfl, hb2⟩
  replace hb2 := hidden (hb4.out.trans (hb2.mono hb4.out.size))
  clear hM1
  go_wp2
  go_ret
  exact ⟨rfl, hb2.out⟩
end Go.Proofs.YtpfieoemojnioaaDoor
