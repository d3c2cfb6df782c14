import Derived.Test.YtbjiiddlpfjipaaDoorAssetLaw
import Derived.Test.YtbjiiddlpfjipaaDoorLaidOn
namespace Go.Proofs.YtbjiiddlpfjipaaDoor
open Go.RowKit
set_option linter.unusedVariables false

theorem lfB_lt {e t : Int} (h : 1 ≤ e) (h2 : t < e) : lfB e t = true := decide_eq_true (.inr h2)
theorem lfB_ge {e t : Int} (h : 1 ≤ e) (h2 : e ≤ t) : lfB e t = false := decide_eq_false (by omega)
/-- four assets side by side. -/
structure Four (W : World) (g : Nat) (a b c d : As) : Prop where
  a : AsAt W g a
  b : AsAt W (g + 1) b
  c : AsAt W (g + 1 + 1) c
  d : AsAt W (g + 1 + 1 + 1) d
theorem Four.below {w w' : World} {g : Nat} {a b c d : As} (h : Four w g a b c d) (hb : Below w.heap.size w w') : Four w' g a b c d := ⟨h.a.below hb, h.b.below hb, h.c.below hb, h.d.below hb⟩
theorem four_new (w : World) (a b c d : As) : Four ((((w.alloc (asO a)).alloc (asO b)).alloc (asO c)).alloc (asO d)) w.heap.size a b c d := by
  have h1 := asAt_new w a
  have h2 := asAt_new (w.alloc (asO a)) b
  have h3 := asAt_new ((w.alloc (asO a)).alloc (asO b)) c
  have h4 := asAt_new (((w.alloc (asO a)).alloc (asO b)).alloc (asO c)) d
  simp only [World.size_alloc] at h2 h3 h4
  exact ⟨((h1.below (below_as _ _)).below (below_as _ _)).below (below_as _ _), (h2.below (below_as _ _)).below (below_as _ _), h3.below (below_as _ _), h4⟩
set_option maxRecDepth 100000 in
set_option maxHeartbeats 4000000 in
theorem walk_assetEnds (n t : Int) (A : Nat → Addr) (w : World) (hn : -9223372036854775808 ≤ n) (hn2 : n ≤ 9223372036854775807) (ht : -9223372036854775808 ≤ t) (ht2 : t ≤ 9223372036854775807) (hS : Sents w A) :
    Calls Tryd.prog 5 #[.int .i64 n, .int .i64 t] w fun e w' => e = .returned (.bool true) ∧ Below w.heap.size w w' := by
  have hI := hidden (fun W (h : Below w.heap.size w W) => is_any A 103 103 W (hS.below h (Nat.le_refl _)) (.inr (by decide)))
  have hV := hidden (fun (a : As) W (h : Below w.heap.size w W) => valid_any A a W ((hS.on [2] (by decide)).below h (Nat.le_refl _)))
  have hN := hidden (fun w => number_any n 40000 w hn hn2 (by decide) (by decide))
  have x0 : 0 ≤ n % 40000 := by omega
  have x1 : n % 40000 ≤ 39999 := by omega
  clear hS hn hn2
  generalize n % 40000 = x at *
  have e1 := hidden (lfB_lt (e := x + 1) (t := x) (by omega) (by omega))
  have e3 := hidden (show lfB (x + 1) t = decide (t < x + 1) by unfold lfB; rw [decide_eq_decide]; omega)
  have e2 := hidden (lfB_ge (e := x + 1) (t := x + 1) (by omega) (by omega))
  have e4 := hidden (show lfB 0 t = true from decide_eq_true (.inl rfl))
  have v1 := hidden (show vC ⟨1, 0, 3, 2, x + 1⟩ = 0 from if_pos ⟨⟨⟨by simp, by simp⟩, ⟨by simp, by simp⟩, ⟨by simp, by simp⟩, ⟨by simp, by simp⟩, by simp; omega, by simp; omega⟩, fun h => by simp at h⟩)
  have v2 := hidden (show vC ⟨1, 0, 1, 2, x + 1⟩ = 103 from if_neg fun h => by have := (h.2 rfl).2; simp at this; omega)
  have v3 := hidden (show vC ⟨1, 1, 1, 2, 0⟩ = 103 from by decide)
  have v4 := hidden (show vC ⟨1, 0, 1, 2, 0⟩ = 0 from by decide)
  go_enter Tryd.func5, Tryd.ntmps5
  go_wp2_with fail
  refine (law10_first w).mono ?_
  rintro e w1 ⟨rfl, hb⟩
  have hb1 := hidden hb
  clear hb
  go_wp2_with (go_at_call 23; with_reducible refine (hN.out _).mono ?_; rintro e w' ⟨rfl, rfl⟩)
  have hF := hidden (four_new w1 ⟨1, 0, 3, 2, x + 1⟩ ⟨1, 0, 1, 2, x + 1⟩ ⟨1, 1, 1, 2, 0⟩ ⟨1, 0, 1, 2, 0⟩)
  replace hb1 := hidden ((((hb1.out.trans ((below_as w1 ⟨1, 0, 3, 2, x + 1⟩).mono hb1.out.size)).alloc (by have := hb1.out.size; simp; omega) (asO ⟨1, 0, 1, 2, x + 1⟩)).alloc (by have := hb1.out.size; simp; omega) (asO ⟨1, 1, 1, 2, 0⟩)).alloc (by have := hb1.out.size; simp; omega) (asO ⟨1, 0, 1, 2, 0⟩))
  refine (live_any ⟨1, 0, 3, 2, x + 1⟩ x _ (by simp; try omega) (by simp; try omega) (by omega) (by omega)).mono ?_
  rintro e w2 ⟨rfl, hb⟩
  try clear c0 c1 c2 c3 c4
  replace hF := hidden (hF.out.below hb)
  replace hb1 := hidden (hb1.out.trans (hb.mono hb1.out.size))
  clear hb
  rw [e1.out]
  obtain ⟨c0, c1, c2, c3, c4⟩ := hF.out.a.cells
  go_wp2_with fail
  refine (live_any ⟨1, 0, 3, 2, x + 1⟩ (x + 1) _ (by simp; try omega) (by simp; try omega) (by omega) (by omega)).mono ?_
  rintro e w3 ⟨rfl, hb⟩
  try clear c0 c1 c2 c3 c4
  replace hF := hidden (hF.out.below hb)
  replace hb1 := hidden (hb1.out.trans (hb.mono hb1.out.size))
  clear hb
  rw [e2.out]
  obtain ⟨c0, c1, c2, c3, c4⟩ := hF.out.a.cells
  go_wp2_with fail
  refine (live_any ⟨1, 0, 3, 2, x + 1⟩ t _ (by simp; try omega) (by simp; try omega) (by omega) (by omega)).mono ?_
  rintro e w4 ⟨rfl, hb⟩
  try clear c0 c1 c2 c3 c4
  replace hF := hidden (hF.out.below hb)
  replace hb1 := hidden (hb1.out.trans (hb.mono hb1.out.size))
  clear hb
  rw [e3.out]
  obtain ⟨c0, c1, c2, c3, c4⟩ := hF.out.d.cells
  go_wp2_with fail
  refine (live_any ⟨1, 0, 1, 2, 0⟩ t _ (by simp; try omega) (by simp; try omega) (by omega) (by omega)).mono ?_
  rintro e w5 ⟨rfl, hb⟩
  try clear c0 c1 c2 c3 c4
  replace hF := hidden (hF.out.below hb)
  replace hb1 := hidden (hb1.out.trans (hb.mono hb1.out.size))
  clear hb
  rw [e4.out]
  obtain ⟨c0, c1, c2, c3, c4⟩ := hF.out.a.cells
  go_wp2_with fail
  refine (hV.out ⟨1, 0, 3, 2, x + 1⟩ _ hb1.out).mono ?_
  rintro e w6 ⟨rfl, hb⟩
  try clear c0 c1 c2 c3 c4
  replace hF := hidden (hF.out.below hb)
  replace hb1 := hidden (hb1.out.trans (hb.mono hb1.out.size))
  clear hb
  rw [v1.out, errOf_fine]
  obtain ⟨c0, c1, c2, c3, c4⟩ := hF.out.b.cells
  go_wp2_with fail
  refine (hV.out ⟨1, 0, 1, 2, x + 1⟩ _ hb1.out).mono ?_
  rintro e w7 ⟨rfl, hb⟩
  try clear c0 c1 c2 c3 c4
  replace hF := hidden (hF.out.below hb)
  replace hb1 := hidden (hb1.out.trans (hb.mono hb1.out.size))
  clear hb
  rw [v2.out]
  go_wp2_with fail
  refine (hI.out _ hb1.out).mono ?_
  rintro e w8 ⟨rfl, hb⟩
  try clear c0 c1 c2 c3 c4
  replace hF := hidden (hF.out.below hb)
  replace hb1 := hidden (hb1.out.trans (hb.mono hb1.out.size))
  clear hb
  obtain ⟨c0, c1, c2, c3, c4⟩ := hF.out.c.cells
  go_wp2_with fail
  refine (hV.out ⟨1, 1, 1, 2, 0⟩ _ hb1.out).mono ?_
  rintro e w9 ⟨rfl, hb⟩
  try clear c0 c1 c2 c3 c4
  replace hF := hidden (hF.out.below hb)
  replace hb1 := hidden (hb1.out.trans (hb.mono hb1.out.size))
  clear hb
  rw [v3.out]
  go_wp2_with fail
  refine (hI.out _ hb1.out).mono ?_
  rintro e w10 ⟨rfl, hb⟩
  try clear c0 c1 c2 c3 c4
  replace hF := hidden (hF.out.below hb)
  replace hb1 := hidden (hb1.out.trans (hb.mono hb1.out.size))
  clear hb
  obtain ⟨c0, c1, c2, c3, c4⟩ := hF.out.d.cells
  go_wp2_with fail
  refine (hV.out ⟨1, 0, 1, 2, 0⟩ _ hb1.out).mono ?_
  rintro e w11 ⟨rfl, hb⟩
  try clear c0 c1 c2 c3 c4
  replace hF := hidden (hF.out.below hb)
  replace hb1 := hidden (hb1.out.trans (hb.mono hb1.out.size))
  clear hb
  rw [v4.out, errOf_fine]
  go_wp2
  go_ret
  exact ⟨rfl, hb1.out⟩
end Go.Proofs.YtbjiiddlpfjipaaDoor
