/-
  mostID, isLine, capped, outward.
-/
import Derived.Test.YtghkmagofadkfaaDoorCaps1
import Derived.Test.YtghkmagofadkfaaDoorCapsMath2
namespace Go.Proofs.YtghkmagofadkfaaDoor
open Go.RowKit Go.Maps
set_option linter.unusedVariables false

theorem top_ways (k : Int) : ((k == 1) = true ∧ lmTop k = 6) ∨ ((k == 1) = false ∧ (k == 2) = true ∧ lmTop k = 6) ∨ ((k == 1) = false ∧ (k == 2) = false ∧ (k == 3) = true ∧ lmTop k = 32) ∨ ((k == 1) = false ∧ (k == 2) = false ∧ (k == 3) = false ∧ lmTop k = 0) := by
  unfold lmTop
  by_cases h1 : k = 1
  · subst h1; simp
  · by_cases h2 : k = 2
    · subst h2; simp
    · by_cases h3 : k = 3
      · subst h3; simp
      · simp [h1, h2, h3]
theorem top_any (k : Int) (w : World) : Calls Tryd.prog 24 #[.int .i64 k] w fun e w' => e = .returned (.int .i64 (lmTop k)) ∧ w = w' := by
  rcases top_ways k with ⟨t1, q⟩ | ⟨t1, t2, q⟩ | ⟨t1, t2, t3, q⟩ | ⟨t1, t2, t3, q⟩
  all_goals
    rw [q]
    clear q
    go_enter Tryd.func24, Tryd.ntmps24
    go_wp2
    go_ret
    exact ⟨rfl, rfl⟩

abbrev lnA (x : Ln) : Value := .agg #[.int .i64 x.c, .int .i64 x.m, .int .i64 x.i, .int .i64 x.v]
abbrev lnO (t : TypeId) (x : Ln) : Obj := .cells #[.int .i64 x.c, .int .i64 x.m, .int .i64 x.i, .int .i64 x.v] t
theorem below_ln (w : World) (t : TypeId) (x : Ln) : Below w.heap.size w (w.alloc (lnO t x)) := (Below.refl _ w).alloc (Nat.le_refl _) _
theorem isLine_ways (x : Ln) : (decide (1 ≤ x.c) = false ∧ decide (lnOk x) = false) ∨ (decide (1 ≤ x.c) = true ∧ decide (x.c ≤ 6) = false ∧ decide (lnOk x) = false) ∨
    (decide (1 ≤ x.c) = true ∧ decide (x.c ≤ 6) = true ∧ decide (1 ≤ x.m) = false ∧ decide (lnOk x) = false) ∨ (decide (1 ≤ x.c) = true ∧ decide (x.c ≤ 6) = true ∧ decide (1 ≤ x.m) = true ∧ decide (x.m ≤ 6) = false ∧ decide (lnOk x) = false) ∨
    (decide (1 ≤ x.c) = true ∧ decide (x.c ≤ 6) = true ∧ decide (1 ≤ x.m) = true ∧ decide (x.m ≤ 6) = true ∧ decide (0 ≤ x.i) = false ∧ decide (lnOk x) = false) ∨
    (decide (1 ≤ x.c) = true ∧ decide (x.c ≤ 6) = true ∧ decide (1 ≤ x.m) = true ∧ decide (x.m ≤ 6) = true ∧ decide (0 ≤ x.i) = true ∧ decide (x.i ≤ 32) = false ∧ decide (lnOk x) = false) ∨
    (decide (1 ≤ x.c) = true ∧ decide (x.c ≤ 6) = true ∧ decide (1 ≤ x.m) = true ∧ decide (x.m ≤ 6) = true ∧ decide (0 ≤ x.i) = true ∧ decide (x.i ≤ 32) = true ∧ decide (0 ≤ x.v) = false ∧ decide (lnOk x) = false) ∨
    (decide (1 ≤ x.c) = true ∧ decide (x.c ≤ 6) = true ∧ decide (1 ≤ x.m) = true ∧ decide (x.m ≤ 6) = true ∧ decide (0 ≤ x.i) = true ∧ decide (x.i ≤ 32) = true ∧ decide (0 ≤ x.v) = true ∧ decide (x.v ≤ 1000000000000000) = false ∧ decide (lnOk x) = false) ∨
    (decide (1 ≤ x.c) = true ∧ decide (x.c ≤ 6) = true ∧ decide (1 ≤ x.m) = true ∧ decide (x.m ≤ 6) = true ∧ decide (0 ≤ x.i) = true ∧ decide (x.i ≤ 32) = true ∧ decide (0 ≤ x.v) = true ∧ decide (x.v ≤ 1000000000000000) = true ∧ decide (lnOk x) = true) := by
  by_cases p1 : ¬ (1 ≤ x.c)
  · exact .inl ⟨decide_eq_false p1, decide_eq_false (fun (h : lnOk x) => p1 h.1.1)⟩
  replace p1 := Decidable.not_not.1 p1
  by_cases p2 : ¬ (x.c ≤ 6)
  · exact .inr <| .inl ⟨decide_eq_true p1, decide_eq_false p2, decide_eq_false (fun (h : lnOk x) => p2 h.1.2)⟩
  replace p2 := Decidable.not_not.1 p2
  by_cases p3 : ¬ (1 ≤ x.m)
  · exact .inr <| .inr <| .inl ⟨decide_eq_true p1, decide_eq_true p2, decide_eq_false p3, decide_eq_false (fun (h : lnOk x) => p3 h.2.1.1)⟩
  replace p3 := Decidable.not_not.1 p3
  by_cases p4 : ¬ (x.m ≤ 6)
  · exact .inr <| .inr <| .inr <| .inl ⟨decide_eq_true p1, decide_eq_true p2, decide_eq_true p3, decide_eq_false p4, decide_eq_false (fun (h : lnOk x) => p4 h.2.1.2)⟩
  replace p4 := Decidable.not_not.1 p4
  by_cases p5 : ¬ (0 ≤ x.i)
  · exact .inr <| .inr <| .inr <| .inr <| .inl ⟨decide_eq_true p1, decide_eq_true p2, decide_eq_true p3, decide_eq_true p4, decide_eq_false p5, decide_eq_false (fun (h : lnOk x) => p5 h.2.2.1.1)⟩
  replace p5 := Decidable.not_not.1 p5
  by_cases p6 : ¬ (x.i ≤ 32)
  · exact .inr <| .inr <| .inr <| .inr <| .inr <| .inl ⟨decide_eq_true p1, decide_eq_true p2, decide_eq_true p3, decide_eq_true p4, decide_eq_true p5, decide_eq_false p6, decide_eq_false (fun (h : lnOk x) => p6 h.2.2.1.2)⟩
  replace p6 := Decidable.not_not.1 p6
  by_cases p7 : ¬ (0 ≤ x.v)
  · exact .inr <| .inr <| .inr <| .inr <| .inr <| .inr <| .inl ⟨decide_eq_true p1, decide_eq_true p2, decide_eq_true p3, decide_eq_true p4, decide_eq_true p5, decide_eq_true p6, decide_eq_false p7, decide_eq_false (fun (h : lnOk x) => p7 h.2.2.2.1)⟩
  replace p7 := Decidable.not_not.1 p7
  by_cases p8 : ¬ (x.v ≤ 1000000000000000)
  · exact .inr <| .inr <| .inr <| .inr <| .inr <| .inr <| .inr <| .inl ⟨decide_eq_true p1, decide_eq_true p2, decide_eq_true p3, decide_eq_true p4, decide_eq_true p5, decide_eq_true p6, decide_eq_true p7, decide_eq_false p8, decide_eq_false (fun (h : lnOk x) => p8 h.2.2.2.2)⟩
  replace p8 := Decidable.not_not.1 p8
  exact .inr <| .inr <| .inr <| .inr <| .inr <| .inr <| .inr <| .inr <| ⟨decide_eq_true p1, decide_eq_true p2, decide_eq_true p3, decide_eq_true p4, decide_eq_true p5, decide_eq_true p6, decide_eq_true p7, decide_eq_true p8, decide_eq_true ⟨⟨p1, p2⟩, ⟨p3, p4⟩, ⟨p5, p6⟩, ⟨p7, p8⟩⟩⟩
theorem isLine_any (x : Ln) (w : World) : Calls Tryd.prog 27 #[lnA x] w fun e w' => e = .returned (.bool (decide (lnOk x))) ∧ Below w.heap.size w w' := by
  have hb := hidden (below_ln w 58 x)
  have hw := isLine_ways x
  generalize hv : decide (lnOk x) = v at *
  clear hv
  obtain ⟨c, m, i, u⟩ := x
  rcases hw with ⟨t1, q⟩ | ⟨t1, t2, q⟩ | ⟨t1, t2, t3, q⟩ | ⟨t1, t2, t3, t4, q⟩ | ⟨t1, t2, t3, t4, t5, q⟩ | ⟨t1, t2, t3, t4, t5, t6, q⟩ | ⟨t1, t2, t3, t4, t5, t6, t7, q⟩ | ⟨t1, t2, t3, t4, t5, t6, t7, t8, q⟩ | ⟨t1, t2, t3, t4, t5, t6, t7, t8, q⟩
  all_goals
    subst q
    go_enter Tryd.func27, Tryd.ntmps27
    go_wp2
    go_ret
    exact ⟨rfl, hb.out⟩

theorem lm_cells (w w' : World) (c d : Int) (h : Below (w.alloc (lmO (c, d))).heap.size (w.alloc (lmO (c, d))) w') : w'.cell? ⟨w.heap.size, 0, none⟩ = some (.int .i64 c) ∧ w'.cell? ⟨w.heap.size, 1, none⟩ = some (.int .i64 d) := by
  have h1 : w'.heap[w.heap.size]? = some (lmO (c, d)) := (h.block _ (by simp)).trans (heap_alloc_new w _)
  exact ⟨by rw [cell_of_row _ _ _ _ _ _ h1]; rfl, by rw [cell_of_row _ _ _ _ _ _ h1]; rfl⟩
theorem cpCap_any (w : World) (B g n : Nat) (T : CTab) (h : CpAt w B g n T) (s : LimT) (hs : lmIn s) (x : Int) :
    Calls Tryd.prog 37 #[.pointer (some ⟨g, 0, none⟩), lmV s, .int .i64 x] w fun e w' => e = .returned (.int .i64 (capN x (getC T s))) ∧ Below w.heap.size w w' := by
  obtain ⟨c, d⟩ := s
  have hb0 := hidden (below_lm w (c, d))
  have hG := hidden (cpGet_any _ B g n T (h.below hb0.out (Nat.le_refl _)) (c, d) hs)
  have hp := (h.ho.get (c, d)).1
  generalize getC T (c, d) = m at *
  have hc := hidden (And.intro (lm_cells w (w.alloc (lmO (c, d))) c d (Below.refl _ _)).1 (lm_cells w (w.alloc (lmO (c, d))) c d (Below.refl _ _)).2)
  clear h hs
  rcases Int.lt_or_eq_of_le hp with h0 | rfl
  · rw [capN_min h0]
    go_enter Tryd.func37, Tryd.ntmps37
    go_wp2_with fail
    refine hG.out.mono ?_
    rintro r w1 ⟨rfl, hb⟩
    replace hb := hidden (hb0.out.trans (hb.mono hb0.out.size))
    clear hG hc hb0
    go_wp2
    all_goals
      go_ret
      exact ⟨ret_int (by omega), hb.out⟩
  · rw [capN_free]
    go_enter Tryd.func37, Tryd.ntmps37
    go_wp2_with fail
    refine hG.out.mono ?_
    rintro r w1 ⟨rfl, hb⟩
    replace hb := hidden (hb0.out.trans (hb.mono hb0.out.size))
    clear hG hc hb0
    go_wp2
    go_ret
    exact ⟨rfl, hb.out⟩

/-! Groups. -/
abbrev grV (s : GrpT) : Value := .agg #[.int .i64 s.1, .int .i64 s.2.1, .int .i64 s.2.2]
abbrev grO (s : GrpT) : Obj := .cells #[.int .i64 s.1, .int .i64 s.2.1, .int .i64 s.2.2] 81
theorem results_two {P : Program} {fn : Func} {p q : Tmp} {ty tz : TypeId} (h : fn.results = #[.cell p ty, .cell q tz]) (tmps : Array Value) (w : World) (g g2 : Nat) (t t2 : TypeId) (cs cs2 : Array Value) (fr fr2 : Nat × Nat) (d d2 : TypeDesc)
    (hp : tmps.getD p undef = .pointer (some ⟨g, 0, none⟩)) (hg : w.heap[g]? = some (.cells cs t fr))
    (hu : P.underlying ty = some d) (hd : (match d with | .struct _ | .array _ _ => true | _ => false) = true) (hi : (P.info? ty).map (·.size) = some cs.size)
    (hp2 : tmps.getD q undef = .pointer (some ⟨g2, 0, none⟩)) (hg2 : w.heap[g2]? = some (.cells cs2 t2 fr2))
    (hu2 : P.underlying tz = some d2) (hd2 : (match d2 with | .struct _ | .array _ _ => true | _ => false) = true) (hi2 : (P.info? tz).map (·.size) = some cs2.size) :
    (results fn tmps).run P w = .ok (.tuple #[.agg cs, .agg cs2]) w := by
  have hp' : tmps[p]?.getD undef = .pointer (some ⟨g, 0, none⟩) := by simpa using hp
  have hq' : tmps[q]?.getD undef = .pointer (some ⟨g2, 0, none⟩) := by simpa using hp2
  simp [results, h, hp', hq', asAddr, run_loadVar_row w g t ty cs fr d hg hu hd hi, run_loadVar_row w g2 t2 tz cs2 fr2 d2 hg2 hu2 hd2 hi2]
theorem lm_size : (Tryd.prog.info? 25).map (·.size) = some 2 := by kernel_rfl
theorem gr_size : (Tryd.prog.info? 81).map (·.size) = some 3 := by kernel_rfl
theorem two_end {a : Act} {w : World} {fn : Func} {R : Ending → World → Prop} {p q : Tmp} {g g2 : Nat} {l : LimT} {s : GrpT}
    (h : fn.results = #[.cell p 25, .cell q 81]) (hd : a.defers = []) (hp : a.tmps.getD p undef = .pointer (some ⟨g, 0, none⟩)) (hq : a.tmps.getD q undef = .pointer (some ⟨g2, 0, none⟩)) (hg : w.heap[g]? = some (lmO l)) (hg2 : w.heap[g2]? = some (grO s))
    (hR : R (.returned (.tuple #[lmV l, grV s])) w) : bodyPost Tryd.prog fn R .ret a w :=
  bodyPost_ret (results_two h _ _ _ _ _ _ _ _ _ _ _ _ hp hg Tryd.underlying25 rfl lm_size hq hg2 Tryd.underlying81 rfl gr_size) hd hR
theorem out_ways (s : GrpT) (k : Int) : ((k == 3) = true ∧ outL s k = (3, s.2.2) ∧ outG s k = (s.1, s.2.1, 0)) ∨ ((k == 3) = false ∧ (k == 2) = true ∧ outL s k = (2, s.2.1) ∧ outG s k = (s.1, 0, 0)) ∨ ((k == 3) = false ∧ (k == 2) = false ∧ outL s k = (1, s.1) ∧ outG s k = (0, 0, 0)) := by
  unfold outL outG
  by_cases h3 : k = 3
  · subst h3; simp
  · by_cases h2 : k = 2
    · subst h2; simp
    · simp [h2, h3]
theorem three_allocs (w : World) (a b c : Obj) : Below w.heap.size w (((w.alloc a).alloc b).alloc c) := (((Below.refl w.heap.size w).alloc (Nat.le_refl _) a).alloc (by simp) b).alloc (by simp; omega) c
theorem alloc3_one (w : World) (a b c : Obj) : (((w.alloc a).alloc b).alloc c).heap[w.heap.size + 1]? = some b := by
  rw [heap_alloc_old _ _ (by simp)]
  have := heap_alloc_new (w.alloc a) b
  simpa only [World.size_alloc] using this
theorem alloc3_two (w : World) (a b c : Obj) : (((w.alloc a).alloc b).alloc c).heap[w.heap.size + 1 + 1]? = some c := by
  have := heap_alloc_new ((w.alloc a).alloc b) c
  simpa only [World.size_alloc] using this
theorem alloc3_one' (w : World) (a b c : Obj) : (((w.alloc a).alloc b).alloc c).drew.heap[w.heap.size + 1]? = some b := alloc3_one w a b c
theorem alloc3_two' (w : World) (a b c : Obj) : (((w.alloc a).alloc b).alloc c).drew.heap[w.heap.size + 1 + 1]? = some c := alloc3_two w a b c
theorem outward_any (s : GrpT) (k : Int) (w : World) : Calls Tryd.prog 36 #[grV s, .int .i64 k] w fun e w' => e = .returned (.tuple #[lmV (outL s k), grV (outG s k)]) ∧ Below w.heap.size w w' := by
  have hb := hidden (fun a b c => three_allocs w a b c)
  rcases out_ways s k with ⟨t1, q1, q2⟩ | ⟨t1, t2, q1, q2⟩ | ⟨t1, t2, q1, q2⟩
  all_goals
    rw [q1, q2]
    clear q1 q2
    obtain ⟨a, b, c⟩ := s
    go_enter Tryd.func36, Tryd.ntmps36
    go_wp2
    try go_region
    try go_wp2
    first
      | exact two_end rfl rfl rfl rfl (alloc3_one w _ _ _) (alloc3_two w _ _ _) ⟨rfl, hb.out _ _ _⟩
      | exact two_end rfl rfl rfl rfl (alloc3_one' w _ _ _) (alloc3_two' w _ _ _) ⟨rfl, (hb.out _ _ _).drew⟩
end Go.Proofs.YtghkmagofadkfaaDoor
